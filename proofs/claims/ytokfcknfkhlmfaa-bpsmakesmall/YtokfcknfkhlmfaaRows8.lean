/-
  Rows of bytes: make by a number of 64 bits, a byte read, a byte turned, xor of bytes: plain laws, of no function of the program.
-/
import Derived.Test.YtokfcknfkhlmfaaUpsMath
import Derived.Test.YtokfcknfkhlmfaaApp
import Derived.Laws.BitsAllLaws
namespace Go.Proofs.Ytokfcknfkhlmfaa
open Go.RowKit
namespace Ups

theorem made_zero (n : Nat) : madeCells #[Value.int .u8 0] n = (bv (List.replicate n 0)).toArray := by
  rw [← Array.toList_inj]
  apply List.ext_getElem
  · simp [madeCells, bv]
  · intro i h1 h2
    simp [madeCells, bv, Nat.mod_one]

theorem make64 (n : Nat) (hn : n ≤ 1000000000) (w : World) : (Instr.makeSlice 22 (.int .u64 (n : Int)) (.int .u64 (n : Int))).run Try.prog w = .ok (.slice (some ⟨w.heap.size, 0, none⟩) n n) (w.alloc (.cells (bv (List.replicate n 0)).toArray 5)) := by
  obtain ⟨i0, hi, hz0, hz1, hz2⟩ := info_parts info5
  have hrun := run_make (P := Try.prog) w 22 5 i0 (.int .u8 0) Try.underlying22 hi hz0 .u64 .u64 (n : Int) (n : Int) (by omega) (by omega) (by rw [hz2]; omega) (by omega)
  simp only [Int.toNat_natCast] at hrun
  rw [hrun, ← made_zero, hz1, Nat.mul_one]
  rfl

/-- A byte of a row is turned. -/
theorem blk_put {w : World} {g : Nat} {l : List UInt8} (h : Blk w g 5 (bv l).toArray) (k : Nat) (x : UInt8) : Blk (w.setCell ⟨g, k, none⟩ (.int .u8 (x.toNat : Int))) g 5 (bv (l.set k x)).toArray := by
  have h1 := h.put k (.int .u8 (x.toNat : Int))
  rw [List.setIfInBounds_toArray] at h1
  rw [show bv (l.set k x) = (bv l).set k (.int .u8 (x.toNat : Int)) from by simp [bv, List.map_set]]
  exact h1
theorem blk_get {w : World} {g : Nat} {l : List UInt8} (h : Blk w g 5 (bv l).toArray) (k : Nat) (x : UInt8) (hx : l[k]? = some x) : w.cell? ⟨g, k, none⟩ = some (.int .u8 (x.toNat : Int)) := by
  obtain ⟨hk, e⟩ := List.getElem?_eq_some_iff.1 hx
  rw [h.cell k, List.getElem?_toArray, bv_get l k hk, e]
theorem xor_byte (x y : UInt8) : bits .xor .u8 (x.toNat : Int) (y.toNat : Int) = ((x ^^^ y).toNat : Int) := by
  rw [u8_xor_nat _ _ x.toNat_lt y.toNat_lt, UInt8.toNat_xor]

theorem xor_ne {x y : UInt8} (h : x ≠ y) : x ^^^ y ≠ 0 := by
  intro e
  apply h
  have h1 := congrArg (fun z => x ^^^ z) e
  simp only [xor_cancel] at h1
  rw [h1]
  simp

theorem xor_zero {x y : UInt8} (h : x ^^^ y = 0) : x = y := by
  by_cases e : x = y
  · exact e
  · exfalso
    have h1 := congrArg (fun z => x ^^^ z) h
    simp only [xor_cancel] at h1
    exact e (by rw [h1]; simp)

end Ups
end Go.Proofs.Ytokfcknfkhlmfaa
