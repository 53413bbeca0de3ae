/-
  make([]byte, n) by an int: a row of zeros: of no function of the program.
-/
import Derived.Test.YtglnpgdigdfjiaaApp
namespace Go.Proofs.Ytglnpgdigdfjiaa
open Go.RowKit
namespace Mi

theorem made_zero (n : Nat) : madeCells #[Value.int .u8 0] n = (bv (List.replicate n 0)).toArray := by
  rw [← Array.toList_inj]
  apply List.ext_getElem
  · simp [madeCells, bv]
  · intro i h1 h2
    simp [madeCells, bv, Nat.mod_one]

theorem make_i64 (n : Nat) (hn : n ≤ 1000000000) (w : World) : (Instr.makeSlice 44 (.int .i64 (n : Int)) (.int .i64 (n : Int))).run Try.prog w = .ok (.slice (some ⟨w.heap.size, 0, none⟩) n n) (w.alloc (.cells (bv (List.replicate n 0)).toArray 5)) := by
  obtain ⟨i0, hi, hz0, hz1, hz2⟩ := info_parts info5
  have hrun := run_make (P := Try.prog) w 44 5 i0 (.int .u8 0) Try.underlying44 hi hz0 .i64 .i64 (n : Int) (n : Int) (by omega) (by omega) (by rw [hz2]; omega) (by omega)
  simp only [Int.toNat_natCast] at hrun
  rw [hrun, ← made_zero, hz1, Nat.mul_one]
  rfl

end Mi
end Go.Proofs.Ytglnpgdigdfjiaa
