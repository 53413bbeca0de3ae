/-
  Contracts of ipsmake's small functions: same, holds, rowAt, cheaper, record, differing. No condition beyond lengths.
-/
import Derived.Test.YtchakjknndpmpaaIpsGood
namespace Go.Proofs.Ytchakjknndpmpaa
open Go.RowKit
namespace Ips

/-- A pair, as a value. -/
def pairV (A B : Option Addr) (n c m d : Nat) : Value := .agg #[.slice A n c, .slice B m d]
/-- Whether the bytes at i are the same. -/
def sm (a b : List UInt8) (i : Nat) : Bool := decide (a[i]? = b[i]?)

set_option maxHeartbeats 1000000 in
theorem same5 (w : World) (A B : Option Addr) (n c m d i : Nat) (a b : List UInt8) (hn : a.length = n) (hm : b.length = m) (hA : Rd w A a) (hB : Rd w B b) (hi : i < m) :
    Calls Try.prog 40 #[pairV A B n c m d, .int .i64 (i : Int)] w fun e w' => e = .returned (.bool (sm a b i)) ∧ Fr [] w w' := by
  obtain ⟨bb, bo, y, rfl, hy, cy⟩ := hB.at i (by omega)
  have hbb : bb < w.heap.size := World.block_lt_of_cell? w _ cy
  have hi' : (i : Int) < m := by omega
  unfold pairV
  by_cases h : i < n
  · obtain ⟨ab, ao, x, rfl, hx, cx⟩ := hA.at i (by omega)
    have hab : ab < w.heap.size := World.block_lt_of_cell? w _ cx
    have h' : (i : Int) < n := by omega
    have HE : Hid (sm a b i = decide ((x.toNat : Int) = (y.toNat : Int))) := Lib.hid (by
      unfold sm
      rw [hx, hy]
      congr 1
      rw [Option.some.injEq, eq_iff_iff, ← UInt8.toNat_inj]
      omega)
    clear hA hB hx hy
    generalize sm a b i = s at *
    have cx1 : (w.alloc (.cells #[.slice (some ⟨ab, ao, none⟩) n c, .slice (some ⟨bb, bo, none⟩) m d] 39)).cell? ⟨ab, ao + i, none⟩ = some (.int .u8 (x.toNat : Int)) := ((Fr.refl [] w).alloc _).cell cx (by simp)
    have cy1 : (w.alloc (.cells #[.slice (some ⟨ab, ao, none⟩) n c, .slice (some ⟨bb, bo, none⟩) m d] 39)).cell? ⟨bb, bo + i, none⟩ = some (.int .u8 (y.toNat : Int)) := ((Fr.refl [] w).alloc _).cell cy (by simp)
    go_enter Try.func40, Try.ntmps40
    go_wp2_with fail
    go_quiet (fail)
    go_wp2
    go_ret
    exact ⟨by rw [HE.out]; rfl, ((Fr.refl [] w).alloc _).drewN _⟩
  · have h' : decide ((i : Int) < n) = false := by simp; omega
    have HE : Hid (sm a b i = false) := Lib.hid (by
      unfold sm
      rw [hy, List.getElem?_eq_none (by omega)]
      simp)
    clear hA hB hy
    generalize sm a b i = s at *
    go_enter Try.func40, Try.ntmps40
    go_wp2_with fail
    go_quiet (fail)
    go_wp2
    go_ret
    exact ⟨by rw [HE.out]; rfl, ((Fr.refl [] w).alloc _).drewN _⟩

/-- Up to where a row that begins at f may reach. -/
def lim (f : Nat) : Nat := if f + 65535 = 4542278 then f + 65534 else f + 65535

set_option maxRecDepth 100000 in
set_option maxHeartbeats 400000 in
theorem holds5 (w : World) (f t i : Nat) (hf : f ≤ 1000000000) :
    Calls Try.prog 25 #[.agg #[.int .i64 (f : Int), .int .i64 (t : Int)], .int .i64 (i : Int)] w fun e w' => e = .returned (.bool (decide (i < lim f))) ∧ Fr [] w w' := by
  by_cases h : f + 65535 = 4542278
  · have HE : Hid (decide (i < lim f) = decide ((i : Int) < 4542277)) := Lib.hid (by unfold lim; rw [if_pos h]; congr 1; simp; omega)
    obtain rfl : f = 4476743 := by omega
    generalize decide (i < lim 4476743) = s at *
    go_enter Try.func25, Try.ntmps25
    go_wp2
    go_ret
    exact ⟨by rw [HE.out]; rfl, (Fr.refl [] w).alloc _⟩
  · obtain ⟨L, hL⟩ : ∃ L : Nat, (f : Int) + 65535 = (L : Int) := ⟨f + 65535, by omega⟩
    have HE : Hid (decide (i < lim f) = decide (i < L)) := Lib.hid (by unfold lim; rw [if_neg h]; congr 1; simp; omega)
    have h' : ¬ (L : Int) = 4542278 := by omega
    have hL2 : (L : Int) ≤ 1000065535 := by omega
    clear h
    generalize decide (i < lim f) = s at *
    go_enter Try.func25, Try.ntmps25
    go_wp2
    go_ret
    exact ⟨by rw [HE.out]; rfl, (Fr.refl [] w).alloc _⟩

/-- Where the row begins that begins for the sake of i. -/
def beg (i : Nat) : Nat := if i = 4542278 then i - 1 else i

set_option maxHeartbeats 400000 in
theorem rowAt5 (w : World) (i : Nat) (hi : i ≤ 1000000000) :
    Calls Try.prog 26 #[.int .i64 (i : Int)] w fun e w' => e = .returned (.agg #[.int .i64 (beg i : Nat), .int .i64 ((i + 1 : Nat) : Int)]) ∧ Fr [] w w' := by
  by_cases h : i = 4542278
  · subst h
    go_enter Try.func26, Try.ntmps26
    go_wp2
    refine bodyPost_ret (v := .agg #[.int .i64 4542277, .int .i64 4542279]) (by simp [results, Try.results26, go_sem]) rfl ?_
    exact ⟨rfl, (Fr.refl [] w).alloc _⟩
  · have HE : Hid ((beg i : Nat) = i) := Lib.hid (by unfold beg; rw [if_neg h])
    have h' : ¬ (i : Int) = 4542278 := by omega
    clear h
    generalize beg i = s at *
    go_enter Try.func26, Try.ntmps26
    go_wp2
    refine bodyPost_ret (v := .agg #[.int .i64 (i : Int), .int .i64 ((i : Int) + 1)]) (by simp [results, Try.results26, go_sem]) rfl ?_
    exact ⟨by rw [HE.out]; rfl, (Fr.refl [] w).alloc _⟩

/-- A choice: what is done, up to where, what all costs. -/
structure Ch where
  kind : Nat
  stop : Nat
  cost : Nat
def chV (c : Ch) : Value := .agg #[.int .i64 (c.kind : Int), .int .i64 (c.stop : Int), .int .i64 (c.cost : Int)]
/-- The second one, if it costs less. -/
def cheap (x y : Ch) : Ch := if y.cost < x.cost then y else x

set_option maxHeartbeats 400000 in
theorem cheaper5 (w : World) (x y : Ch) :
    Calls Try.prog 42 #[chV x, chV y] w fun e w' => e = .returned (chV (cheap x y)) ∧ Fr [] w w' := by
  by_cases h : y.cost < x.cost
  · have HE : Hid (cheap x y = y) := Lib.hid (by unfold cheap; rw [if_pos h])
    have h' : (y.cost : Int) < x.cost := by omega
    generalize cheap x y = s at *
    unfold chV
    go_enter Try.func42, Try.ntmps42
    go_wp2
    refine bodyPost_ret (v := chV y) (by simp [results, Try.results42, go_sem, chV]) rfl ?_
    exact ⟨by rw [HE.out]; rfl, (((Fr.refl [] w).alloc _).alloc _).alloc _⟩
  · have HE : Hid (cheap x y = x) := Lib.hid (by unfold cheap; rw [if_neg h])
    have h' : ¬ (y.cost : Int) < x.cost := by omega
    generalize cheap x y = s at *
    unfold chV
    go_enter Try.func42, Try.ntmps42
    go_wp2
    refine bodyPost_ret (v := chV x) (by simp [results, Try.results42, go_sem, chV]) rfl ?_
    exact ⟨by rw [HE.out]; rfl, (((Fr.refl [] w).alloc _).alloc _).alloc _⟩

set_option maxHeartbeats 400000 in
theorem differing5 (w : World) (A B : Option Addr) (n c m d : Nat) :
    Calls Try.prog 27 #[pairV A B n c m d] w fun e w' => e = .returned (.func (.func 39) #[] #[.pointer (some ⟨w.heap.size, 0, none⟩)]) ∧ w' = w.alloc (.cells #[.slice A n c, .slice B m d] 39) := by
  unfold pairV
  go_enter Try.func27, Try.ntmps27
  go_wp2
  go_ret
  exact ⟨rfl, rfl⟩

end Ips
end Go.Proofs.Ytchakjknndpmpaa
