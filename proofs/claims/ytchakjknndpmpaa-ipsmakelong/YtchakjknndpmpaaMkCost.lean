/-
  Rows of choices in memory, and the contract of the closure that tells what all costs from a place on (ipsmake). Conditions: places up to 1000000000.
-/
import Derived.Test.YtchakjknndpmpaaMkPlanMath
namespace Go.Proofs.Ytchakjknndpmpaa
open Go.RowKit
namespace Ips

def chC (c : Ch) : List Value := [.int .i64 (c.kind : Int), .int .i64 (c.stop : Int), .int .i64 (c.cost : Int)]
def tflat (T : List Ch) : List Value := T.flatMap chC
theorem tflat_cons (c : Ch) (T : List Ch) : tflat (c :: T) = chC c ++ tflat T := by simp [tflat]
theorem tflat_length (T : List Ch) : (tflat T).length = T.length * 3 := by
  induction T with
  | nil => rfl
  | cons m ms ih => rw [tflat_cons, List.length_append, ih]; simp [chC]; omega
theorem tflat_get (T : List Ch) (j : Nat) (hj : j < T.length) (i : Nat) (hi : i < 3) : (tflat T)[j * 3 + i]? = (chC T[j])[i]? := by
  induction T generalizing j with
  | nil => simp at hj
  | cons m ms ih =>
    rw [tflat_cons]
    cases j with
    | zero =>
      rw [List.getElem?_append_left (by simp [chC]; omega)]
      simp
    | succ j =>
      have hl : (chC m).length = 3 := rfl
      rw [List.getElem?_append_right (by rw [hl]; omega), hl, show (j + 1) * 3 + i - 3 = j * 3 + i by omega, ih j (by simpa using hj)]
      simp
theorem tflat_set (T : List Ch) (j : Nat) (hj : j < T.length) (c : Ch) : (((tflat T).set (j * 3) (.int .i64 (c.kind : Int))).set (j * 3 + 1) (.int .i64 (c.stop : Int))).set (j * 3 + 2) (.int .i64 (c.cost : Int)) = tflat (T.set j c) := by
  induction T generalizing j with
  | nil => simp at hj
  | cons m ms ih =>
    cases j with
    | zero => simp [tflat, chC]
    | succ j =>
      have hl : (chC m).length = 3 := rfl
      have h1 := ih j (by simpa using hj)
      rw [List.set_cons_succ, tflat_cons, tflat_cons, ← h1]
      rw [List.set_append_right _ _ (by rw [hl]; omega), List.set_append_right _ _ (by rw [hl]; omega), List.set_append_right _ _ (by rw [hl]; omega), hl]
      rw [show (j + 1) * 3 - 3 = j * 3 by omega, show (j + 1) * 3 + 1 - 3 = j * 3 + 1 by omega, show (j + 1) * 3 + 2 - 3 = j * 3 + 2 by omega]
theorem made_tab (n : Nat) : (madeCells (Value.agg #[.int .i64 0, .int .i64 0, .int .i64 0]).cells (n * 3)).toList = tflat (List.replicate n ch0) := by
  apply List.ext_getElem?
  intro i
  by_cases h : i < n * 3
  · have e : i = (i / 3) * 3 + i % 3 := by omega
    have hj : i / 3 < (List.replicate n ch0).length := by simp; omega
    have h2 := tflat_get (List.replicate n ch0) (i / 3) hj (i % 3) (by omega)
    rw [← e] at h2
    rw [h2]
    have h3 : i % 3 = 0 ∨ i % 3 = 1 ∨ i % 3 = 2 := by omega
    simp only [madeCells, List.getElem_replicate]
    rcases h3 with h3 | h3 | h3 <;> simp [chC, ch0, h, h3, Value.cells]
  · rw [List.getElem?_eq_none (by rw [Array.length_toList, size_madeCells]; omega), List.getElem?_eq_none (by rw [tflat_length]; simp; omega)]

/-- A choice's cells. -/
theorem tab_cells {w : World} {g : Nat} {T : List Ch} (h : Blk w g 68 (tflat T).toArray) (f j : Nat) (hj : j - f < T.length) :
    w.cell? ⟨g, (j - f) * 3, none⟩ = some (.int .i64 ((chAt T f j).kind : Int)) ∧ w.cell? ⟨g, (j - f) * 3 + 1, none⟩ = some (.int .i64 ((chAt T f j).stop : Int)) ∧ w.cell? ⟨g, (j - f) * 3 + 2, none⟩ = some (.int .i64 (cst T f j : Nat)) := by
  have e : chAt T f j = T[j - f] := by simp [chAt, List.getD, hj]
  have hx : ∀ i, i < 3 → w.cell? ⟨g, (j - f) * 3 + i, none⟩ = (chC T[j - f])[i]? := fun i hi => by
    rw [h.cell]
    rw [← tflat_get T (j - f) hj i hi]
    simp
  unfold cst
  rw [e]
  exact ⟨by have := hx 0 (by omega); simpa [chC] using this, by have := hx 1 (by omega); simpa [chC] using this, by have := hx 2 (by omega); simpa [chC] using this⟩

set_option maxHeartbeats 400000 in
theorem cost5 (w : World) (q r g N f t j : Nat) (T : List Ch) (hq : Blk w q 64 #[.slice (some ⟨g, 0, none⟩) N N]) (hr : Blk w r 47 #[.int .i64 (f : Int), .int .i64 (t : Int)]) (hg : Blk w g 68 (tflat T).toArray) (hN : T.length = N) (hf : f ≤ j) (hj : j - f < N) (hj2 : j ≤ 1000000000) :
    Calls Try.prog 41 #[.int .i64 (j : Int), .pointer (some ⟨q, 0, none⟩), .pointer (some ⟨r, 0, none⟩)] w fun e w' => e = .returned (.int .i64 (cst T f j : Nat)) ∧ w' = w := by
  have c2 := (tab_cells hg f j (by omega)).2.2
  have c0 := hq.cell 0
  have c1 := hr.cell 0
  simp at c0 c1
  obtain ⟨k, hk⟩ : ∃ k, j - f = k := ⟨_, rfl⟩
  rw [hk] at c2 hj
  have hk' : (j : Int) - (f : Int) = (k : Int) := by omega
  have hk2 : (k : Int) < N := by omega
  have hk3 : (0 : Int) ≤ k := by omega
  have hk4 : (k : Int) ≤ 1000000000 := by omega
  clear hq hr hg hk
  generalize cst T f j = C at *
  go_enter Try.func41, Try.ntmps41
  go_wp2
  go_ret
  exact ⟨rfl, rfl⟩

end Ips
end Go.Proofs.Ytchakjknndpmpaa
