/-
  The records of a row's cheapest choices, and of all rows: in mathematics.
-/
import Derived.Test.YtchakjknndpmpaaMkPlanMath
import Derived.Test.YtchakjknndpmpaaMkRowsMath
namespace Go.Proofs.Ytchakjknndpmpaa
namespace Ips

/-- The record of a choice at j. -/
def recOf (b : List UInt8) (j : Nat) (c : Ch) : Rec := if c.kind = 2 then ⟨j, c.stop - j, (b.drop j).take 1⟩ else ⟨j, 0, (b.drop j).take (c.stop - j)⟩

/-- Records from f up to j. -/
structure Part (a b : List UInt8) (f j : Nat) (rs : List Rec) : Prop where
  ok : ∀ r ∈ rs, Ok b r
  rise : Rise f rs j
  cov : ∀ i, f ≤ i → i < j → (∃ r ∈ rs, Covers r i) ∨ sm a b i = true

/-- On the way through a row. -/
structure WalkInv (a b : List UInt8) (f t : Nat) (T : List Ch) (j : Nat) (rs : List Rec) : Prop where
  low : f ≤ j
  high : j ≤ t
  part : Part a b f j rs
  cost : (rs.flatMap recB).length + cst T f j = cst T f f
  few : cst T f j ≤ 65540

theorem ok_data (b : List UInt8) (j s : Nat) (h1 : j < s) (h2 : s ≤ b.length) (h3 : s ≤ j + 65535) (hm : b.length ≤ 16777216) (hj : j ≠ 4542278) : Ok b ⟨j, 0, (b.drop j).take (s - j)⟩ ∧ span ⟨j, 0, (b.drop j).take (s - j)⟩ = s - j ∧ (recB ⟨j, 0, (b.drop j).take (s - j)⟩).length = 5 + (s - j) := by
  have hl : ((b.drop j).take (s - j)).length = s - j := by simp; omega
  have hs : span ⟨j, 0, (b.drop j).take (s - j)⟩ = s - j := by simp only [span, hl]; omega
  refine ⟨⟨⟨⟨by simp only [hl]; omega, fun h => by simp at h⟩, by rw [hs]; simp only; omega, ?_⟩, ⟨⟨by simp only [hl]; omega, fun h => by simp at h⟩, by simp only; omega, by simp, by simp only [hl]; omega⟩, hj⟩, hs, ?_⟩
  · rw [hs]; rfl
  · rw [recB_length, if_neg (by simp)]; simp only [hl]

theorem ok_run (b : List UInt8) (j s : Nat) (h1 : j < s) (h2 : s ≤ b.length) (h3 : s ≤ j + 65535) (hm : b.length ≤ 16777216) (hj : j ≠ 4542278) (he : ∀ i, j ≤ i → i < s → b[i]? = b[j]?) : Ok b ⟨j, s - j, (b.drop j).take 1⟩ ∧ span ⟨j, s - j, (b.drop j).take 1⟩ = s - j ∧ (recB ⟨j, s - j, (b.drop j).take 1⟩).length = 8 := by
  have hl : ((b.drop j).take 1).length = 1 := by simp; omega
  have hs : span ⟨j, s - j, (b.drop j).take 1⟩ = s - j := by simp only [span, hl]; omega
  have hx : (b.drop j).take 1 = [b[j]] := by
    rw [List.drop_eq_getElem_cons (by omega)]
    rfl
  refine ⟨⟨⟨⟨by simp only [hl]; omega, fun h => hl⟩, by rw [hs]; simp only; omega, ?_⟩, ⟨⟨by simp only [hl]; omega, fun h => hl⟩, by simp only; omega, by simp only; omega, by simp only [hl]; omega⟩, hj⟩, hs, ?_⟩
  · rw [hs]
    unfold bytesOf
    rw [if_pos (by simp only; omega)]
    simp only [hx]
    apply List.ext_getElem?
    intro i
    by_cases hi : i < s - j
    · rw [List.getElem?_take_of_lt hi, List.getElem?_drop, he (j + i) (by omega) (by omega), List.getElem?_replicate, if_pos hi, List.getElem?_eq_getElem (by omega)]
      rfl
    · rw [List.getElem?_eq_none (by simp; omega), List.getElem?_eq_none (by simp; omega)]
  · rw [recB_length, if_pos (by simp only; omega)]

theorem Part.snoc {a b : List UInt8} {f j s : Nat} {rs : List Rec} {r : Rec} (h : Part a b f j rs) (hr : Ok b r) (hp : r.pos = j) (hs : span r = s - j) (hj : j ≤ s) : Part a b f s (rs ++ [r]) := by
  refine ⟨fun x hx => ?_, h.rise.append ⟨by omega, by show r.pos + span r ≤ s; omega⟩, fun i h1 h2 => ?_⟩
  · rcases List.mem_append.1 hx with hx | hx
    · exact h.ok x hx
    · simp at hx; subst hx; exact hr
  · by_cases hi : i < j
    · rcases h.cov i h1 hi with ⟨x, hx, hc⟩ | hc
      · exact .inl ⟨x, by simp [hx], hc⟩
      · exact .inr hc
    · exact .inl ⟨r, by simp, by unfold Covers; omega⟩
theorem Part.pass {a b : List UInt8} {f j : Nat} {rs : List Rec} (h : Part a b f j rs) (hs : sm a b j = true) : Part a b f (j + 1) rs := by
  refine ⟨h.ok, h.rise.high (by omega), fun i h1 h2 => ?_⟩
  by_cases hi : i < j
  · exact h.cov i h1 hi
  · rw [show i = j by omega]; exact .inr hs

theorem walk_start (a b : List UInt8) (f t : Nat) (T : List Ch) (al re : Nat) (h : PlanInv a b f t f T al re) (hf : f ≠ 4542278) : WalkInv a b f t T f [] := by
  refine ⟨Nat.le_refl _, h.high, ⟨by simp, Nat.le_refl _, fun i h1 h2 => by omega⟩, by simp, ?_⟩
  by_cases hft : f = t
  · have := h.last
    rw [← hft] at this
    omega
  · rcases h.ent f (Nat.le_refl _) (by have := h.high; omega) with ⟨_, h2, _⟩ | ⟨h2, _⟩
    · exact absurd h2 hf
    · exact h2

theorem walk_step (a b : List UInt8) (f t : Nat) (T : List Ch) (al re j : Nat) (rs : List Rec) (h : PlanInv a b f t f T al re) (hw : WalkInv a b f t T j rs) (hj : j < t) (ht : t ≤ b.length) (hm : b.length ≤ 16777216) :
    j < (chAt T f j).stop ∧ (chAt T f j).stop ≤ t ∧ (((chAt T f j).kind = 0 ∧ WalkInv a b f t T (chAt T f j).stop rs) ∨ (((chAt T f j).kind = 1 ∨ (chAt T f j).kind = 2) ∧ Ok b (recOf b j (chAt T f j)) ∧ WalkInv a b f t T (chAt T f j).stop (rs ++ [recOf b j (chAt T f j)]))) := by
  have hlow := hw.low
  have hwide := h.wide
  have hcost := hw.cost
  have hfew := hw.few
  have hcc : (chAt T f j).cost = cst T f j := rfl
  rcases h.ent j hlow hj with ⟨h1, _⟩ | ⟨_, hv⟩
  · omega
  · generalize chAt T f j = c at *
    rcases hv with ⟨k, e1, e2, e3⟩ | ⟨k, e1, e2, e3, e4⟩ | ⟨k, e1, e2, e3, e4, e5⟩
    · rw [e1]
      refine ⟨by omega, by omega, .inl ⟨k, by omega, by omega, hw.part.pass e2, by omega, by omega⟩⟩
    · refine ⟨e2, e3, .inr ⟨.inl k, ?_⟩⟩
      obtain ⟨o1, o2, o3⟩ := ok_data b j c.stop e2 (by omega) (by omega) hm e1
      have e : recOf b j c = ⟨j, 0, (b.drop j).take (c.stop - j)⟩ := by unfold recOf; rw [if_neg (by omega)]
      rw [e]
      refine ⟨o1, by omega, e3, hw.part.snoc o1 rfl o2 (by omega), ?_, by omega⟩
      simp only [List.flatMap_append, List.flatMap_cons, List.flatMap_nil, List.append_nil, List.length_append, o3]
      omega
    · refine ⟨e2, e3, .inr ⟨.inr k, ?_⟩⟩
      obtain ⟨o1, o2, o3⟩ := ok_run b j c.stop e2 (by omega) (by omega) hm e1 e4
      have e : recOf b j c = ⟨j, c.stop - j, (b.drop j).take 1⟩ := by unfold recOf; rw [if_pos k]
      rw [e]
      refine ⟨o1, by omega, e3, hw.part.snoc o1 rfl o2 (by omega), ?_, by omega⟩
      simp only [List.flatMap_append, List.flatMap_cons, List.flatMap_nil, List.append_nil, List.length_append, o3]
      omega

/-- A whole row. -/
structure RowDone (a b : List UInt8) (f t : Nat) (rs : List Rec) : Prop where
  part : Part a b f t rs
  few : (rs.flatMap recB).length ≤ 6 * (D a b t - D a b f) + slack t f

theorem walk_end (a b : List UInt8) (f t : Nat) (T : List Ch) (al re : Nat) (rs : List Rec) (h : PlanInv a b f t f T al re) (hw : WalkInv a b f t T t rs) (hf : f ≠ 4542278) : RowDone a b f t rs := by
  refine ⟨hw.part, ?_⟩
  have h1 := hw.cost
  have h2 := h.bound f (Nat.le_refl _) h.high (.inl hf)
  have h3 := h.last
  omega

/-- The rows that are done, up to e. -/
structure RowsDone (a b : List UInt8) (pre : List (Nat × Nat)) (e : Nat) (rs : List Rec) : Prop where
  ok : ∀ r ∈ rs, Ok b r
  rise : Rise 0 rs e
  cov : ∀ x ∈ pre, ∀ i, x.1 ≤ i → i < x.2 → (∃ r ∈ rs, Covers r i) ∨ sm a b i = true
  few : (rs.flatMap recB).length ≤ 6 * D a b e + (if 4542278 < e then 1 else 0)
  last : (pre = [] ∧ e = 0) ∨ ∃ y ∈ pre, y.2 = e

theorem rows_start (a b : List UInt8) : RowsDone a b [] 0 [] := ⟨by simp, Nat.le_refl _, by simp, by simp, .inl ⟨rfl, rfl⟩⟩

theorem rows_step (a b : List UInt8) (R pre post : List (Nat × Nat)) (f t e : Nat) (rs rs' : List Rec) (m : Nat) (hR : RowsInv a b m R) (hs : R = pre ++ (f, t) :: post) (h : RowsDone a b pre e rs) (h' : RowDone a b f t rs') : RowsDone a b (pre ++ [(f, t)]) t (rs ++ rs') := by
  subst hs
  have hef : e ≤ f := by
    rcases h.last with ⟨_, h0⟩ | ⟨y, hy, rfl⟩
    · omega
    · exact (List.pairwise_append.1 hR.rise).2.2 y hy (f, t) (by simp)
  have hft := (hR.each (f, t) (by simp)).1
  simp only at hft
  refine ⟨fun r hr => ?_, h.rise.append (h'.part.rise.low hef), fun x hx i h1 h2 => ?_, ?_, .inr ⟨(f, t), by simp, rfl⟩⟩
  · rcases List.mem_append.1 hr with hr | hr
    · exact h.ok r hr
    · exact h'.part.ok r hr
  · rcases List.mem_append.1 hx with hx | hx
    · rcases h.cov x hx i h1 h2 with ⟨r, hr, hc⟩ | hc
      · exact .inl ⟨r, by simp [hr], hc⟩
      · exact .inr hc
    · simp at hx
      subst hx
      rcases h'.part.cov i h1 h2 with ⟨r, hr, hc⟩ | hc
      · exact .inl ⟨r, by simp [hr], hc⟩
      · exact .inr hc
  · have h1 := h.few
    have h2 := h'.few
    have h3 := D_mono a b hef
    have h4 := D_mono a b (show f ≤ t by omega)
    rw [List.flatMap_append, List.length_append]
    unfold slack at h2
    split at h1 <;> split at h2 <;> split <;> omega

theorem rows_end (a b : List UInt8) (m e : Nat) (R : List (Nat × Nat)) (rs : List Rec) (hm : b.length = m) (hR : RowsInv a b m R) (h : RowsDone a b R e rs) : Makes a b rs := by
  subst hm
  have he : e ≤ b.length := by
    rcases h.last with ⟨_, h0⟩ | ⟨y, hy, rfl⟩
    · omega
    · exact (hR.each y hy).2.1
  refine ⟨h.ok, h.rise.high he, fun i hi => ?_, ?_⟩
  · cases hs : sm a b i with
    | true => exact .inr (by simpa [sm] using hs)
    | false =>
      obtain ⟨x, hx, h1, h2⟩ := hR.cov i hi hs
      rcases h.cov x hx i h1 h2 with h3 | h3
      · exact .inl h3
      · exact .inr (by simpa [sm] using h3)
  · have h1 := h.few
    have h2 := D_mono a b he
    split at h1 <;> omega

theorem rows_few (a b : List UInt8) (pre : List (Nat × Nat)) (e m : Nat) (rs : List Rec) (h : RowsDone a b pre e rs) (he : e ≤ m) : (rs.flatMap recB).length ≤ 6 * m + 1 := by
  have h1 := h.few
  have h2 := D_le a b e
  split at h1 <;> omega

end Ips
end Go.Proofs.Ytchakjknndpmpaa
