/-
  The rows into which the places that differ are gathered: in mathematics.
-/
import Derived.Test.YtchakjknndpmpaaMkDiff
namespace Go.Proofs.Ytchakjknndpmpaa
namespace Ips

theorem df_split (a b : List UInt8) : ∀ (m : Nat) (pre : List Nat) (x : Nat) (post : List Nat), df a b m = pre ++ x :: post → pre = df a b x ∧ sm a b x = false ∧ x < m := by
  intro m
  induction m with
  | zero => intro pre x post h; simp [df] at h
  | succ m ih =>
    intro pre x post h
    cases hs : sm a b m with
    | true =>
      rw [df_same a b m hs] at h
      obtain ⟨h1, h2, h3⟩ := ih _ _ _ h
      exact ⟨h1, h2, by omega⟩
    | false =>
      rw [df_other a b m hs] at h
      rcases List.eq_nil_or_concat post with rfl | ⟨q, y, rfl⟩
      · have h' := List.append_inj' h rfl
        obtain ⟨h1, h2⟩ := h'
        simp at h2
        subst h2
        exact ⟨h1.symm, hs, by omega⟩
      · have e : pre ++ x :: (q ++ [y]) = (pre ++ x :: q) ++ [y] := by simp
        rw [List.concat_eq_append] at h
        rw [e] at h
        have h' := (List.append_inj' h rfl).1
        obtain ⟨h1, h2, h3⟩ := ih _ _ _ h'
        exact ⟨h1, h2, by omega⟩
theorem df_length (a b : List UInt8) (m : Nat) : (df a b m).length ≤ m := by
  induction m with
  | zero => simp [df]
  | succ m ih =>
    cases hs : sm a b m with
    | true => rw [df_same a b m hs]; omega
    | false => rw [df_other a b m hs]; simp; omega

/-- One more place. -/
def gstep (R : List (Nat × Nat)) (i : Nat) : List (Nat × Nat) :=
  match R.getLast? with
  | none => [(beg i, i + 1)]
  | some x => if i < lim x.1 then R.dropLast ++ [(x.1, i + 1)] else R ++ [(beg i, i + 1)]
theorem gstep_nil (i : Nat) : gstep [] i = [(beg i, i + 1)] := rfl
theorem gstep_old (P : List (Nat × Nat)) (f t i : Nat) (h : i < lim f) : gstep (P ++ [(f, t)]) i = P ++ [(f, i + 1)] := by simp [gstep, h]
theorem gstep_new (P : List (Nat × Nat)) (f t i : Nat) (h : ¬ i < lim f) : gstep (P ++ [(f, t)]) i = P ++ [(f, t)] ++ [(beg i, i + 1)] := by simp [gstep, h]
theorem gstep_length (R : List (Nat × Nat)) (i : Nat) : (gstep R i).length ≤ R.length + 1 := by
  rcases List.eq_nil_or_concat R with rfl | ⟨P, ⟨f, t⟩, rfl⟩
  · simp [gstep_nil]
  · rw [List.concat_eq_append]
    by_cases h : i < lim f
    · rw [gstep_old P f t i h]; simp
    · rw [gstep_new P f t i h]; simp
theorem gfold_length (l : List Nat) (R : List (Nat × Nat)) : (l.foldl gstep R).length ≤ R.length + l.length := by
  induction l generalizing R with
  | nil => simp
  | cons i l ih =>
    have h1 := ih (gstep R i)
    have h2 := gstep_length R i
    simp only [List.foldl_cons, List.length_cons]
    omega
def rowsAt (a b : List UInt8) (j : Nat) : List (Nat × Nat) := (df a b j).foldl gstep []
theorem rowsAt_length (a b : List UInt8) (j : Nat) : (rowsAt a b j).length ≤ j := by
  have h1 := gfold_length (df a b j) []
  have h2 := df_length a b j
  simp at h1
  unfold rowsAt
  omega

theorem lim_ge (f : Nat) : f + 65534 ≤ lim f ∧ lim f ≤ f + 65535 ∧ lim f ≠ 4542278 := by unfold lim; split <;> omega
theorem beg_le (i : Nat) : beg i ≤ i ∧ i ≤ beg i + 1 ∧ beg i ≠ 4542278 ∧ (i ≠ 4542278 → beg i = i) ∧ (i = 4542278 → beg i = 4542277) := by
  unfold beg
  split <;> omega

/-- What rows are, behind all places ahead of j. -/
structure RowsInv (a b : List UInt8) (j : Nat) (R : List (Nat × Nat)) : Prop where
  each : ∀ x ∈ R, x.1 < x.2 ∧ x.2 ≤ j ∧ x.2 ≤ lim x.1 ∧ x.1 ≠ 4542278
  rise : R.Pairwise (fun x y => x.2 ≤ y.1)
  cov : ∀ i, i < j → sm a b i = false → ∃ x ∈ R, x.1 ≤ i ∧ i < x.2

theorem rows_inv (a b : List UInt8) (j : Nat) : RowsInv a b j (rowsAt a b j) := by
  induction j with
  | zero => exact ⟨by simp [rowsAt, df], by simp [rowsAt, df], fun i hi => by omega⟩
  | succ j ih =>
    cases hs : sm a b j with
    | true =>
      have e : rowsAt a b (j + 1) = rowsAt a b j := by unfold rowsAt; rw [df_same a b j hs]
      rw [e]
      refine ⟨fun x hx => ?_, ih.rise, fun i hi h => ?_⟩
      · have := ih.each x hx; omega
      · by_cases hij : i = j
        · subst hij; rw [hs] at h; cases h
        · exact ih.cov i (by omega) h
    | false =>
      have e : rowsAt a b (j + 1) = gstep (rowsAt a b j) j := by unfold rowsAt; rw [df_other a b j hs, List.foldl_append]; rfl
      rw [e]
      generalize rowsAt a b j = R at *
      have hb := beg_le j
      have hl := lim_ge (beg j)
      rcases List.eq_nil_or_concat R with rfl | ⟨P, ⟨f, t⟩, rfl⟩
      · rw [gstep_nil]
        refine ⟨fun x hx => ?_, by simp, fun i hi h => ?_⟩
        · simp at hx; subst hx; simp only; omega
        · by_cases hij : i = j
          · subst hij; exact ⟨_, List.mem_singleton.2 rfl, by simp only; omega⟩
          · obtain ⟨x, hx, _⟩ := ih.cov i (by omega) h
            simp at hx
      · rw [List.concat_eq_append] at ih ⊢
        have hlast := ih.each (f, t) (by simp)
        have hlf := lim_ge f
        simp only at hlast
        have hP := List.pairwise_append.1 ih.rise
        by_cases hh : j < lim f
        · rw [gstep_old P f t j hh]
          refine ⟨fun x hx => ?_, ?_, fun i hi h => ?_⟩
          · rcases List.mem_append.1 hx with hx | hx
            · have := ih.each x (by simp [hx]); omega
            · simp at hx; subst hx; simp only; omega
          · refine List.pairwise_append.2 ⟨hP.1, by simp, fun x hx y hy => ?_⟩
            simp at hy; subst hy
            exact hP.2.2 x hx (f, t) (by simp)
          · by_cases hij : i = j
            · subst hij; exact ⟨(f, i + 1), by simp, by simp only; omega⟩
            · obtain ⟨x, hx, h1, h2⟩ := ih.cov i (by omega) h
              rcases List.mem_append.1 hx with hx | hx
              · exact ⟨x, by simp [hx], h1, h2⟩
              · simp at hx; subst hx; exact ⟨(f, j + 1), by simp, h1, by simp only at h2 ⊢; omega⟩
        · rw [gstep_new P f t j hh]
          refine ⟨fun x hx => ?_, ?_, fun i hi h => ?_⟩
          · rcases List.mem_append.1 hx with hx | hx
            · have := ih.each x hx; omega
            · simp at hx; subst hx; simp only; omega
          · refine List.pairwise_append.2 ⟨ih.rise, by simp, fun x hx y hy => ?_⟩
            simp at hy; subst hy
            simp only
            have hx2 := ih.each x hx
            by_cases hjb : j = 4542278
            · rcases List.mem_append.1 hx with hx | hx
              · have := hP.2.2 x hx (f, t) (by simp)
                simp only at this
                omega
              · simp at hx; subst hx; simp only at *; omega
            · omega
          · by_cases hij : i = j
            · subst hij; exact ⟨(beg i, i + 1), by simp, by simp only; omega⟩
            · obtain ⟨x, hx, h1, h2⟩ := ih.cov i (by omega) h
              exact ⟨x, by simp only [List.mem_append]; exact .inl (by simpa using hx), h1, h2⟩

end Ips
end Go.Proofs.Ytchakjknndpmpaa
