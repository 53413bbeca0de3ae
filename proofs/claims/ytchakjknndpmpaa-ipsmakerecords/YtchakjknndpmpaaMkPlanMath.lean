/-
  What is cheapest for each place of a row (ipsmake's plan): in mathematics.
-/
import Derived.Test.YtchakjknndpmpaaMkBits
namespace Go.Proofs.Ytchakjknndpmpaa
namespace Ips

def ch0 : Ch := ⟨0, 0, 0⟩
/-- The choice at the place j, of a row that begins at f; its cost. -/
def chAt (T : List Ch) (f j : Nat) : Ch := T.getD (j - f) ch0
def cst (T : List Ch) (f j : Nat) : Nat := (chAt T f j).cost
theorem chAt_new (T : List Ch) (f j : Nat) (c : Ch) (h : j - f < T.length) : chAt (T.set (j - f) c) f j = c := by
  simp [chAt, List.getD, h]
theorem chAt_old (T : List Ch) (f i j : Nat) (c : Ch) (hi : f ≤ i) (h : i < j) : chAt (T.set (i - f) c) f j = chAt T f j := by
  unfold chAt
  simp only [List.getD]
  rw [List.getElem?_set_ne (by omega)]

/-- A choice that can be taken. -/
def Val (a b : List UInt8) (t j : Nat) (c : Ch) (C : Nat → Nat) : Prop :=
  (c.kind = 0 ∧ c.stop = j + 1 ∧ sm a b j = true ∧ c.cost = C (j + 1)) ∨
  (c.kind = 1 ∧ j ≠ 4542278 ∧ j < c.stop ∧ c.stop ≤ t ∧ c.cost = 5 + (c.stop - j) + C c.stop) ∨
  (c.kind = 2 ∧ j ≠ 4542278 ∧ j < c.stop ∧ c.stop ≤ t ∧ (∀ i, j ≤ i → i < c.stop → b[i]? = b[j]?) ∧ c.cost = 8 + C c.stop)

/-- How much more a row may cost. -/
def slack (t j : Nat) : Nat := if j < 4542278 ∧ 4542278 < t then 1 else 0

structure PlanInv (a b : List UInt8) (f t p : Nat) (T : List Ch) (al re : Nat) : Prop where
  wide : t ≤ f + 65535
  len : T.length = t - f + 1
  low : f ≤ p
  high : p ≤ t
  last : cst T f t = 0
  ent : ∀ j, p ≤ j → j < t → (cst T f j = 1073741824 ∧ j = 4542278 ∧ sm a b j = false) ∨ (cst T f j ≤ 65540 ∧ Val a b t j (chAt T f j) (cst T f))
  bound : ∀ j, p ≤ j → j ≤ t → (j ≠ 4542278 ∨ sm a b j = true ∨ j = t) → cst T f j ≤ 6 * (D a b t - D a b j) + slack t j
  re1 : p ≤ re
  re2 : re ≤ t
  re3 : ∀ j, p ≤ j → j ≤ t → re + cst T f re ≤ j + cst T f j
  al1 : p ≤ al
  al2 : al ≤ t
  al3 : p < t → p < al
  al4 : ∀ i, p ≤ i → i < al → b[i]? = b[p]?

/-- Where a run ends now. -/
def al' (b : List UInt8) (t i : Nat) (al : Nat) (C : Nat) : Nat := if i + 1 < t ∧ (b[i]? ≠ b[i + 1]? ∨ C = 1073741824) then i + 1 else al
def best1 (s : Bool) (i : Nat) (C : Nat) : Ch := if s = true then ⟨0, i + 1, C⟩ else ⟨0, 0, 1073741824⟩
def dataC (i re C : Nat) : Ch := ⟨1, re, 5 + re - i + C⟩
def runC (al C : Nat) : Ch := ⟨2, al, 8 + C⟩
def best3 (i : Nat) (x d r : Ch) : Ch := if i = 4542278 then x else cheap (cheap x d) r
def re' (i re c C : Nat) : Nat := if i + c < re + C then i else re

theorem cheap_le (x y : Ch) : (cheap x y).cost ≤ x.cost ∧ (cheap x y).cost ≤ y.cost := by unfold cheap; split <;> omega
theorem cheap_cases (x y : Ch) : (cheap x y = x ∧ x.cost ≤ y.cost) ∨ (cheap x y = y ∧ y.cost < x.cost) := by unfold cheap; split <;> simp_all

theorem D_sm (a b : List UInt8) (i : Nat) : (sm a b i = true → D a b (i + 1) = D a b i) ∧ (sm a b i = false → D a b (i + 1) = D a b i + 1) := by
  unfold sm
  exact ⟨fun h => D_same a b i (by simpa using h), fun h => D_other a b i (by simpa using h)⟩

theorem Val.congr {a b : List UInt8} {t j : Nat} {c : Ch} {C C' : Nat → Nat} (h : Val a b t j c C) (hC : ∀ k, j < k → C' k = C k) : Val a b t j c C' := by
  rcases h with ⟨h1, h2, h3, h4⟩ | ⟨h1, h2, h3, h4, h5⟩ | ⟨h1, h2, h3, h4, h5, h6⟩
  · exact .inl ⟨h1, h2, h3, by rw [hC _ (by omega)]; exact h4⟩
  · exact .inr (.inl ⟨h1, h2, h3, h4, by rw [hC _ (by omega)]; exact h5⟩)
  · exact .inr (.inr ⟨h1, h2, h3, h4, h5, by rw [hC _ (by omega)]; exact h6⟩)

theorem slack_le (t j : Nat) : slack t (j + 1) ≤ slack t j := by unfold slack; split <;> split <;> omega
theorem slack_one (t j : Nat) (h : j < 4542278) (h' : 4542278 < t) : slack t j = 1 := by unfold slack; rw [if_pos ⟨h, h'⟩]
theorem slack_zero (t j : Nat) (h : 4542278 ≤ j) : slack t j = 0 := by unfold slack; rw [if_neg (by omega)]

theorem plan_start (a b : List UInt8) (f t : Nat) (hft : f ≤ t) (hw : t ≤ f + 65535) : PlanInv a b f t t (List.replicate (t - f + 1) ch0) t t := by
  have hc : ∀ j, chAt (List.replicate (t - f + 1) ch0) f j = ch0 := by
    intro j
    unfold chAt
    simp only [List.getD, List.getElem?_replicate]
    split <;> rfl
  have hc' : ∀ j, cst (List.replicate (t - f + 1) ch0) f j = 0 := fun j => by unfold cst; rw [hc]; rfl
  exact ⟨hw, by simp, hft, Nat.le_refl _, hc' _, fun j h1 h2 => by omega, fun j h1 h2 _ => by rw [hc']; omega, Nat.le_refl _, Nat.le_refl _, fun j h1 h2 => by rw [hc', hc']; omega, Nat.le_refl _, Nat.le_refl _, fun h => by omega, fun i h1 h2 => by omega⟩

theorem plan_step (a b : List UInt8) (f t i : Nat) (T : List Ch) (al re : Nat) (h : PlanInv a b f t (i + 1) T al re) (hi : f ≤ i) (A R : Nat) (B : Ch)
    (hA : A = al' b t i al (cst T f al)) (hB : B = best3 i (best1 (sm a b i) i (cst T f (i + 1))) (dataC i re (cst T f re)) (runC A (cst T f A))) (hR : R = re' i re B.cost (cst T f re)) :
    PlanInv a b f t i (T.set (i - f) B) A R := by
  have hwide := h.wide
  have hlen := h.len
  have hhigh := h.high
  have hre := h.re3 t (by omega) (Nat.le_refl _)
  rw [h.last] at hre
  have hre1 := h.re1
  have hre2 := h.re2
  have hold : ∀ j, i < j → cst (T.set (i - f) B) f j = cst T f j := fun j hj => by unfold cst; rw [chAt_old T f i j B hi hj]
  have hnewc : chAt (T.set (i - f) B) f i = B := chAt_new T f i B (by omega)
  have hnew : cst (T.set (i - f) B) f i = B.cost := by unfold cst; rw [hnewc]
  -- where a run ends
  have hA1 : i < A ∧ A ≤ t ∧ ∀ k, i ≤ k → k < A → b[k]? = b[i]? := by
    have h1 := h.al1
    have h2 := h.al2
    have h3 := h.al3
    rw [hA]
    unfold al'
    split
    · exact ⟨by omega, by omega, fun k hk hk2 => by rw [show k = i by omega]⟩
    · rename_i hn
      by_cases hit : i + 1 < t
      · have he : b[i]? = b[i + 1]? := Classical.byContradiction fun hx => hn ⟨hit, .inl hx⟩
        refine ⟨by omega, h2, fun k hk hk2 => ?_⟩
        by_cases hki : k = i
        · rw [hki]
        · rw [h.al4 k (by omega) hk2, he]
      · exact ⟨by omega, h2, fun k hk hk2 => by rw [show k = i by omega]⟩
  -- what a record of data costs
  have hd : (dataC i re (cst T f re)).cost ≤ 65540 := by unfold dataC; simp only; omega
  have hdv : i ≠ 4542278 → Val a b t i (dataC i re (cst T f re)) (cst T f) := fun hb => .inr (.inl ⟨rfl, hb, by unfold dataC; simp only; omega, hre2, by unfold dataC; simp only; omega⟩)
  have hrv : i ≠ 4542278 → Val a b t i (runC A (cst T f A)) (cst T f) := fun hb => .inr (.inr ⟨rfl, hb, hA1.1, hA1.2.1, hA1.2.2, rfl⟩)
  have hnext : i + 1 ≠ 4542278 → cst T f (i + 1) ≤ 65540 := fun hb => by
    by_cases hit : i + 1 < t
    · rcases h.ent (i + 1) (Nat.le_refl _) hit with ⟨_, h2, _⟩ | ⟨h1, _⟩
      · exact absurd h2 hb
      · exact h1
    · rw [show i + 1 = t by omega, h.last]; omega
  have hBle : i ≠ 4542278 → B.cost ≤ (dataC i re (cst T f re)).cost := fun hb => by
    rw [hB, best3, if_neg hb]
    have h1 := (cheap_le (cheap (best1 (sm a b i) i (cst T f (i + 1))) (dataC i re (cst T f re))) (runC A (cst T f A))).1
    have h2 := (cheap_le (best1 (sm a b i) i (cst T f (i + 1))) (dataC i re (cst T f re))).2
    omega
  have hBsm : sm a b i = true → B.cost ≤ cst T f (i + 1) := fun hs => by
    rw [hB, best3]
    split
    · simp [best1, hs]
    · have h1 := (cheap_le (cheap (best1 (sm a b i) i (cst T f (i + 1))) (dataC i re (cst T f re))) (runC A (cst T f A))).1
      have h2 := (cheap_le (best1 (sm a b i) i (cst T f (i + 1))) (dataC i re (cst T f re))).1
      have h3 : (best1 (sm a b i) i (cst T f (i + 1))).cost = cst T f (i + 1) := by simp [best1, hs]
      omega
  have hent : (B.cost = 1073741824 ∧ i = 4542278 ∧ sm a b i = false) ∨ (B.cost ≤ 65540 ∧ Val a b t i B (cst T f)) := by
    by_cases hb : i = 4542278
    · have e : B = best1 (sm a b i) i (cst T f (i + 1)) := by rw [hB, best3, if_pos hb]
      cases hs : sm a b i with
      | true =>
        rw [hs] at e
        refine .inr ⟨by rw [e]; exact hnext (by omega), .inl ?_⟩
        rw [e]
        exact ⟨rfl, rfl, hs, rfl⟩
      | false =>
        rw [hs] at e
        exact .inl ⟨by rw [e]; rfl, hb, rfl⟩
    · refine .inr ⟨Nat.le_trans (hBle hb) hd, ?_⟩
      rw [hB, best3, if_neg hb]
      rcases cheap_cases (cheap (best1 (sm a b i) i (cst T f (i + 1))) (dataC i re (cst T f re))) (runC A (cst T f A)) with ⟨e, _⟩ | ⟨e, _⟩
      · rw [e]
        rcases cheap_cases (best1 (sm a b i) i (cst T f (i + 1))) (dataC i re (cst T f re)) with ⟨e2, hle⟩ | ⟨e2, _⟩
        · rw [e2]
          cases hs : sm a b i with
          | true => exact .inl ⟨rfl, rfl, hs, rfl⟩
          | false =>
            rw [hs] at hle
            have : (best1 false i (cst T f (i + 1))).cost = 1073741824 := rfl
            omega
        · rw [e2]; exact hdv hb
      · rw [e]; exact hrv hb
  have hbd : (i ≠ 4542278 ∨ sm a b i = true ∨ i = t) → B.cost ≤ 6 * (D a b t - D a b i) + slack t i := by
    intro hc
    have hm1 := D_mono a b (show i + 1 ≤ t by omega)
    have hsl := slack_le t i
    have hds := D_sm a b i
    by_cases hok : i + 1 ≠ 4542278 ∨ sm a b (i + 1) = true ∨ i + 1 = t
    · have hb1 := h.bound (i + 1) (Nat.le_refl _) hhigh hok
      cases hs : sm a b i with
      | true =>
        have := hBsm hs
        have := hds.1 hs
        omega
      | false =>
        have hib : i ≠ 4542278 := by
          rcases hc with hc | hc | hc
          · exact hc
          · rw [hs] at hc; cases hc
          · omega
        have h1 := hBle hib
        have h2 := h.re3 (i + 1) (Nat.le_refl _) hhigh
        have h3 := hds.2 hs
        unfold dataC at h1
        simp only at h1
        omega
    · have hn1 : i + 1 = 4542278 := Classical.byContradiction fun hx => hok (.inl hx)
      have hn2 : sm a b (i + 1) = false := by
        cases hx : sm a b (i + 1) with
        | true => exact absurd (.inr (.inl hx)) hok
        | false => rfl
      have hn3 : i + 1 ≠ t := fun hx => hok (.inr (.inr hx))
      have hb1 := h.bound (i + 2) (by omega) (by omega) (.inl (by omega))
      rw [slack_zero t (i + 2) (by omega)] at hb1
      rw [slack_one t i (by omega) (by omega)]
      have h1 := hBle (by omega)
      have h2 := h.re3 (i + 2) (by omega) (by omega)
      have h3 : D a b (i + 2) = D a b (i + 1) + 1 := (D_sm a b (i + 1)).2 hn2
      have h4 := D_mono a b (show i + 2 ≤ t by omega)
      have h5 := (D_step a b i)
      unfold dataC at h1
      simp only at h1
      omega
  refine ⟨hwide, by simpa using hlen, hi, by omega, by rw [hold t (by omega)]; exact h.last, ?_, ?_, ?_, ?_, ?_, by omega, hA1.2.1, fun _ => hA1.1, hA1.2.2⟩
  · intro j h1 h2
    by_cases hj : j = i
    · subst hj
      rw [hnew, hnewc]
      rcases hent with h3 | ⟨h3, h4⟩
      · exact .inl h3
      · exact .inr ⟨h3, h4.congr fun k hk => hold k hk⟩
    · rw [hold j (by omega), chAt_old T f i j B hi (by omega)]
      rcases h.ent j (by omega) h2 with h3 | ⟨h3, h4⟩
      · exact .inl h3
      · exact .inr ⟨h3, h4.congr fun k hk => hold k (by omega)⟩
  · intro j h1 h2 h3
    by_cases hj : j = i
    · subst hj
      rw [hnew]
      exact hbd h3
    · rw [hold j (by omega)]
      exact h.bound j (by omega) h2 h3
  · rw [hR]; unfold re'; split <;> omega
  · rw [hR]; unfold re'; split <;> omega
  · intro j h1 h2
    have hj : i < j → re + cst T f re ≤ j + cst T f j := fun hx => h.re3 j (by omega) h2
    rw [hR]
    unfold re'
    split
    · rename_i hc
      by_cases hji : j = i
      · subst hji; omega
      · rw [hnew, hold j (by omega)]
        have := hj (by omega)
        omega
    · rename_i hc
      rw [hold re (by omega)]
      by_cases hji : j = i
      · subst hji; rw [hnew]; omega
      · rw [hold j (by omega)]
        exact hj (by omega)

end Ips
end Go.Proofs.Ytchakjknndpmpaa
