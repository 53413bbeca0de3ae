/-
  Hunks laid over noughts, and a row that bytes are xored into: in mathematics, of no program.
-/
import Derived.Test.YtpbjbmmnncohfaaUpsMath
import Derived.Test.YtpbjbmmnncohfaaCopyB
namespace Go.Proofs.Ytpbjbmmnncohfaa
namespace Ups
open Cp (over over_length)

/-- What hunks leave of a row, the first of them counted from the place k on. -/
def lay (m : List UInt8) (k : Nat) : List Hk → List UInt8
  | [] => m
  | h :: hs => lay (over m (k + h.skip) h.xs) (k + h.skip + h.xs.length + 1) hs
/-- Hunks stay in a row of n places. -/
def Fit (n k : Nat) : List Hk → Prop
  | [] => True
  | h :: hs => k + h.skip + h.xs.length ≤ n ∧ Fit n (k + h.skip + h.xs.length + 1) hs

theorem fit_hk : ∀ (N n g : Nat) (l : List UInt8) (k : Nat), l.length ≤ N → k + g + l.length ≤ n → Fit n k (hk g l) := by
  intro N
  induction N with
  | zero =>
    intro n g l k hl hn
    obtain rfl : l = [] := List.eq_nil_of_length_eq_zero (by omega)
    rw [hk_nil]; trivial
  | succ N ih =>
    intro n g l k hl hn
    cases l with
    | nil => rw [hk_nil]; trivial
    | cons x t =>
      by_cases hx : x = 0
      · subst hx
        rw [hk_zero]
        simp only [List.length_cons] at hl hn
        exact ih n (g + 1) t k (by omega) (by omega)
      · rw [hk_more g x t hx]
        have h1 := lead_le (x :: t)
        have h2 : 0 < (lead (x :: t)).length := by rw [lead_cons x t hx]; simp
        refine ⟨by simp only; omega, ?_⟩
        simp only
        by_cases he : (lead (x :: t)).length + 1 ≤ (x :: t).length
        · exact ih n 0 _ _ (by rw [List.length_drop]; omega) (by rw [List.length_drop]; omega)
        · rw [List.drop_eq_nil_of_le (by omega), hk_nil]; trivial

theorem over_zeros (pre : List UInt8) (g n : Nat) (m : List UInt8) (h : m.length ≤ n) :
    over (pre ++ List.replicate (g + n) 0) (pre.length + g) m = (pre ++ (List.replicate g 0 ++ m)) ++ List.replicate (n - m.length) 0 := by
  have e : pre ++ List.replicate (g + n) (0 : UInt8) = (pre ++ List.replicate g 0) ++ (List.replicate m.length 0 ++ List.replicate (n - m.length) 0) := by
    rw [List.replicate_append_replicate, List.append_assoc, List.replicate_append_replicate]
    congr 2
    omega
  have hl : (pre ++ List.replicate g (0 : UInt8)).length = pre.length + g := by simp
  unfold over
  rw [e, ← hl, List.take_left, List.drop_append, List.drop_eq_nil_of_le (by omega), List.nil_append, Nat.add_sub_cancel_left, List.drop_append]
  simp

theorem lay_hk : ∀ (N g : Nat) (l pre : List UInt8), l.length ≤ N → lay (pre ++ List.replicate (g + l.length) 0) pre.length (hk g l) = pre ++ (List.replicate g 0 ++ l) := by
  intro N
  induction N with
  | zero =>
    intro g l pre hl
    obtain rfl : l = [] := List.eq_nil_of_length_eq_zero (by omega)
    rw [hk_nil]; simp [lay]
  | succ N ih =>
    intro g l pre hl
    cases l with
    | nil => rw [hk_nil]; simp [lay]
    | cons x t =>
      by_cases hx : x = 0
      · subst hx
        have := ih (g + 1) t pre (by simpa using hl)
        rw [hk_zero, List.length_cons, show g + (t.length + 1) = g + 1 + t.length by omega, this]
        congr 1
        rw [List.replicate_succ', List.append_assoc]
        rfl
      · have h1 := lead_le (x :: t)
        have h2 : 0 < (lead (x :: t)).length := by rw [lead_cons x t hx]; simp
        have h3 := lead_drop (x :: t)
        rw [hk_more g x t hx]
        simp only [lay]
        rw [over_zeros pre g (x :: t).length _ h1]
        generalize x :: t = l at *
        generalize lead l = m at *
        by_cases he : m.length = l.length
        · rw [List.drop_eq_nil_of_le (by omega), hk_nil]
          simp only [lay]
          have : l = m := by
            have h4 := h3.1
            rw [he, List.drop_length, List.append_nil] at h4
            exact h4
          rw [he, Nat.sub_self]
          simp [this]
        · have hlt : m.length < l.length := by omega
          have h4 : l = m ++ (0 :: l.drop (m.length + 1)) := by
            have h5 := h3.2
            rw [at0_lt l _ hlt] at h5
            have h6 := h3.1
            rw [List.drop_eq_getElem_cons hlt, h5] at h6
            exact h6
          have h5 := ih 0 (l.drop (m.length + 1)) ((pre ++ (List.replicate g 0 ++ m)) ++ [0]) (by rw [List.length_drop]; omega)
          have e1 : ((pre ++ (List.replicate g 0 ++ m)) ++ [0]).length = pre.length + g + m.length + 1 := by simp; omega
          have e2 : ((pre ++ (List.replicate g (0 : UInt8) ++ m)) ++ [0]) ++ List.replicate (0 + (l.drop (m.length + 1)).length) 0 = (pre ++ (List.replicate g 0 ++ m)) ++ List.replicate (l.length - m.length) 0 := by
            rw [List.append_assoc _ [0], show [(0 : UInt8)] = List.replicate 1 0 from rfl, List.replicate_append_replicate]
            congr 2
            rw [List.length_drop]
            omega
          rw [e1, e2] at h5
          rw [h5, List.replicate_zero, List.nil_append]
          conv => rhs; rw [h4]
          simp

/-- The hunks of bytes, laid over noughts, are the bytes. -/
theorem lay_all (l : List UInt8) : lay (List.replicate l.length 0) 0 (hk 0 l) = l := by
  have := lay_hk l.length 0 l [] (Nat.le_refl _)
  simpa using this

/-- A row with the first k places xored with what m has there. -/
def xored (cur m : List UInt8) (k : Nat) : List UInt8 := (List.range cur.length).map fun i => if i < k then at0 cur i ^^^ at0 m i else at0 cur i
theorem xored_length (cur m : List UInt8) (k : Nat) : (xored cur m k).length = cur.length := by simp [xored]
theorem xored_get (cur m : List UInt8) (k i : Nat) (h : i < cur.length) : (xored cur m k)[i]? = some (if i < k then at0 cur i ^^^ at0 m i else at0 cur i) := by
  unfold xored
  rw [List.getElem?_map, List.getElem?_range h]
  rfl
theorem xored_zero (cur m : List UInt8) : xored cur m 0 = cur := by
  apply List.ext_getElem?
  intro i
  by_cases h : i < cur.length
  · rw [xored_get _ _ _ _ h, if_neg (by omega), at0_lt _ _ h, List.getElem?_eq_getElem h]
  · rw [List.getElem?_eq_none (by rw [xored_length]; omega), List.getElem?_eq_none (by omega)]
theorem xored_at (cur m : List UInt8) (k : Nat) (h : k < cur.length) : (xored cur m k)[k]? = some (at0 cur k) := by
  rw [xored_get _ _ _ _ h, if_neg (by omega)]
theorem xored_succ (cur m : List UInt8) (k : Nat) (h : k < cur.length) : xored cur m (k + 1) = (xored cur m k).set k (at0 cur k ^^^ at0 m k) := by
  apply List.ext_getElem?
  intro i
  by_cases hi : i < cur.length
  · rw [xored_get _ _ _ _ hi, List.getElem?_set]
    by_cases e : k = i
    · subst e
      rw [if_pos (by omega), if_pos rfl, if_pos (by rw [xored_length]; exact h)]
    · rw [if_neg e, xored_get _ _ _ _ hi]
      by_cases h1 : i < k
      · rw [if_pos h1, if_pos (by omega)]
      · rw [if_neg h1, if_neg (by omega)]
  · rw [List.getElem?_eq_none (by rw [xored_length]; omega), List.getElem?_eq_none (by rw [List.length_set, xored_length]; omega)]
theorem xored_past (cur m : List UInt8) (k : Nat) (h : cur.length ≤ k) : xored cur m (k + 1) = xored cur m k := by
  apply List.ext_getElem?
  intro i
  by_cases hi : i < cur.length
  · rw [xored_get _ _ _ _ hi, xored_get _ _ _ _ hi, if_pos (by omega), if_pos (by omega)]
  · rw [List.getElem?_eq_none (by rw [xored_length]; omega), List.getElem?_eq_none (by rw [xored_length]; omega)]

theorem at0_over_zeros (a : List UInt8) (n i : Nat) : at0 (over (List.replicate n 0) 0 a) i = at0 a i := by
  unfold over
  simp only [List.take_zero, List.nil_append, Nat.zero_add]
  by_cases h1 : i < a.length
  · rw [at0_left _ _ _ h1]
  · rw [at0_right _ _ _ (by omega), at0_drop, at0_zeros, at0_ge a i (by omega)]
theorem over_zeros_length (a : List UInt8) (n : Nat) (h : a.length ≤ n) : (over (List.replicate n (0 : UInt8)) 0 a).length = n := by
  rw [over_length _ _ _ (by simpa using h)]; simp
/-- a over noughts, with b xored in: what differs. -/
theorem xored_dif (a b : List UInt8) : xored (over (List.replicate (max a.length b.length) 0) 0 a) b b.length = dif a b := by
  have hl := over_zeros_length a (max a.length b.length) (by omega)
  apply List.ext_getElem?
  intro i
  by_cases hi : i < max a.length b.length
  · rw [xored_get _ _ _ _ (by rw [hl]; exact hi), dif_get a b i hi, at0_over_zeros]
    split
    · rfl
    · rename_i h1
      rw [at0_ge b i (by omega)]
      simp
  · rw [List.getElem?_eq_none (by rw [xored_length, hl]; omega), List.getElem?_eq_none (by rw [dif_length]; omega)]
/-- x, cut or with noughts behind, with m xored in: what is made. -/
theorem xored_made (m x : List UInt8) (n k : Nat) (hk : m.length ≤ k) : xored (over (List.replicate n 0) 0 (x.take n)) m k = madeL m x n := by
  have hl := over_zeros_length (x.take n) n (by simp; omega)
  apply List.ext_getElem?
  intro i
  by_cases hi : i < n
  · have e : at0 (x.take n) i = at0 x i := by simp [at0, List.getD, List.getElem?_take_of_lt hi]
    rw [xored_get _ _ _ _ (by rw [hl]; exact hi), madeL_get _ _ _ _ hi, at0_over_zeros, e]
    split
    · rfl
    · rw [at0_ge m i (by omega)]
      simp
  · rw [List.getElem?_eq_none (by rw [xored_length, hl]; omega), List.getElem?_eq_none (by rw [madeL_length]; omega)]

end Ups
end Go.Proofs.Ytpbjbmmnncohfaa
