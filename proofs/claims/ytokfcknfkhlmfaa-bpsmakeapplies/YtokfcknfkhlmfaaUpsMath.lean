/-
  Patches of differences (ups): hunks, what they xor in, both ways, and why a patch that was spoilt is refused: in mathematics, of no program.
-/
import Derived.Test.YtokfcknfkhlmfaaCrcMath2
import Derived.Test.YtokfcknfkhlmfaaVarMath
namespace Go.Proofs.Ytokfcknfkhlmfaa
namespace Ups

/-- The byte at a place; 0, if there is none. -/
def at0 (l : List UInt8) (i : Nat) : UInt8 := l.getD i 0
theorem at0_lt (l : List UInt8) (i : Nat) (h : i < l.length) : at0 l i = l[i] := by simp [at0, List.getD, h]
theorem at0_ge (l : List UInt8) (i : Nat) (h : l.length ≤ i) : at0 l i = 0 := by simp [at0, List.getD, h]
theorem at0_get (l : List UInt8) (i : Nat) (x : UInt8) (h : l[i]? = some x) : at0 l i = x := by simp [at0, List.getD, h]
theorem at0_left (l m : List UInt8) (i : Nat) (h : i < l.length) : at0 (l ++ m) i = at0 l i := by simp [at0, List.getD, List.getElem?_append_left h]
theorem at0_right (l m : List UInt8) (i : Nat) (h : l.length ≤ i) : at0 (l ++ m) i = at0 m (i - l.length) := by simp [at0, List.getD, List.getElem?_append_right h]
theorem at0_zeros (n i : Nat) : at0 (List.replicate n 0) i = 0 := by
  by_cases h : i < n
  · rw [at0_lt _ _ (by simpa using h)]; simp
  · rw [at0_ge _ _ (by simpa using h)]
theorem at0_drop (l : List UInt8) (k i : Nat) : at0 (l.drop k) i = at0 l (k + i) := by simp [at0, List.getD]
theorem at0_zeros_app (g : Nat) (l : List UInt8) (i : Nat) : at0 (List.replicate g 0 ++ l) i = if i < g then 0 else at0 l (i - g) := by
  split
  · rename_i h; rw [at0_left _ _ _ (by simpa using h), at0_zeros]
  · rename_i h; rw [at0_right _ _ _ (by simp; omega)]; simp

/-- A hunk: what is skipped, and what is xored in. -/
structure Hk where
  skip : Nat
  xs : List UInt8
/-- The bytes of a hunk. -/
def hkB (h : Hk) : List UInt8 := Var.putV h.skip ++ (h.xs ++ [0])
/-- The bytes ahead of the first 0. -/
def lead (l : List UInt8) : List UInt8 := l.takeWhile (fun x => x != 0)

theorem lead_nil : lead [] = [] := rfl
theorem lead_zero (t : List UInt8) : lead (0 :: t) = [] := by simp [lead]
theorem lead_cons (x : UInt8) (t : List UInt8) (h : x ≠ 0) : lead (x :: t) = x :: lead t := by simp [lead, h]
theorem lead_all (l : List UInt8) : ∀ x ∈ lead l, x ≠ 0 := by
  intro x hx
  induction l with
  | nil => simp [lead] at hx
  | cons y t ih =>
    by_cases h : y = 0
    · subst h; rw [lead_zero] at hx; simp at hx
    · rw [lead_cons y t h] at hx
      rcases List.mem_cons.1 hx with rfl | hx
      · exact h
      · exact ih hx
theorem lead_le (l : List UInt8) : (lead l).length ≤ l.length := by
  induction l with
  | nil => simp [lead]
  | cons y t ih =>
    by_cases h : y = 0
    · subst h; rw [lead_zero]; simp
    · rw [lead_cons y t h]; simpa using ih
/-- Bytes are those ahead of the first 0, and the rest, which is none or begins with 0. -/
theorem lead_drop (l : List UInt8) : l = lead l ++ l.drop (lead l).length ∧ at0 l (lead l).length = 0 := by
  induction l with
  | nil => simp [lead, at0]
  | cons y t ih =>
    by_cases h : y = 0
    · subst h; simp [lead_zero, at0]
    · rw [lead_cons y t h]
      refine ⟨by simpa using ih.1, ?_⟩
      have := ih.2
      simpa [at0] using this

/-- The hunks of the bytes l, g places behind the last one. -/
def hk (g : Nat) (l : List UInt8) : List Hk :=
  match l with
  | [] => []
  | x :: t => if x = 0 then hk (g + 1) t else ⟨g, lead (x :: t)⟩ :: hk 0 ((x :: t).drop ((lead (x :: t)).length + 1))
termination_by l.length
decreasing_by
  · simp
  · simp; omega

theorem hk_nil (g : Nat) : hk g [] = [] := by rw [hk]
theorem hk_zero (g : Nat) (t : List UInt8) : hk g (0 :: t) = hk (g + 1) t := by rw [hk]; simp
theorem hk_more (g : Nat) (x : UInt8) (t : List UInt8) (h : x ≠ 0) : hk g (x :: t) = ⟨g, lead (x :: t)⟩ :: hk 0 ((x :: t).drop ((lead (x :: t)).length + 1)) := by rw [hk]; simp [h]

/-- What hunks xor in, place by place. -/
def ex : List Hk → List UInt8
  | [] => []
  | h :: hs => List.replicate h.skip 0 ++ (h.xs ++ (0 :: ex hs))
theorem ex_cons (h : Hk) (hs : List Hk) : ex (h :: hs) = List.replicate h.skip 0 ++ (h.xs ++ (0 :: ex hs)) := rfl

theorem ex_hk : ∀ (n : Nat) (g : Nat) (l : List UInt8), l.length ≤ n → ∀ i, at0 (ex (hk g l)) i = at0 (List.replicate g 0 ++ l) i := by
  intro n
  induction n with
  | zero =>
    intro g l hl i
    obtain rfl : l = [] := List.eq_nil_of_length_eq_zero (by omega)
    rw [hk_nil, List.append_nil, at0_zeros]
    rfl
  | succ n ih =>
    intro g l hl i
    cases l with
    | nil =>
      rw [hk_nil, List.append_nil, at0_zeros]
      rfl
    | cons x t =>
      by_cases h : x = 0
      · subst h
        rw [hk_zero, ih (g + 1) t (by simpa using hl) i, at0_zeros_app, at0_zeros_app]
        by_cases h1 : i < g
        · rw [if_pos (by omega), if_pos h1]
        · rw [if_neg h1]
          by_cases h2 : i = g
          · subst h2
            rw [if_pos (by omega)]
            simp [at0]
          · rw [if_neg (by omega), show i - g = (i - (g + 1)) + 1 by omega]
            simp [at0]
      · have hd := lead_drop (x :: t)
        have hp : 0 < (lead (x :: t)).length := by rw [lead_cons x t h]; simp
        rw [hk_more g x t h, ex_cons]
        simp only
        rw [at0_zeros_app, at0_zeros_app]
        split
        · rfl
        · generalize i - g = k
          generalize hm : lead (x :: t) = m at *
          by_cases h1 : k < m.length
          · rw [at0_left _ _ _ h1]
            conv => rhs; rw [hd.1]
            rw [at0_left _ _ _ h1]
          · rw [at0_right _ _ _ (by omega)]
            by_cases h2 : k = m.length
            · subst h2
              rw [hd.2]
              simp [at0]
            · rw [show k - m.length = (k - m.length - 1) + 1 by omega]
              have e : at0 (0 :: ex (hk 0 ((x :: t).drop (m.length + 1)))) (k - m.length - 1 + 1) = at0 (ex (hk 0 ((x :: t).drop (m.length + 1)))) (k - m.length - 1) := by simp [at0]
              rw [e, ih 0 _ (by simp at hl ⊢; omega) _, List.replicate_zero, List.nil_append, at0_drop]
              congr 1
              omega

/-- The differences of a and b, up to the longer one's end. -/
def dif (a b : List UInt8) : List UInt8 := (List.range (max a.length b.length)).map fun i => at0 a i ^^^ at0 b i
theorem dif_length (a b : List UInt8) : (dif a b).length = max a.length b.length := by simp [dif]
theorem dif_get (a b : List UInt8) (i : Nat) (h : i < max a.length b.length) : (dif a b)[i]? = some (at0 a i ^^^ at0 b i) := by
  unfold dif
  rw [List.getElem?_map, List.getElem?_range h]
  rfl
theorem dif_at (a b : List UInt8) (i : Nat) : at0 (dif a b) i = at0 a i ^^^ at0 b i := by
  by_cases h : i < max a.length b.length
  · exact at0_get _ _ _ (dif_get a b i h)
  · rw [at0_ge _ _ (by rw [dif_length]; omega), at0_ge a i (by omega), at0_ge b i (by omega)]
    simp
/-- The hunks of a patch from a to b. -/
def hunks (a b : List UInt8) : List Hk := hk 0 (dif a b)
theorem hunks_at (a b : List UInt8) (i : Nat) : at0 (ex (hunks a b)) i = at0 a i ^^^ at0 b i := by
  unfold hunks
  rw [ex_hk _ 0 (dif a b) (Nat.le_refl _) i, List.replicate_zero, List.nil_append, dif_at]

/-- What is made of x by what is xored in, of so many bytes. -/
def madeL (m x : List UInt8) (n : Nat) : List UInt8 := (List.range n).map fun i => at0 x i ^^^ at0 m i
theorem madeL_length (m x : List UInt8) (n : Nat) : (madeL m x n).length = n := by simp [madeL]
theorem madeL_get (m x : List UInt8) (n i : Nat) (h : i < n) : (madeL m x n)[i]? = some (at0 x i ^^^ at0 m i) := by
  unfold madeL
  rw [List.getElem?_map, List.getElem?_range h]
  rfl
/-- A byte that is xored in behind the end leaves there something other than 0. -/
def Spills (m x : List UInt8) (n : Nat) : Prop := ∃ i, n ≤ i ∧ at0 m i ≠ 0 ∧ at0 x i ^^^ at0 m i ≠ 0

theorem xor_cancel (x y : UInt8) : x ^^^ (x ^^^ y) = y := by rw [← UInt8.xor_assoc, UInt8.xor_self, UInt8.zero_xor]
theorem xor_cancel' (x y : UInt8) : y ^^^ (x ^^^ y) = x := by rw [UInt8.xor_comm x y, xor_cancel]
theorem forth (a b : List UInt8) : madeL (ex (hunks a b)) a b.length = b ∧ ¬ Spills (ex (hunks a b)) a b.length := by
  constructor
  · apply List.ext_getElem?
    intro i
    by_cases h : i < b.length
    · rw [madeL_get _ _ _ _ h, hunks_at, xor_cancel, at0_lt b i h, List.getElem?_eq_getElem h]
    · rw [List.getElem?_eq_none (by rw [madeL_length]; omega), List.getElem?_eq_none (by omega)]
  · rintro ⟨i, h1, _, h3⟩
    rw [hunks_at, xor_cancel, at0_ge b i h1] at h3
    exact h3 rfl
theorem back (a b : List UInt8) : madeL (ex (hunks a b)) b a.length = a ∧ ¬ Spills (ex (hunks a b)) b a.length := by
  constructor
  · apply List.ext_getElem?
    intro i
    by_cases h : i < a.length
    · rw [madeL_get _ _ _ _ h, hunks_at, xor_cancel', at0_lt a i h, List.getElem?_eq_getElem h]
    · rw [List.getElem?_eq_none (by rw [madeL_length]; omega), List.getElem?_eq_none (by omega)]
  · rintro ⟨i, h1, _, h3⟩
    rw [hunks_at, xor_cancel', at0_ge a i h1] at h3
    exact h3 rfl

/-- Four bytes of a sum, the lowest one first. -/
def le4 (d : BitVec 32) : List UInt8 := [Crc.byteAt d 0, Crc.byteAt d 1, Crc.byteAt d 2, Crc.byteAt d 3]
theorem le4_length (d : BitVec 32) : (le4 d).length = 4 := rfl
def sum (l : List UInt8) : BitVec 32 := Crc.next 0#32 l
/-- Bytes with their sum behind them. -/
def signed (l : List UInt8) : List UInt8 := l ++ le4 (sum l)
theorem signed_length (l : List UInt8) : (signed l).length = l.length + 4 := by simp [signed, le4_length]

/-- All that is signed has one sum. -/
theorem signed_sum (l : List UInt8) : sum (signed l) = ~~~ Crc.eight (Crc.eight (Crc.eight (Crc.eight (BitVec.allOnes 32)))) := by
  unfold signed sum le4
  rw [Crc.next_append]
  unfold Crc.next
  rw [Crc.run_four, Crc.word_bytes]
  congr 5
  generalize Crc.run (~~~ 0#32) l = r
  rw [BitVec.not_not]
  apply BitVec.eq_of_getLsbD_eq
  intro i hi
  simp only [BitVec.getLsbD_xor, BitVec.getLsbD_not, BitVec.getLsbD_allOnes, hi, decide_true, Bool.true_and]
  cases r.getLsbD i <;> rfl

/-- Of two that are signed, and that differ in four bytes next to each other at most, both are the same. -/
theorem signed_one (l m : List UInt8) (pre post : List UInt8) (x0 x1 x2 x3 y0 y1 y2 y3 : UInt8) (hl : signed l = pre ++ [x0, x1, x2, x3] ++ post) (hm : signed m = pre ++ [y0, y1, y2, y3] ++ post) : x0 = y0 ∧ x1 = y1 ∧ x2 = y2 ∧ x3 = y3 := by
  refine Crc.next_one 0#32 pre post x0 x1 x2 x3 y0 y1 y2 y3 ?_
  rw [← hl, ← hm]
  exact (signed_sum l).trans (signed_sum m).symm

/-- What stands ahead of the last sum. -/
def body (a b : List UInt8) : List UInt8 := [85, 80, 83, 49] ++ (Var.putV a.length ++ (Var.putV b.length ++ ((hunks a b).flatMap hkB ++ (le4 (sum a) ++ le4 (sum b)))))
/-- The patch. -/
def patch (a b : List UInt8) : List UInt8 := signed (body a b)
theorem patch_long (a b : List UInt8) : 18 ≤ (patch a b).length := by
  have h1 := Var.putV_pos a.length
  have h2 := Var.putV_pos b.length
  unfold patch
  rw [signed_length]
  simp only [body, List.length_append, le4_length, List.length_cons, List.length_nil]
  omega

/-- Hunks: none is empty, and none of their bytes is 0. -/
def Fine (h : Hk) : Prop := h.xs ≠ [] ∧ ∀ x ∈ h.xs, x ≠ 0
theorem hk_fine : ∀ (n g : Nat) (l : List UInt8), l.length ≤ n → ∀ h ∈ hk g l, Fine h := by
  intro n
  induction n with
  | zero =>
    intro g l hl h hh
    obtain rfl : l = [] := List.eq_nil_of_length_eq_zero (by omega)
    rw [hk_nil] at hh; simp at hh
  | succ n ih =>
    intro g l hl h hh
    cases l with
    | nil => rw [hk_nil] at hh; simp at hh
    | cons x t =>
      by_cases hx : x = 0
      · subst hx
        rw [hk_zero] at hh
        exact ih (g + 1) t (by simpa using hl) h hh
      · rw [hk_more g x t hx] at hh
        rcases List.mem_cons.1 hh with rfl | hh
        · refine ⟨?_, lead_all (x :: t)⟩
          simp only
          rw [lead_cons x t hx]
          simp
        · exact ih 0 _ (by simp at hl ⊢; omega) h hh
/-- How far hunks reach. -/
def far : List Hk → Nat
  | [] => 0
  | h :: hs => h.skip + h.xs.length + 1 + far hs
theorem ex_length (hs : List Hk) : (ex hs).length = far hs := by
  induction hs with
  | nil => rfl
  | cons h hs ih => simp [ex_cons, far, ih]; omega
theorem hk_far : ∀ (n g : Nat) (l : List UInt8), l.length ≤ n → far (hk g l) ≤ g + l.length + 1 := by
  intro n
  induction n with
  | zero =>
    intro g l hl
    obtain rfl : l = [] := List.eq_nil_of_length_eq_zero (by omega)
    rw [hk_nil]; simp [far]
  | succ n ih =>
    intro g l hl
    cases l with
    | nil => rw [hk_nil]; simp [far]
    | cons x t =>
      by_cases hx : x = 0
      · subst hx
        rw [hk_zero]
        have := ih (g + 1) t (by simpa using hl)
        simp only [List.length_cons]
        omega
      · rw [hk_more g x t hx]
        have h1 := lead_le (x :: t)
        by_cases he : (lead (x :: t)).length + 1 ≤ (x :: t).length
        · have h2 := ih 0 ((x :: t).drop ((lead (x :: t)).length + 1)) (by simp at hl ⊢; omega)
          simp only [far]
          rw [List.length_drop] at h2
          omega
        · rw [List.drop_eq_nil_of_le (by omega), hk_nil]
          simp only [far]
          omega

end Ups
end Go.Proofs.Ytokfcknfkhlmfaa
