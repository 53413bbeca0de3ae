/-
  Files of Game Boy games: the head's sum, kinds, sizes, faults, carts, in mathematics, of no program.
-/
import Derived.Test.YthomlnaabkfcpaaDoorApp
namespace Go.Proofs.YthomlnaabkfcpaaDoor
open Go.RowKit
namespace Gb

/-- The byte at a place; 0, if there is none. -/
def bt (l : List UInt8) (i : Nat) : Nat := (l.getD i 0).toNat
theorem bt_lt (l : List UInt8) (i : Nat) : bt l i < 256 := UInt8.toNat_lt _
theorem bt_get (l : List UInt8) (i : Nat) (h : i < l.length) : bt l i = l[i].toNat := by simp [bt, List.getD, h]
theorem bt_take (l : List UInt8) (k i : Nat) (h : i < k) : bt (l.take k) i = bt l i := by simp [bt, List.getD, List.getElem?_take_of_lt h]
theorem bt_append (l m : List UInt8) (i : Nat) (h : i < l.length) : bt (l ++ m) i = bt l i := by simp [bt, List.getD, List.getElem?_append_left h]
theorem bt_set (l : List UInt8) (i j : Nat) (x : UInt8) (h : j < l.length) : bt (l.set j x) i = if i = j then x.toNat else bt l i := by
  unfold bt
  simp only [List.getD, List.getElem?_set]
  by_cases e : j = i
  · subst e; simp [h]
  · rw [if_neg e, if_neg (fun x => e x.symm)]

/-- The sum of the first k bytes that it is of. -/
def sumK (l : List UInt8) : Nat → Nat
  | 0 => 0
  | k + 1 => (sumK l k + 511 - bt l (308 + k)) % 256
theorem sumK_lt (l : List UInt8) (k : Nat) : sumK l k < 256 := by
  cases k with
  | zero => simp [sumK]
  | succ k => exact Nat.mod_lt _ (by decide)
/-- The head's sum. -/
def gsum (l : List UInt8) : Nat := sumK l 25
theorem gsum_lt (l : List UInt8) : gsum l < 256 := sumK_lt l 25

theorem sumK_same (l m : List UInt8) (k : Nat) (h : ∀ i, i < k → bt l (308 + i) = bt m (308 + i)) : sumK l k = sumK m k := by
  induction k with
  | zero => rfl
  | succ k ih => simp only [sumK]; rw [ih fun i hi => h i (by omega), h k (by omega)]
theorem gsum_same (l m : List UInt8) (h : ∀ i, i < 25 → bt l (308 + i) = bt m (308 + i)) : gsum l = gsum m := sumK_same l m 25 h
/-- Of rows that differ in one byte alone the sums differ by just that. -/
theorem sumK_one (l m : List UInt8) (j k : Nat) (hj : j < k) (h : ∀ i, i < k → i ≠ j → bt l (308 + i) = bt m (308 + i)) :
    (sumK l k + bt l (308 + j)) % 256 = (sumK m k + bt m (308 + j)) % 256 := by
  induction k with
  | zero => omega
  | succ k ih =>
    simp only [sumK]
    have b1 := bt_lt l (308 + k)
    have b2 := bt_lt m (308 + k)
    by_cases e : j = k
    · subst e
      rw [sumK_same l m j fun i hi => h i (by omega) (by omega)]
      omega
    · have h1 := ih (by omega) fun i hi hn => h i (by omega) hn
      rw [h k (by omega) (fun x => e x.symm)]
      omega
theorem gsum_one (l : List UInt8) (j : Nat) (x : UInt8) (hj : j < 25) (hl : 333 < l.length) : gsum (l.set (308 + j) x) = gsum l ↔ x.toNat = bt l (308 + j) := by
  have hx : x.toNat < 256 := UInt8.toNat_lt x
  have h1 := sumK_one (l.set (308 + j) x) l j 25 hj fun i hi hn => by rw [bt_set _ _ _ _ (by omega), if_neg (by omega)]
  rw [bt_set _ _ _ _ (by omega), if_pos rfl] at h1
  have h2 := gsum_lt l
  have h3 := gsum_lt (l.set (308 + j) x)
  have h4 := bt_lt l (308 + j)
  unfold gsum at *
  omega

/-- A type's kind; 9: it is none. -/
def kindN (y : Nat) : Nat := if y = 0 then 0 else if y ≤ 3 then 1 else if 15 ≤ y ∧ y ≤ 19 then 3 else if 25 ≤ y ∧ y ≤ 30 then 5 else 9
/-- How many bytes RAM has. -/
def ramN (r : Nat) : Nat := if r = 1 then 2048 else if r = 2 then 8192 else if r = 3 then 32768 else if r = 4 then 131072 else if r = 5 then 65536 else 0
/-- How many bytes ROM has. -/
def romN (n : Nat) : Nat := 32768 * 2 ^ n

/-- What may not be of sizes. -/
def unfit (k n r : Nat) : Prop := 8 < n ∨ 5 < r ∨ (k = 0 ∧ 0 < n)
instance (k n r : Nat) : Decidable (unfit k n r) := by unfold unfit; infer_instance

/-- What is told of a file that is no cart's; 0, if nothing is. -/
def fault (l : List UInt8) : Nat :=
  if 16777216 < l.length then 6 else if l.length < 32768 then 2 else if bt l 333 ≠ gsum l then 4 else if kindN (bt l 327) = 9 then 7
  else if unfit (kindN (bt l 327)) (bt l 328) (bt l 329) then 3 else if l.length < romN (bt l 328) then 2 else 0

/-- A cart. -/
structure Ct where
  k : Nat
  rom : List UInt8
  ram : Nat

/-- The cart of a file. -/
def cartOf (l : List UInt8) : Ct := ⟨kindN (bt l 327), l.take (romN (bt l 328)), ramN (bt l 329)⟩
/-- The cart that is told of bytes: a zero one, where they have a fault. -/
def ctOf (l : List UInt8) : Ct := if fault l = 0 then cartOf l else ⟨0, [], 0⟩

theorem romN_ge (n : Nat) : 32768 ≤ romN n := by unfold romN; have := Nat.one_le_two_pow (n := n); omega
theorem romN_le (n : Nat) (h : n ≤ 8) : romN n ≤ 8388608 := by
  unfold romN
  have : 2 ^ n ≤ 2 ^ 8 := Nat.pow_le_pow_right (by decide) h
  omega
theorem ramN_le (r : Nat) : ramN r ≤ 131072 := by unfold ramN; repeat' split
                                                  all_goals omega
theorem kindN_le (y : Nat) : kindN y ≤ 9 := by unfold kindN; repeat' split
                                               all_goals omega
theorem fault_le (l : List UInt8) : fault l ≤ 7 := by unfold fault; repeat' split
                                                      all_goals omega

theorem fault_ok (l : List UInt8) (h : fault l = 0) : 32768 ≤ l.length ∧ l.length ≤ 16777216 ∧ bt l 333 = gsum l ∧ kindN (bt l 327) ≠ 9 ∧ bt l 328 ≤ 8 ∧ bt l 329 ≤ 5 ∧ (kindN (bt l 327) = 0 → bt l 328 = 0) ∧ romN (bt l 328) ≤ l.length := by
  unfold fault at h
  by_cases h1 : 16777216 < l.length
  · rw [if_pos h1] at h; omega
  rw [if_neg h1] at h
  by_cases h2 : l.length < 32768
  · rw [if_pos h2] at h; omega
  rw [if_neg h2] at h
  by_cases h3 : bt l 333 ≠ gsum l
  · rw [if_pos h3] at h; omega
  rw [if_neg h3] at h
  by_cases h4 : kindN (bt l 327) = 9
  · rw [if_pos h4] at h; omega
  rw [if_neg h4] at h
  by_cases h5 : unfit (kindN (bt l 327)) (bt l 328) (bt l 329)
  · rw [if_pos h5] at h; omega
  rw [if_neg h5] at h
  by_cases h6 : l.length < romN (bt l 328)
  · rw [if_pos h6] at h; omega
  unfold unfit at h5
  exact ⟨by omega, by omega, by omega, h4, by omega, by omega, by omega, by omega⟩

/-- Bytes behind change nothing, if ROM is as small as may be. -/
theorem fault_more (l m : List UInt8) (hl : l.length = 32768) (hm : m.length ≤ 1000) (h0 : bt l 328 = 0) : fault (l ++ m) = fault l ∧ ctOf (l ++ m) = ctOf l := by
  have e (i : Nat) (h : i < 32768) : bt (l ++ m) i = bt l i := bt_append l m i (by omega)
  have hs : gsum (l ++ m) = gsum l := gsum_same _ _ fun i hi => e _ (by omega)
  have hr : romN 0 = 32768 := rfl
  have hf : fault (l ++ m) = fault l := by
    unfold fault
    rw [hs, e 333 (by omega), e 327 (by omega), e 328 (by omega), e 329 (by omega), List.length_append, h0, hl, hr]
    rw [if_neg (show ¬ 16777216 < 32768 + m.length by omega), if_neg (show ¬ 32768 + m.length < 32768 by omega), if_neg (show ¬ 32768 + m.length < 32768 by omega)]
    rw [if_neg (show ¬ 16777216 < 32768 by omega), if_neg (show ¬ 32768 < 32768 by omega)]
    simp
  refine ⟨hf, ?_⟩
  unfold ctOf cartOf
  rw [hf, e 327 (by omega), e 328 (by omega), e 329 (by omega), h0, hr, List.take_append_of_le_length (by omega)]

end Gb
end Go.Proofs.YthomlnaabkfcpaaDoor
