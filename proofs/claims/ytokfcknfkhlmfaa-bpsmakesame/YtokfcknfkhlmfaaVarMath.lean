/-
  Numbers of some bytes: plain mathematics, without the program: the bytes of a number (putV), what is taken of bytes (takeV), and that there is one writing of each number.
-/
import Derived.Test.YtokfcknfkhlmfaaBase
namespace Go.Proofs.Ytokfcknfkhlmfaa
namespace Var

/-- The greatest number. -/
def most : Nat := 4294967296

/-- The bytes of a number. -/
def putV (u : Nat) : List UInt8 :=
  if h : u < 128 then [UInt8.ofNat (u + 128)] else UInt8.ofNat (u % 128) :: putV (u / 128 - 1)
termination_by u
decreasing_by omega

theorem putV_last {u : Nat} (h : u < 128) : putV u = [UInt8.ofNat (u + 128)] := by rw [putV, dif_pos h]
theorem putV_more {u : Nat} (h : ¬ u < 128) : putV u = UInt8.ofNat (u % 128) :: putV (u / 128 - 1) := by rw [putV, dif_neg h]
theorem putV_pos (u : Nat) : 1 ≤ (putV u).length := by
  by_cases h : u < 128
  · simp [putV_last h]
  · simp [putV_more h]
theorem putV_mono : ∀ (u v : Nat), u ≤ v → (putV u).length ≤ (putV v).length := by
  intro u
  induction u using Nat.strongRecOn with
  | _ u ih =>
    intro v hv
    by_cases h : u < 128
    · rw [putV_last h]; exact putV_pos v
    · have h' : ¬ v < 128 := by omega
      rw [putV_more h, putV_more h']
      have := ih (u / 128 - 1) (by omega) (v / 128 - 1) (by omega)
      simpa using this
theorem putV_le5 {u : Nat} (h : u ≤ most) : (putV u).length ≤ 5 := by
  refine Nat.le_trans (putV_mono u most h) ?_
  rw [most]
  rw [putV_more (by decide), putV_more (by decide), putV_more (by decide), putV_more (by decide), putV_last (by decide)]
  decide

/-- What is taken of bytes, where so much has been said and a place weighs so much: the number, how many bytes, the error. -/
def goV (said weight : Nat) : List UInt8 → Nat × Nat × Int
  | [] => (0, 0, 2)
  | b :: r =>
    if said + b.toNat % 128 * weight > most then (0, 0, 5)
    else if 128 ≤ b.toNat then (said + b.toNat % 128 * weight, 1, 0)
    else
      let t := goV (said + b.toNat % 128 * weight + weight * 128) (weight * 128) r
      (t.1, if t.2.2 = 0 then t.2.1 + 1 else 0, t.2.2)

/-- What is taken of bytes. -/
def takeV (l : List UInt8) : Nat × Nat × Int := goV 0 1 l

theorem goV_err (said weight : Nat) (l : List UInt8) : (goV said weight l).2.2 = 0 ∨ (goV said weight l = (0, 0, 2)) ∨ goV said weight l = (0, 0, 5) := by
  induction l generalizing said weight with
  | nil => exact .inr (.inl rfl)
  | cons b r ih =>
    unfold goV
    split
    · exact .inr (.inr rfl)
    · split
      · exact .inl rfl
      · rcases ih (said + b.toNat % 128 * weight + weight * 128) (weight * 128) with h | h | h
        · exact .inl h
        · exact .inr (.inl (by simp [h]))
        · exact .inr (.inr (by simp [h]))

theorem goV_ok (said weight : Nat) (l : List UInt8) (h : (goV said weight l).2.2 = 0) : 1 ≤ (goV said weight l).2.1 ∧ (goV said weight l).2.1 ≤ l.length ∧ (goV said weight l).1 ≤ most := by
  induction l generalizing said weight with
  | nil => simp [goV] at h
  | cons b r ih =>
    unfold goV at h ⊢
    split at h
    · simp at h
    · rename_i h1
      rw [if_neg h1]
      split at h
      · rename_i h2
        rw [if_pos h2]
        refine ⟨Nat.le_refl _, by simp, ?_⟩
        show said + b.toNat % 128 * weight ≤ most
        omega
      · rename_i h2
        rw [if_neg h2]
        simp only at h ⊢
        obtain ⟨h3, h4, h5⟩ := ih _ _ h
        rw [if_pos h]
        refine ⟨by omega, ?_, h5⟩
        rw [List.length_cons]
        omega

theorem takeV_le (l : List UInt8) : (takeV l).2.1 ≤ l.length := by
  rcases goV_err 0 1 l with h | h | h
  · exact (goV_ok 0 1 l h).2.1
  · simp [takeV, h]
  · simp [takeV, h]

/-- What was put is taken, whatever stands behind. -/
theorem goV_put (said weight u : Nat) (r : List UInt8) (hs : said + u * weight ≤ most) :
    goV said weight (putV u ++ r) = (said + u * weight, (putV u).length, 0) := by
  induction u using Nat.strongRecOn generalizing said weight with
  | _ u ih =>
    by_cases h : u < 128
    · have e : (UInt8.ofNat (u + 128)).toNat = u + 128 := by simp; omega
      have e2 : (u + 128) % 128 = u := by omega
      rw [putV_last h]
      simp only [List.cons_append, List.nil_append, goV, e, e2, List.length_cons, List.length_nil]
      rw [if_neg (by omega), if_pos (by omega)]
    · have e : (UInt8.ofNat (u % 128)).toNat = u % 128 := by simp; omega
      have e2 : u % 128 % 128 = u % 128 := by omega
      have e3 : said + u % 128 * weight + weight * 128 + (u / 128 - 1) * (weight * 128) = said + u * weight := by
        obtain ⟨q, hq⟩ : ∃ q, u / 128 = q + 1 := ⟨u / 128 - 1, by omega⟩
        have hu : u = u % 128 + 128 * (q + 1) := by omega
        rw [hq, Nat.add_sub_cancel]
        conv => rhs; rw [hu]
        rw [Nat.add_mul, Nat.mul_add, Nat.add_mul, Nat.mul_one, Nat.mul_comm 128 q, Nat.mul_assoc, Nat.mul_comm 128 weight]
        omega
      have e4 : said + u % 128 * weight ≤ said + u * weight := Nat.add_le_add_left (Nat.mul_le_mul_right _ (Nat.mod_le _ _)) _
      rw [putV_more h]
      simp only [List.cons_append, goV, e, e2, List.length_cons]
      rw [if_neg (by omega), if_neg (by omega), ih (u / 128 - 1) (by omega) _ _ (by omega), e3]
      simp

theorem takeV_put (u : Nat) (r : List UInt8) (hu : u ≤ most) : takeV (putV u ++ r) = (u, (putV u).length, 0) := by
  have := goV_put 0 1 u r (by omega)
  simpa [takeV] using this

/-- Bytes that are taken were put. -/
theorem goV_one (said weight : Nat) (l : List UInt8) (h : (goV said weight l).2.2 = 0) : ∃ u, (goV said weight l).1 = said + u * weight ∧ putV u = l.take (goV said weight l).2.1 := by
  induction l generalizing said weight with
  | nil => simp [goV] at h
  | cons b r ih =>
    have hb : b.toNat < 256 := b.toNat_lt
    unfold goV at h ⊢
    split at h
    · simp at h
    · rename_i h1
      rw [if_neg h1]
      split at h
      · rename_i h2
        rw [if_pos h2]
        refine ⟨b.toNat % 128, rfl, ?_⟩
        rw [putV_last (by omega)]
        have : b.toNat % 128 + 128 = b.toNat := by omega
        rw [this]
        simp
      · rename_i h2
        rw [if_neg h2]
        simp only at h ⊢
        obtain ⟨u, hu, hp⟩ := ih _ _ h
        refine ⟨b.toNat + 128 * (u + 1), ?_, ?_⟩
        · rw [hu]
          have e : b.toNat % 128 = b.toNat := by omega
          rw [e, Nat.add_mul, Nat.mul_add, Nat.add_mul, Nat.mul_one, Nat.mul_comm 128 u, Nat.mul_assoc, Nat.mul_comm 128 weight]
          omega
        · rw [putV_more (by omega)]
          have e1 : (b.toNat + 128 * (u + 1)) % 128 = b.toNat := by omega
          have e2 : (b.toNat + 128 * (u + 1)) / 128 - 1 = u := by omega
          rw [e1, e2, hp]
          simp [h]

theorem takeV_one (l : List UInt8) (h : (takeV l).2.2 = 0) : putV (takeV l).1 = l.take (takeV l).2.1 := by
  obtain ⟨u, hu, hp⟩ := goV_one 0 1 l h
  have : (takeV l).1 = u := by unfold takeV; rw [hu]; omega
  rw [this]
  exact hp

/-- Each cut of them is too short. -/
theorem goV_cut (said weight : Nat) (l : List UInt8) (k : Nat) (h : (goV said weight l).2.2 = 0) (hk : k < (goV said weight l).2.1) : goV said weight (l.take k) = (0, 0, 2) := by
  induction l generalizing said weight k with
  | nil => simp [goV] at h
  | cons b r ih =>
    cases k with
    | zero => simp [goV]
    | succ k =>
      unfold goV at h hk
      rw [List.take_succ_cons]
      unfold goV
      split at h
      · simp at h
      · rename_i h1
        rw [if_neg h1] at hk
        rw [if_neg h1]
        split at h
        · rename_i h2
          rw [if_pos h2] at hk
          simp at hk
        · rename_i h2
          rw [if_neg h2] at hk
          rw [if_neg h2]
          simp only at h hk
          rw [if_pos h] at hk
          rw [ih _ _ k h (by omega)]
          simp
theorem takeV_cut (l : List UInt8) (k : Nat) (h : (takeV l).2.2 = 0) (hk : k < (takeV l).2.1) : takeV (l.take k) = (0, 0, 2) := goV_cut 0 1 l k h hk

theorem goV_size {said weight : Nat} {b : UInt8} {r : List UInt8} (h : said + b.toNat % 128 * weight > most) : goV said weight (b :: r) = (0, 0, 5) := by
  rw [goV, if_pos h]
theorem goV_last {said weight : Nat} {b : UInt8} {r : List UInt8} (h : ¬ said + b.toNat % 128 * weight > most) (hb : 128 ≤ b.toNat) : goV said weight (b :: r) = (said + b.toNat % 128 * weight, 1, 0) := by
  rw [goV, if_neg h, if_pos hb]

/-- What is taken, told by what is taken of the bytes behind the first i. -/
def Links (T : Nat × Nat × Int) (i : Nat) (t : Nat × Nat × Int) : Prop := T = (t.1, if t.2.2 = 0 then t.2.1 + i else 0, t.2.2)
theorem links_zero (said weight : Nat) (l : List UInt8) : Links (goV said weight l) 0 (goV said weight l) := by
  rcases goV_err said weight l with h | h | h
  · unfold Links; rw [if_pos h]; rfl
  · rw [h]; rfl
  · rw [h]; rfl
theorem links_next {T : Nat × Nat × Int} {i said weight : Nat} {b : UInt8} {r : List UInt8} (h : Links T i (goV said weight (b :: r))) (h1 : ¬ said + b.toNat % 128 * weight > most) (h2 : ¬ 128 ≤ b.toNat) :
    Links T (i + 1) (goV (said + b.toNat % 128 * weight + weight * 128) (weight * 128) r) := by
  unfold Links at h ⊢
  rw [h, goV, if_neg h1, if_neg h2]
  simp only
  split
  · congr 2
    omega
  · rfl

/-- Doubled, and one more if below 0. -/
def turnV (n : Int) : Int := if n < 0 then (2 * (-n) + 1) % 18446744073709551616 else 2 * n
/-- Half, turned round if odd. -/
def backV (u : Int) : Int := if u % 2 = 1 then -(u / 2) else u / 2
theorem turnV_range {n : Int} (h0 : -9223372036854775808 ≤ n) (h1 : n < 9223372036854775808) : 0 ≤ turnV n ∧ turnV n < 18446744073709551616 := by
  unfold turnV; split <;> omega
theorem backV_turnV {n : Int} (h0 : -9223372036854775808 < n) (h1 : n < 9223372036854775808) : backV (turnV n) = n := by
  unfold turnV
  split
  · unfold backV; split <;> omega
  · unfold backV; split <;> omega

end Var
end Go.Proofs.Ytokfcknfkhlmfaa
