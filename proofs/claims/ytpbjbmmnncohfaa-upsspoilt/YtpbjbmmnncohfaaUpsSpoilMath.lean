/-
  A patch of which four bytes next to each other were xored: in mathematics.
-/
import Derived.Test.YtpbjbmmnncohfaaUpsShown
namespace Go.Proofs.Ytpbjbmmnncohfaa
open Go.RowKit
namespace Ups

/-- The bytes l, of which k from place p on are xored. -/
def spoil (l : List UInt8) (p : Nat) (B : BitVec 32) : Nat → List UInt8
  | 0 => l
  | k + 1 => (spoil l p B k).set (p + k) (at0 l (p + k) ^^^ Crc.byteAt B k)
theorem spoil_length (l : List UInt8) (p : Nat) (B : BitVec 32) (k : Nat) : (spoil l p B k).length = l.length := by
  induction k with
  | zero => rfl
  | succ k ih => simp [spoil, ih]
theorem spoil_get (l : List UInt8) (p : Nat) (B : BitVec 32) (k j : Nat) (h : p + k ≤ j) : (spoil l p B k)[j]? = l[j]? := by
  induction k with
  | zero => rfl
  | succ k ih => rw [spoil, List.getElem?_set_ne (by omega), ih (by omega)]
theorem spoil_at (l : List UInt8) (p : Nat) (B : BitVec 32) (k : Nat) (h : p + k < l.length) : (spoil l p B k)[p + k]? = some (at0 l (p + k)) := by
  rw [spoil_get l p B k _ (Nat.le_refl _), List.getElem?_eq_getElem h, at0_lt l _ h]
theorem spoil_four (pre post : List UInt8) (x0 x1 x2 x3 : UInt8) (B : BitVec 32) :
    spoil (pre ++ [x0, x1, x2, x3] ++ post) pre.length B 4 = pre ++ [x0 ^^^ Crc.byteAt B 0, x1 ^^^ Crc.byteAt B 1, x2 ^^^ Crc.byteAt B 2, x3 ^^^ Crc.byteAt B 3] ++ post := by
  simp [spoil, at0, List.getD, List.set_append_right]
theorem cut_four (l : List UInt8) (p : Nat) (h : p + 4 ≤ l.length) : ∃ x0 x1 x2 x3, l = l.take p ++ [x0, x1, x2, x3] ++ l.drop (p + 4) := by
  have e : l.drop p = l[p] :: l[p + 1] :: l[p + 2] :: l[p + 3] :: l.drop (p + 4) := by
    rw [List.drop_eq_getElem_cons (by omega), List.drop_eq_getElem_cons (by omega), List.drop_eq_getElem_cons (by omega), List.drop_eq_getElem_cons (by omega)]
  refine ⟨l[p], l[p + 1], l[p + 2], l[p + 3], ?_⟩
  have h1 := List.take_append_drop p l
  rw [e] at h1
  simp
theorem xor_id {x y : UInt8} (h : x = x ^^^ y) : y = 0 := by
  have : x ^^^ x = x ^^^ (x ^^^ y) := by rw [← h]
  rw [UInt8.xor_self, xor_cancel] at this
  exact this.symm

/-- What is signed and was spoilt is signed no more. -/
theorem spoil_sum (l : List UInt8) (p n : Nat) (B : BitVec 32) (hn : (signed l).length = n) (h : p + 4 ≤ n) (hB : B ≠ 0#32) : word4 ((spoil (signed l) p B 4).drop (n - 4)) ≠ sum ((spoil (signed l) p B 4).take (n - 4)) := by
  intro he
  obtain ⟨x0, x1, x2, x3, e⟩ := cut_four (signed l) p (by omega)
  have hp : ((signed l).take p).length = p := by rw [List.length_take]; omega
  have e2 := spoil_four ((signed l).take p) ((signed l).drop (p + 4)) x0 x1 x2 x3 B
  rw [← e, hp] at e2
  have hq : (spoil (signed l) p B 4).length = n := by rw [spoil_length, hn]
  have e3 : spoil (signed l) p B 4 = signed ((spoil (signed l) p B 4).take (n - 4)) := by
    show _ = (spoil (signed l) p B 4).take (n - 4) ++ le4 (sum ((spoil (signed l) p B 4).take (n - 4)))
    rw [← he, le4_word4 _ (by rw [List.length_drop, hq]; omega), List.take_append_drop]
  have key := signed_one l ((spoil (signed l) p B 4).take (n - 4)) _ _ _ _ _ _ _ _ _ _ e (e3.symm.trans e2)
  obtain ⟨k0, k1, k2, k3⟩ := key
  apply hB
  rw [← Crc.word_bytes B, xor_id k0, xor_id k1, xor_id k2, xor_id k3]
  decide
theorem spoil_none (l : List UInt8) (p : Nat) (h : p + 4 ≤ l.length) : spoil l p 0#32 4 = l := by
  obtain ⟨x0, x1, x2, x3, e⟩ := cut_four l p h
  have hp : (l.take p).length = p := by rw [List.length_take]; omega
  have e2 := spoil_four (l.take p) (l.drop (p + 4)) x0 x1 x2 x3 0#32
  rw [← e, hp] at e2
  rw [e2]
  conv => rhs; rw [e]
  simp [Crc.byteAt]

/-- Apply of a patch that was spoilt. -/
theorem apply_spoilt (w : World) (A R : Option Addr) (n c m d p : Nat) (a b : List UInt8) (B : BitVec 32) (hn : (patch a b).length = n) (hr : Rd w A (spoil (patch a b) p B 4)) (hc : n ≤ c) (hc2 : c ≤ maxLen) (hN : n ≤ 16777216) (hp : p + 4 ≤ n) (hm2 : m ≤ 16777216) (hB : B ≠ 0#32) :
    Calls Try.prog 11 #[.slice A n c, .slice R m d] w fun e w' => ∃ z : Int, (z = 3 ∨ z = 4) ∧ e = .returned (.tuple #[.slice none 0 0, .int .i64 z]) ∧ Fr [] w w' := by
  have h18 := patch_long a b
  rw [hn] at h18
  have hl : (spoil (patch a b) p B 4).length = n := by rw [spoil_length, hn]
  by_cases hb : (spoil (patch a b) p B 4).take 4 = [85, 80, 83, 49]
  · refine (apply_refused w A R n c m d 4 (by decide) hN hm2 (parse_sum w A n c _ hl hr h18 hc hc2 (by omega) hb (spoil_sum _ p n B hn hp hB))).mono ?_
    rintro e w' ⟨rfl, hf⟩
    exact ⟨4, .inr rfl, rfl, hf⟩
  · refine (apply_refused w A R n c m d 3 (by decide) hN hm2 (parse_form w A n c _ hl hr h18 hc hb)).mono ?_
    rintro e w' ⟨rfl, hf⟩
    exact ⟨3, .inl rfl, rfl, hf⟩

end Ups
end Go.Proofs.Ytpbjbmmnncohfaa
