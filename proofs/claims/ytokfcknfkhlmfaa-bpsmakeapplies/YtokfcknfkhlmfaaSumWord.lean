/-
  Sums as four bytes, bytes with their sum behind them, and four bytes next to each other that were xored: in mathematics, of no program.
-/
import Derived.Test.YtokfcknfkhlmfaaUpsMath
import Derived.Test.YtokfcknfkhlmfaaOctMath
import Derived.Test.YtokfcknfkhlmfaaCrcSpell
namespace Go.Proofs.Ytokfcknfkhlmfaa
open Go.RowKit
namespace Ups

theorem putL4 (d : BitVec 32) : putL d.toNat 4 = le4 d := by
  simp [putL, le4, Crc.byteAt, Nat.div_div_eq_div_mul]
theorem byte_u (d : BitVec 32) (k : Nat) : Crc.u d / 2 ^ (8 * k) % 256 = ((Crc.byteAt d k).toNat : Int) := byte_at d.toNat k

/-- The number that the first four bytes are, the lowest one first. -/
def word4 (l : List UInt8) : BitVec 32 := BitVec.ofNat 32 (le (l.take 4))
theorem le4_lt (l : List UInt8) (h : 4 ≤ l.length) : le (l.take 4) < 4294967296 := by
  have h1 := le_lt (l.take 4)
  rw [show (l.take 4).length = 4 by simp; omega] at h1
  exact h1
theorem word4_u (l : List UInt8) (h : 4 ≤ l.length) : Crc.u (word4 l) = (le (l.take 4) : Int) := by
  have := le4_lt l h
  unfold word4 Crc.u
  rw [BitVec.toNat_ofNat, Nat.mod_eq_of_lt (by omega)]
theorem list4 {α : Type} (l : List α) (h : l.length = 4) : ∃ a b c d, l = [a, b, c, d] := by
  match l, h with
  | [a, b, c, d], _ => exact ⟨a, b, c, d, rfl⟩
/-- Four bytes are those of their number. -/
theorem le4_word4 (z : List UInt8) (h : z.length = 4) : le4 (word4 z) = z := by
  obtain ⟨x0, x1, x2, x3, rfl⟩ := list4 z h
  have b0 := x0.toNat_lt
  have b1 := x1.toNat_lt
  have b2 := x2.toNat_lt
  have b3 := x3.toNat_lt
  have e : (word4 [x0, x1, x2, x3]).toNat = x0.toNat + 256 * (x1.toNat + 256 * (x2.toNat + 256 * x3.toNat)) := by
    unfold word4
    rw [BitVec.toNat_ofNat, List.take_of_length_le (by simp)]
    simp only [le]
    omega
  have key : ∀ (n : Nat) (x : UInt8), n = x.toNat → UInt8.ofNat n = x := fun n x h => by rw [h]; simp
  unfold le4 Crc.byteAt
  rw [e]
  congr 1
  · exact key _ _ (by omega)
  congr 1
  · exact key _ _ (by omega)
  congr 1
  · exact key _ _ (by omega)
  congr 1
  exact key _ _ (by omega)
theorem word4_le4 (d : BitVec 32) (r : List UInt8) : word4 (le4 d ++ r) = d := by
  have h1 : word4 (le4 d ++ r) = word4 (le4 d) := by
    unfold word4
    rw [← le4_length d, List.take_left, List.take_of_length_le (Nat.le_refl _)]
  have h2 : le4 (word4 (le4 d)) = le4 d := le4_word4 (le4 d) (le4_length d)
  rw [h1]
  have h3 : ∀ x y : BitVec 32, le4 x = le4 y → x = y := by
    intro x y hxy
    rw [← Crc.word_bytes x, ← Crc.word_bytes y]
    unfold le4 at hxy
    injection hxy with e0 t0
    injection t0 with e1 t1
    injection t1 with e2 t2
    injection t2 with e3 _
    rw [e0, e1, e2, e3]
  exact h3 _ _ h2

theorem drop_of {l pre post : List UInt8} (h : l = pre ++ post) (k : Nat) (hk : pre.length = k) : l.drop k = post := by rw [h, ← hk, List.drop_left]

/-- The bytes l, of which k from place p on are xored. -/
def spoil (l : List UInt8) (p : Nat) (B : BitVec 32) : Nat → List UInt8
  | 0 => l
  | k + 1 => (spoil l p B k).set (p + k) (at0 l (p + k) ^^^ Crc.byteAt B k)
theorem spoil_length (l : List UInt8) (p : Nat) (B : BitVec 32) (k : Nat) : (spoil l p B k).length = l.length := by
  induction k with
  | zero => rfl
  | succ k ih => simp [spoil, ih]
theorem spoil_get (l : List UInt8) (p : Nat) (B : BitVec 32) (k j : Nat) (h : p + k ≤ j) : (spoil l p B k)[j]? = l[j]? := by
  induction k with
  | zero => rfl
  | succ k ih => rw [spoil, List.getElem?_set_ne (by omega), ih (by omega)]
theorem spoil_at (l : List UInt8) (p : Nat) (B : BitVec 32) (k : Nat) (h : p + k < l.length) : (spoil l p B k)[p + k]? = some (at0 l (p + k)) := by
  rw [spoil_get l p B k _ (Nat.le_refl _), List.getElem?_eq_getElem h, at0_lt l _ h]
theorem spoil_four (pre post : List UInt8) (x0 x1 x2 x3 : UInt8) (B : BitVec 32) :
    spoil (pre ++ [x0, x1, x2, x3] ++ post) pre.length B 4 = pre ++ [x0 ^^^ Crc.byteAt B 0, x1 ^^^ Crc.byteAt B 1, x2 ^^^ Crc.byteAt B 2, x3 ^^^ Crc.byteAt B 3] ++ post := by
  simp [spoil, at0, List.getD, List.set_append_right]
theorem cut_four (l : List UInt8) (p : Nat) (h : p + 4 ≤ l.length) : ∃ x0 x1 x2 x3, l = l.take p ++ [x0, x1, x2, x3] ++ l.drop (p + 4) := by
  have e : l.drop p = l[p] :: l[p + 1] :: l[p + 2] :: l[p + 3] :: l.drop (p + 4) := by
    rw [List.drop_eq_getElem_cons (by omega), List.drop_eq_getElem_cons (by omega), List.drop_eq_getElem_cons (by omega), List.drop_eq_getElem_cons (by omega)]
  refine ⟨l[p], l[p + 1], l[p + 2], l[p + 3], ?_⟩
  have h1 := List.take_append_drop p l
  rw [e] at h1
  simp
theorem xor_id {x y : UInt8} (h : x = x ^^^ y) : y = 0 := by
  have : x ^^^ x = x ^^^ (x ^^^ y) := by rw [← h]
  rw [UInt8.xor_self, xor_cancel] at this
  exact this.symm

/-- What is signed and was spoilt is signed no more. -/
theorem spoil_sum (l : List UInt8) (p n : Nat) (B : BitVec 32) (hn : (signed l).length = n) (h : p + 4 ≤ n) (hB : B ≠ 0#32) : word4 ((spoil (signed l) p B 4).drop (n - 4)) ≠ sum ((spoil (signed l) p B 4).take (n - 4)) := by
  intro he
  obtain ⟨x0, x1, x2, x3, e⟩ := cut_four (signed l) p (by omega)
  have hp : ((signed l).take p).length = p := by rw [List.length_take]; omega
  have e2 := spoil_four ((signed l).take p) ((signed l).drop (p + 4)) x0 x1 x2 x3 B
  rw [← e, hp] at e2
  have hq : (spoil (signed l) p B 4).length = n := by rw [spoil_length, hn]
  have e3 : spoil (signed l) p B 4 = signed ((spoil (signed l) p B 4).take (n - 4)) := by
    show _ = (spoil (signed l) p B 4).take (n - 4) ++ le4 (sum ((spoil (signed l) p B 4).take (n - 4)))
    rw [← he, le4_word4 _ (by rw [List.length_drop, hq]; omega), List.take_append_drop]
  have key := signed_one l ((spoil (signed l) p B 4).take (n - 4)) _ _ _ _ _ _ _ _ _ _ e (e3.symm.trans e2)
  obtain ⟨k0, k1, k2, k3⟩ := key
  apply hB
  rw [← Crc.word_bytes B, xor_id k0, xor_id k1, xor_id k2, xor_id k3]
  decide
theorem spoil_none (l : List UInt8) (p : Nat) (h : p + 4 ≤ l.length) : spoil l p 0#32 4 = l := by
  obtain ⟨x0, x1, x2, x3, e⟩ := cut_four l p h
  have hp : (l.take p).length = p := by rw [List.length_take]; omega
  have e2 := spoil_four (l.take p) (l.drop (p + 4)) x0 x1 x2 x3 0#32
  rw [← e, hp] at e2
  rw [e2]
  conv => rhs; rw [e]
  simp [Crc.byteAt]

end Ups
end Go.Proofs.Ytokfcknfkhlmfaa
