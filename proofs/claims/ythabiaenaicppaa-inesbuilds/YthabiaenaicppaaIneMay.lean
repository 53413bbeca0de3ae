/-
  Carts that a file has, and the file of such a cart: what is told of it: in mathematics.
-/
import Derived.Test.YthabiaenaicppaaIneBuild2
import Derived.Test.YthabiaenaicppaaIneMath2
namespace Go.Proofs.Ythabiaenaicppaa
open Go.RowKit
namespace Ine

theorem told_prg (p d : Nat) (hp : p ≤ 5) (hd : d ≤ 3) : toldB (p * 16384 - d) 16384 = decide (0 < p ∧ d = 0) := by
  unfold toldB
  rw [decide_eq_decide]
  rcases (by omega : p = 0 ∨ p = 1 ∨ p = 2 ∨ p = 3 ∨ p = 4 ∨ p = 5) with rfl | rfl | rfl | rfl | rfl | rfl <;> omega
theorem told_chr (p d : Nat) (hp : p ≤ 4) (hd : d ≤ 3) : toldB (p * 8192 - d) 8192 = decide (0 < p ∧ d = 0) := by
  unfold toldB
  rw [decide_eq_decide]
  rcases (by omega : p = 0 ∨ p = 1 ∨ p = 2 ∨ p = 3 ∨ p = 4) with rfl | rfl | rfl | rfl | rfl <;> omega

theorem blank_of (l : List UInt8) (h : blankB l = true) : l = blank := by
  unfold blankB at h
  rw [Bool.and_eq_true, decide_eq_true_eq] at h
  unfold blank
  rw [List.eq_replicate_iff]
  refine ⟨h.1, fun b hb => ?_⟩
  have := List.all_eq_true.1 h.2 b hb
  simpa using this

theorem byte_exists (n : Nat) (h : n < 256) : ∃ x : UInt8, x.toNat = n := ⟨UInt8.ofNat n, by simp; omega⟩

theorem may_cart (m r : Int) (K1 KC : Nat) (L1 CL : List UInt8) (b : Bool) (h1 : L1.length = K1) (hC : CL.length = KC) (h : May m r K1 KC CL b) :
    ∃ (x1 x2 x3 : UInt8) (m' r' : Nat), (m' : Int) = m ∧ (r' : Int) = r ∧ x1.toNat = K1 / 16384 ∧ (x2.toNat = if b then 0 else KC / 8192) ∧ (x3.toNat : Int) = m * 16 + r ∧
      cartOf (fileOf x1 x2 x3 L1 (if b then [] else CL)) = ⟨m', r', L1, CL, b⟩ ∧ fault (fileOf x1 x2 x3 L1 (if b then [] else CL)) = 0 ∧ (fileOf x1 x2 x3 L1 (if b then [] else CL)).length ≤ 10000000 := by
  obtain ⟨⟨hm0, hm4⟩, hr, ht, hf, hb⟩ := h
  unfold toldB at ht hf
  rw [decide_eq_true_eq] at ht hf
  obtain ⟨x1, hx1⟩ := byte_exists (K1 / 16384) (by omega)
  obtain ⟨x3, hx3⟩ := byte_exists (m.toNat * 16 + r.toNat) (by omega)
  have hx10 : x1 ≠ 0 := fun e => by
    rw [e] at hx1
    have : (0 : UInt8).toNat = 0 := rfl
    omega
  have z : (0 : UInt8).toNat = 0 := rfl
  cases b
  · have ht2 := hf rfl
    obtain ⟨x2, hx2⟩ := byte_exists (KC / 8192) (by omega)
    have x := parts x1 x2 x3 0 (List.replicate 8 0) [] L1 CL [] List.length_replicate (by rw [if_neg (by omega)]; rfl) (by omega) (by omega)
    have y := x.2 hx10 (by rw [z]; decide) (by omega) (by rw [z]; omega) (by simp; omega)
    refine ⟨x1, x2, x3, m.toNat, r.toNat, by omega, by omega, hx1, hx2, by omega, ?_, y, ?_⟩
    · show cartOf (head8 x1 x2 x3 0 ++ (List.replicate 8 0 ++ ([] ++ (L1 ++ (CL ++ []))))) = _
      rw [x.1, z, if_neg (by omega)]
      have e1 : 0 / 16 * 16 + x3.toNat / 16 = m.toNat := by omega
      have e2 : x3.toNat % 2 = r.toNat := by omega
      have e3 : (x2.toNat == 0) = false := by rw [beq_eq_false_iff_ne]; omega
      rw [e1, e2, e3]
    · show (head8 x1 x2 x3 0 ++ (List.replicate 8 0 ++ ([] ++ (L1 ++ (CL ++ []))))).length ≤ _
      simp [head8_length]
      omega
  · have hbl := blank_of CL (hb rfl)
    have x := parts x1 0 x3 0 (List.replicate 8 0) [] L1 [] [] List.length_replicate (by rw [if_neg (by omega)]; rfl) (by omega) rfl
    have y := x.2 hx10 (by rw [z]; decide) (by omega) (by rw [z]; omega) (by simp; omega)
    refine ⟨x1, 0, x3, m.toNat, r.toNat, by omega, by omega, hx1, rfl, by omega, ?_, y, ?_⟩
    · show cartOf (head8 x1 0 x3 0 ++ (List.replicate 8 0 ++ ([] ++ (L1 ++ ([] ++ []))))) = _
      rw [x.1, z, if_pos rfl, hbl]
      have e1 : 0 / 16 * 16 + x3.toNat / 16 = m.toNat := by omega
      have e2 : x3.toNat % 2 = r.toNat := by omega
      rw [e1, e2]
      rfl
    · show (head8 x1 0 x3 0 ++ (List.replicate 8 0 ++ ([] ++ (L1 ++ ([] ++ []))))).length ≤ _
      simp [head8_length]
      omega

end Ine
end Go.Proofs.Ythabiaenaicppaa
