/-
  Bits of addresses as whole numbers: plain lemmas, of no function.
-/
import Derived.Test.YtglnpgdigdfjiaaGmArgs
import Derived.Laws.Bits
namespace Go.Proofs.Ytglnpgdigdfjiaa
open Go.RowKit
namespace Gm

theorem nat_of (x : Int) (hx : u16 x) : ∃ n : Nat, x = (n : Int) ∧ n < 65536 := ⟨x.toNat, by have := hx.1; omega, by have := hx.1; have := hx.2; omega⟩
theorem ofInt16 (n : Nat) (hn : n < 65536) : (BitVec.ofInt 16 (n : Int)).toNat = n := by
  rw [BitVec.toNat_ofInt]
  omega
theorem wrap16 (n : Nat) (hn : n < 65536) : IntKind.u16.wrap (n : Int) = n := by rw [IntKind.wrap_u16]; omega
theorem wrap_u (x : Int) : u16 (IntKind.u16.wrap x) := by
  rw [IntKind.wrap_u16]
  exact ⟨by omega, by omega⟩
theorem and_u (x y : Int) : u16 (bits .and .u16 x y) := wrap_u _
theorem or_u (x y : Int) : u16 (bits .or .u16 x y) := wrap_u _
theorem and_nat (n k : Nat) (hn : n < 65536) (hk : k < 65536) : bits .and .u16 (n : Int) (k : Int) = ((n &&& k : Nat) : Int) := by
  have e : bits .and .u16 (n : Int) (k : Int) = IntKind.u16.wrap ((BitVec.ofInt 16 (n : Int) &&& BitVec.ofInt 16 (k : Int)).toNat : Nat) := rfl
  have hl : n &&& k < 2 ^ 16 := Nat.and_lt_two_pow _ hk
  rw [e, BitVec.toNat_and, ofInt16 n hn, ofInt16 k hk, wrap16 _ hl]
theorem or_nat (n k : Nat) (hn : n < 65536) (hk : k < 65536) : bits .or .u16 (n : Int) (k : Int) = ((n ||| k : Nat) : Int) := by
  have e : bits .or .u16 (n : Int) (k : Int) = IntKind.u16.wrap ((BitVec.ofInt 16 (n : Int) ||| BitVec.ofInt 16 (k : Int)).toNat : Nat) := rfl
  have hl : n ||| k < 2 ^ 16 := Nat.or_lt_two_pow hn hk
  rw [e, BitVec.toNat_or, ofInt16 n hn, ofInt16 k hk, wrap16 _ hl]

theorem or15 (x : Int) (hx : u16 x) : 32768 ≤ bits .or .u16 x 32768 ∧ bits .or .u16 x 32768 < 65536 := by
  obtain ⟨n, rfl, hn⟩ := nat_of x hx
  have h := or_nat n 32768 hn (by decide)
  have hl : n ||| 32768 < 2 ^ 16 := Nat.or_lt_two_pow hn (by decide)
  have hg : 32768 ≤ n ||| 32768 := Nat.right_le_or
  rw [show (32768 : Int) = ((32768 : Nat) : Int) from rfl, h]
  omega
theorem and13 (x : Int) (hx : u16 x) : bits .and .u16 x 8191 = x % 8192 := by
  obtain ⟨n, rfl, hn⟩ := nat_of x hx
  have h := and_nat n 8191 hn (by decide)
  have hl : n &&& 8191 = n % 8192 := Nat.and_two_pow_sub_one_eq_mod n 13
  rw [show (8191 : Int) = ((8191 : Nat) : Int) from rfl, h, hl]
  omega
theorem orA (x : Int) (h0 : 0 ≤ x) (h1 : x < 8192) : bits .or .u16 40960 x = 40960 + x := by
  obtain ⟨n, rfl, hn⟩ := nat_of x ⟨h0, by omega⟩
  have h := or_nat 40960 n (by decide) hn
  have hl : 5 <<< 13 + n = 5 <<< 13 ||| n := Nat.shiftLeft_add_eq_or_of_lt (by omega) 5
  have e5 : 5 <<< 13 = 40960 := by decide
  rw [e5] at hl
  rw [show (40960 : Int) = ((40960 : Nat) : Int) from rfl, h, ← hl]
  omega
theorem high2 (n : Nat) (hn : n < 65536) : n &&& 49152 = n / 16384 * 16384 := by
  refine Nat.eq_of_testBit_eq fun i => ?_
  rw [Nat.testBit_and, show n / 16384 * 16384 = n / 2 ^ 14 * 2 ^ 14 from rfl, Nat.testBit_mul_two_pow, Nat.testBit_div_two_pow, show 49152 = (2 ^ 2 - 1) * 2 ^ 14 from by decide, Nat.testBit_mul_two_pow, Nat.testBit_two_pow_sub_one]
  by_cases h : 14 ≤ i
  · simp only [h, decide_true, Bool.true_and]
    rw [Nat.sub_add_cancel h]
    by_cases h3 : i - 14 < 2
    · simp [h3]
    · have : n.testBit i = false := Nat.testBit_lt_two_pow (Nat.lt_of_lt_of_le hn (Nat.pow_le_pow_right (n := 2) (by decide) (show 16 ≤ i by omega)))
      simp [this]
  · simp [h]
theorem andNot14 (x : Int) (hx : u16 x) : bits .andNot .u16 x 16383 = x / 16384 * 16384 := by
  obtain ⟨n, rfl, hn⟩ := nat_of x hx
  have e : bits .andNot .u16 (n : Int) 16383 = IntKind.u16.wrap ((BitVec.ofInt 16 (n : Int) &&& ~~~ BitVec.ofInt 16 16383).toNat : Nat) := rfl
  have e2 : (~~~ BitVec.ofInt 16 16383).toNat = 49152 := by decide
  have hl : n &&& 49152 < 2 ^ 16 := Nat.and_lt_two_pow _ (by decide)
  rw [e, BitVec.toNat_and, e2, ofInt16 n hn, wrap16 _ hl, high2 n hn]
  omega

end Gm
end Go.Proofs.Ytglnpgdigdfjiaa
