/-
  Bits of addresses as whole numbers: plain lemmas, of no function.
-/
import Derived.Test.YtgakdlbdbiacgaaNmBits
import Derived.Test.YtgakdlbdbiacgaaNmArgs
namespace Go.Proofs.Ytgakdlbdbiacgaa
open Go.RowKit
namespace Nm

theorem nat_of (x : Int) (hx : u16 x) : ∃ n : Nat, x = (n : Int) ∧ n < 65536 := ⟨x.toNat, by have := hx.1; omega, by have := hx.1; have := hx.2; omega⟩
theorem ofInt16 (n : Nat) (hn : n < 65536) : (BitVec.ofInt 16 (n : Int)).toNat = n := by
  rw [BitVec.toNat_ofInt]
  omega
theorem wrap16 (n : Nat) (hn : n < 65536) : IntKind.u16.wrap (n : Int) = n := by rw [IntKind.wrap_u16]; omega
theorem xor_nat (n k : Nat) (hn : n < 65536) (hk : k < 65536) : bits .xor .u16 (n : Int) (k : Int) = ((n ^^^ k : Nat) : Int) := by
  have e : bits .xor .u16 (n : Int) (k : Int) = IntKind.u16.wrap ((BitVec.ofInt 16 (n : Int) ^^^ BitVec.ofInt 16 (k : Int)).toNat : Nat) := rfl
  have hl : n ^^^ k < 2 ^ 16 := Nat.xor_lt_two_pow hn hk
  rw [e, BitVec.toNat_xor, ofInt16 n hn, ofInt16 k hk, wrap16 _ hl]
theorem and_nat (n k : Nat) (hn : n < 65536) (hk : k < 65536) : bits .and .u16 (n : Int) (k : Int) = ((n &&& k : Nat) : Int) := by
  have e : bits .and .u16 (n : Int) (k : Int) = IntKind.u16.wrap ((BitVec.ofInt 16 (n : Int) &&& BitVec.ofInt 16 (k : Int)).toNat : Nat) := rfl
  have hl : n &&& k < 2 ^ 16 := Nat.and_lt_two_pow _ hk
  rw [e, BitVec.toNat_and, ofInt16 n hn, ofInt16 k hk, wrap16 _ hl]

theorem xor13 (x : Int) (hx : u16 x) : 0 ≤ bits .xor .u16 x 8192 ∧ bits .xor .u16 x 8192 < 65536 ∧ bits .xor .u16 x 8192 % 8192 = x % 8192 := by
  obtain ⟨n, rfl, hn⟩ := nat_of x hx
  have h := xor_nat n 8192 hn (by decide)
  have hl : n ^^^ 8192 < 2 ^ 16 := Nat.xor_lt_two_pow hn (by decide)
  have hm : (n ^^^ 8192) % 2 ^ 13 = n % 2 ^ 13 := by
    rw [Nat.xor_mod_two_pow, show 8192 % 2 ^ 13 = 0 from by decide, Nat.xor_zero]
  rw [show (8192 : Int) = ((8192 : Nat) : Int) from rfl, h]
  omega
theorem xor14 (x : Int) (hx : u16 x) : 0 ≤ bits .xor .u16 x 16384 ∧ bits .xor .u16 x 16384 < 65536 := by
  obtain ⟨n, rfl, hn⟩ := nat_of x hx
  have h := xor_nat n 16384 hn (by decide)
  have hl : n ^^^ 16384 < 2 ^ 16 := Nat.xor_lt_two_pow hn (by decide)
  rw [show (16384 : Int) = ((16384 : Nat) : Int) from rfl, h]
  omega
theorem and15b (x : Int) (hx : u16 x) : 0 ≤ bits .and .u16 x 32767 ∧ bits .and .u16 x 32767 < 32768 := by
  obtain ⟨n, rfl, hn⟩ := nat_of x hx
  have h := and_nat n 32767 hn (by decide)
  have hl : n &&& 32767 < 2 ^ 15 := Nat.and_lt_two_pow _ (by decide)
  rw [show (32767 : Int) = ((32767 : Nat) : Int) from rfl, h]
  omega
theorem high3 (n : Nat) (hn : n < 65536) : n &&& 57344 = n / 8192 * 8192 := by
  refine Nat.eq_of_testBit_eq fun i => ?_
  rw [Nat.testBit_and, show n / 8192 * 8192 = n / 2 ^ 13 * 2 ^ 13 from rfl, Nat.testBit_mul_two_pow, Nat.testBit_div_two_pow, show 57344 = (2 ^ 3 - 1) * 2 ^ 13 from by decide, Nat.testBit_mul_two_pow, Nat.testBit_two_pow_sub_one]
  by_cases h : 13 ≤ i
  · simp only [h, decide_true, Bool.true_and]
    rw [Nat.sub_add_cancel h]
    by_cases h3 : i - 13 < 3
    · simp [h3]
    · have : n.testBit i = false := Nat.testBit_lt_two_pow (Nat.lt_of_lt_of_le hn (Nat.pow_le_pow_right (n := 2) (by decide) (show 16 ≤ i by omega)))
      simp [this]
  · simp [h]
theorem andNot13 (x : Int) (hx : u16 x) : bits .andNot .u16 x 8191 = x / 8192 * 8192 := by
  obtain ⟨n, rfl, hn⟩ := nat_of x hx
  have e : bits .andNot .u16 (n : Int) 8191 = IntKind.u16.wrap ((BitVec.ofInt 16 (n : Int) &&& ~~~ BitVec.ofInt 16 8191).toNat : Nat) := rfl
  have e2 : (~~~ BitVec.ofInt 16 8191).toNat = 57344 := by decide
  have hl : n &&& 57344 < 2 ^ 16 := Nat.and_lt_two_pow _ (by decide)
  rw [e, BitVec.toNat_and, e2, ofInt16 n hn, wrap16 _ hl, high3 n hn]
  omega

end Nm
end Go.Proofs.Ytgakdlbdbiacgaa
