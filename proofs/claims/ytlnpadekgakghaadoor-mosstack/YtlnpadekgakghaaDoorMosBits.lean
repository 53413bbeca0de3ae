/-
  Bits of addresses and of flags as whole numbers: plain lemmas, of no function. No condition.
-/
import Derived.Test.YtlnpadekgakghaaDoorMosRow
namespace Go.Proofs.YtlnpadekgakghaaDoor
open Go.RowKit
namespace Ms
set_option linter.unusedVariables false
open Al (byte of_byte)

theorem nat_of (x : Int) (hx : u16 x) : ∃ n : Nat, x = (n : Int) ∧ n < 65536 := ⟨x.toNat, by have := hx.1; omega, by have := hx.1; have := hx.2; omega⟩
theorem ofInt16 (n : Nat) (hn : n < 65536) : (BitVec.ofInt 16 (n : Int)).toNat = n := by
  rw [BitVec.toNat_ofInt]
  omega
theorem wrap16 (n : Nat) (hn : n < 65536) : IntKind.u16.wrap (n : Int) = n := by rw [IntKind.wrap_u16]; omega
theorem and_nat (n k : Nat) (hn : n < 65536) (hk : k < 65536) : bits .and .u16 (n : Int) (k : Int) = ((n &&& k : Nat) : Int) := by
  have e : bits .and .u16 (n : Int) (k : Int) = IntKind.u16.wrap ((BitVec.ofInt 16 (n : Int) &&& BitVec.ofInt 16 (k : Int)).toNat : Nat) := rfl
  have hl : n &&& k < 2 ^ 16 := Nat.and_lt_two_pow _ hk
  rw [e, BitVec.toNat_and, ofInt16 n hn, ofInt16 k hk, wrap16 _ hl]
theorem or_nat (n k : Nat) (hn : n < 65536) (hk : k < 65536) : bits .or .u16 (n : Int) (k : Int) = ((n ||| k : Nat) : Int) := by
  have e : bits .or .u16 (n : Int) (k : Int) = IntKind.u16.wrap ((BitVec.ofInt 16 (n : Int) ||| BitVec.ofInt 16 (k : Int)).toNat : Nat) := rfl
  have hl : n ||| k < 2 ^ 16 := Nat.or_lt_two_pow hn hk
  rw [e, BitVec.toNat_or, ofInt16 n hn, ofInt16 k hk, wrap16 _ hl]
theorem high8 (n : Nat) (hn : n < 65536) : n &&& 65280 = n / 256 * 256 := by
  refine Nat.eq_of_testBit_eq fun i => ?_
  rw [Nat.testBit_and, show n / 256 * 256 = n / 2 ^ 8 * 2 ^ 8 from rfl, Nat.testBit_mul_two_pow, Nat.testBit_div_two_pow, show 65280 = (2 ^ 8 - 1) * 2 ^ 8 from by decide, Nat.testBit_mul_two_pow, Nat.testBit_two_pow_sub_one]
  by_cases h : 8 ≤ i
  · simp only [h, decide_true, Bool.true_and]
    rw [Nat.sub_add_cancel h]
    by_cases h3 : i - 8 < 8
    · simp [h3]
    · have : n.testBit i = false := Nat.testBit_lt_two_pow (Nat.lt_of_lt_of_le hn (Nat.pow_le_pow_right (n := 2) (by decide) (show 16 ≤ i by omega)))
      simp [this]
  · simp [h]
theorem and_page (x : Int) (hx : u16 x) : bits .and .u16 x 65280 = x / 256 * 256 := by
  obtain ⟨n, rfl, hn⟩ := nat_of x hx
  have h := and_nat n 65280 hn (by decide)
  rw [show (65280 : Int) = ((65280 : Nat) : Int) from rfl, h, high8 n hn]
  omega
theorem andNot_page (x : Int) (hx : u16 x) : bits .andNot .u16 x 65280 = x % 256 := by
  obtain ⟨n, rfl, hn⟩ := nat_of x hx
  have e : bits .andNot .u16 (n : Int) 65280 = IntKind.u16.wrap ((BitVec.ofInt 16 (n : Int) &&& ~~~ BitVec.ofInt 16 65280).toNat : Nat) := rfl
  rw [e, show ~~~ BitVec.ofInt 16 65280 = BitVec.ofInt 16 ((255 : Nat) : Int) by decide, BitVec.toNat_and, ofInt16 n hn, ofInt16 255 (by decide), show n &&& 255 = n % 256 from Nat.and_two_pow_sub_one_eq_mod n 8, wrap16 _ (by omega)]
  omega
theorem or_page (x y : Int) (hx : u16 x) (hy : byte y) : bits .or .u16 (x / 256 * 256) y = x / 256 * 256 + y := by
  obtain ⟨n, rfl, hn⟩ := nat_of x hx
  obtain ⟨k, rfl, hk⟩ := nat_of y ⟨hy.1, by have := hy.2; omega⟩
  have h := or_nat (n / 256 * 256) k (by omega) hk
  have hk2 : k < 256 := by have := hy.2; omega
  have hl : (n / 256) <<< 8 + k = (n / 256) <<< 8 ||| k := Nat.shiftLeft_add_eq_or_of_lt (by omega) _
  rw [Nat.shiftLeft_eq] at hl
  rw [show ((n : Int) / 256 * 256) = ((n / 256 * 256 : Nat) : Int) by omega, h, ← hl]
  omega
theorem or256 (s : Int) (hs : byte s) : bits .or .u16 256 s = 256 + s := by
  have := or_page 256 s ⟨by omega, by omega⟩ hs
  simpa using this
theorem or_word (lo hi : Int) (hl : byte lo) (hh : byte hi) : bits .or .u16 lo (hi * 256) = lo + 256 * hi := by
  have h := or_page (hi * 256) lo ⟨by have := hh.1; omega, by have := hh.2; omega⟩ hl
  have e : bits .or .u16 lo (hi * 256) = bits .or .u16 (hi * 256) lo := by
    obtain ⟨n, rfl, hn⟩ := nat_of lo ⟨hl.1, by have := hl.2; omega⟩
    obtain ⟨k, hk, hk2⟩ := nat_of (hi * 256) ⟨by have := hh.1; omega, by have := hh.2; omega⟩
    rw [hk, or_nat n k hn hk2, or_nat k n hk2 hn, Nat.or_comm]
  rw [e, show hi * 256 = hi * 256 / 256 * 256 by omega, h]
  omega
theorem page_byte (x : Int) : byte (x % 256) := ⟨by omega, by omega⟩
theorem in_page (w : Int) (hw : u16 w) : bits .or .u16 (bits .and .u16 w 65280) (bits .andNot .u16 ((w + 1) % 65536) 65280) = inPage w := by
  rw [and_page w hw, andNot_page _ ⟨by omega, by omega⟩, or_page w _ hw (page_byte _)]
  unfold inPage
  omega
theorem crossed_page (i j : Int) (hi : u16 i) (hj : u16 j) : (bits .and .u16 i 65280 != bits .and .u16 j 65280) = crossed i j := by
  rw [and_page i hi, and_page j hj, Bool.eq_iff_iff]
  unfold crossed
  simp
  omega
set_option maxRecDepth 100000 in
theorem or_flags : ∀ p, byte p → (p / 16 % 4 = 0 → bits .or .u8 (bits .andNot .u8 p 48) 48 = p + 48 ∧ bits .or .u8 (bits .andNot .u8 p 48) 32 = p + 32 ∧ p + 48 < 256) := of_byte _ (by decide +kernel)
set_option maxRecDepth 100000 in
theorem andNot_k (k : Int) (hk : isF k) : ∀ p, byte p → bits .andNot .u8 p k = (if p / k % 2 = 1 then p - k else p) ∧ bits .or .u8 (if p / k % 2 = 1 then p - k else p) k = (if p / k % 2 = 1 then p - k else p) + k ∧ 0 ≤ (if p / k % 2 = 1 then p - k else p) ∧ (if p / k % 2 = 1 then p - k else p) < 256 := by
  rcases hk with rfl | rfl | rfl | rfl | rfl | rfl <;> exact of_byte _ (by decide +kernel)
theorem sg_mod (v : Int) (h : byte v) : IntKind.u16.wrap (Al.sg v) = Al.sg v % 65536 := by rw [IntKind.wrap_u16]

end Ms
end Go.Proofs.YtlnpadekgakghaaDoor
