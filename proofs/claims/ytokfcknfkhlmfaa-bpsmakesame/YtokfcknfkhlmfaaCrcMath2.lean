/-
  The way back of the remainder: eight steps can be taken back; four bytes lead from one register to any other one, and no other four do. Plain mathematics, without the program.
-/
import Derived.Test.YtokfcknfkhlmfaaCrcMath
namespace Go.Proofs.Ytokfcknfkhlmfaa.Crc

/-- Which entry of the table has this highest byte. -/
def invTab : List Nat := [
  0, 65, 195, 130, 134, 199, 69, 4, 77, 12, 142, 207, 203, 138, 8, 73, 154, 219, 89, 24, 28, 93, 223, 158, 215, 150, 20, 85, 81, 16, 146, 211,
  117, 52, 182, 247, 243, 178, 48, 113, 56, 121, 251, 186, 190, 255, 125, 60, 239, 174, 44, 109, 105, 40, 170, 235, 162, 227, 97, 32, 36, 101, 231, 166,
  234, 171, 41, 104, 108, 45, 175, 238, 167, 230, 100, 37, 33, 96, 226, 163, 112, 49, 179, 242, 246, 183, 53, 116, 61, 124, 254, 191, 187, 250, 120, 57,
  159, 222, 92, 29, 25, 88, 218, 155, 210, 147, 17, 80, 84, 21, 151, 214, 5, 68, 198, 135, 131, 194, 64, 1, 72, 9, 139, 202, 206, 143, 13, 76,
  149, 212, 86, 23, 19, 82, 208, 145, 216, 153, 27, 90, 94, 31, 157, 220, 15, 78, 204, 141, 137, 200, 74, 11, 66, 3, 129, 192, 196, 133, 7, 70,
  224, 161, 35, 98, 102, 39, 165, 228, 173, 236, 110, 47, 43, 106, 232, 169, 122, 59, 185, 248, 252, 189, 63, 126, 55, 118, 244, 181, 177, 240, 114, 51,
  127, 62, 188, 253, 249, 184, 58, 123, 50, 115, 241, 176, 180, 245, 119, 54, 229, 164, 38, 103, 99, 34, 160, 225, 168, 233, 107, 42, 46, 111, 237, 172,
  10, 75, 201, 136, 140, 205, 79, 14, 71, 6, 132, 197, 193, 128, 2, 67, 144, 209, 83, 18, 22, 87, 213, 148, 221, 156, 30, 95, 91, 26, 152, 217]
def inv (h : Nat) : Nat := invTab.getD h 0
/-- The highest byte of the table's entry i. -/
def top (i : Nat) : Nat := (T i).toNat / 16777216

theorem top_inv_all : (List.range 256).all (fun h => top (inv h) == h && decide (inv h < 256)) = true := by decide +kernel
theorem inv_top_all : (List.range 256).all (fun i => inv (top i) == i && decide (top i < 256)) = true := by decide +kernel
theorem top_inv (h : Nat) (hh : h < 256) : top (inv h) = h ∧ inv h < 256 := by
  have := List.all_eq_true.1 top_inv_all h (by simpa using hh)
  simpa using this
theorem inv_top (i : Nat) (hi : i < 256) : inv (top i) = i ∧ top i < 256 := by
  have := List.all_eq_true.1 inv_top_all i (by simpa using hi)
  simpa using this
theorem top_ne {i j : Nat} (hi : i < 256) (hj : j < 256) (h : i ≠ j) : top i ≠ top j := fun e => h (by rw [← (inv_top i hi).1, e, (inv_top j hj).1])

/-- The highest byte of a register. -/
def high (r : BitVec 32) : Nat := r.toNat / 16777216
theorem high_lt (r : BitVec 32) : high r < 256 := by have := r.isLt; unfold high; omega
theorem high_eq (r : BitVec 32) : high r = (r >>> 24).toNat := by
  unfold high
  rw [BitVec.toNat_ushiftRight, Nat.shiftRight_eq_div_pow]
theorem high_T (i : Nat) : high (T i) = top i := rfl

/-- From which register a byte of 0 leads to r. -/
def backR (r : BitVec 32) : BitVec 32 := ((r ^^^ T (inv (high r))) <<< 8) ||| BitVec.ofNat 32 (inv (high r))

theorem low_high (i : Nat) (hi : i < 256) (j : Nat) (hj : 8 ≤ j) : (BitVec.ofNat 32 i).getLsbD j = false := by
  unfold BitVec.getLsbD
  rw [BitVec.toNat_ofNat, Nat.mod_eq_of_lt (by omega)]
  exact Nat.testBit_lt_two_pow (Nat.lt_of_lt_of_le hi (Nat.pow_le_pow_right (n := 2) (i := 8) (by omega) hj))

theorem eight_back (r : BitVec 32) : eight (backR r) = r := by
  obtain ⟨h1, h2⟩ := top_inv (high r) (high_lt r)
  unfold backR
  generalize inv (high r) = i at *
  have hq : ∀ j, 24 ≤ j → (r ^^^ T i).getLsbD j = false := by
    intro j hj
    have h3 : (r ^^^ T i) >>> 24 = 0#32 := by
      rw [BitVec.ushiftRight_xor_distrib]
      have h4 : r >>> 24 = T i >>> 24 := BitVec.eq_of_toNat_eq (by rw [← high_eq, ← high_eq, high_T, h1])
      rw [h4, BitVec.xor_self]
    have h5 : ((r ^^^ T i) >>> 24).getLsbD (j - 24) = false := by rw [h3]; simp
    rw [BitVec.getLsbD_ushiftRight, show 24 + (j - 24) = j by omega] at h5
    exact h5
  have e1 : ((r ^^^ T i) <<< 8 ||| BitVec.ofNat 32 i) >>> 8 = r ^^^ T i := by
    apply BitVec.eq_of_getLsbD_eq
    intro j hj
    rw [BitVec.getLsbD_ushiftRight, BitVec.getLsbD_or, BitVec.getLsbD_shiftLeft, low_high i h2 (8 + j) (by omega)]
    by_cases hj2 : 8 + j < 32
    · simp [hj2]
    · rw [hq j (by omega)]; simp; omega
  have e2 : ((r ^^^ T i) <<< 8 ||| BitVec.ofNat 32 i) &&& 255#32 = BitVec.ofNat 32 i := by
    apply BitVec.eq_of_getLsbD_eq
    intro j hj
    rw [BitVec.getLsbD_and, BitVec.getLsbD_or, BitVec.getLsbD_shiftLeft, low_bit]
    by_cases hj2 : j < 8
    · simp [hj2]
    · rw [low_high i h2 j (by omega)]; simp [hj2]
  rw [eight_split, e1, e2]
  show (r ^^^ T i) ^^^ T i = r
  rw [BitVec.xor_assoc, BitVec.xor_self, BitVec.xor_zero]

theorem back_eight (r : BitVec 32) : backR (eight r) = r := by
  have hj : r &&& 255#32 = BitVec.ofNat 32 (r.toNat % 256) := by
    apply BitVec.eq_of_toNat_eq
    rw [BitVec.toNat_and]
    show r.toNat &&& 255 = _
    rw [show (255 : Nat) = 2 ^ 8 - 1 from rfl, Nat.and_two_pow_sub_one_eq_mod, BitVec.toNat_ofNat]
    omega
  have hlt : r.toNat % 256 < 256 := Nat.mod_lt _ (by decide)
  have he : eight r = (r >>> 8) ^^^ T (r.toNat % 256) := by rw [eight_split, hj]; rfl
  have hh : high (eight r) = top (r.toNat % 256) := by
    rw [high_eq, he, BitVec.ushiftRight_xor_distrib, ← BitVec.shiftRight_add]
    have h0 : r >>> (8 + 24) = 0#32 := by
      apply BitVec.eq_of_getLsbD_eq
      intro i _
      rw [BitVec.getLsbD_ushiftRight, BitVec.getLsbD_of_ge _ _ (by omega)]
      simp
    rw [h0, BitVec.zero_xor, ← high_eq, high_T]
  unfold backR
  rw [hh, (inv_top _ hlt).1, he, BitVec.xor_assoc, BitVec.xor_self, BitVec.xor_zero, ← hj]
  apply BitVec.eq_of_getLsbD_eq
  intro i hi
  simp only [BitVec.getLsbD_or, BitVec.getLsbD_shiftLeft, BitVec.getLsbD_ushiftRight, BitVec.getLsbD_and, low_bit]
  by_cases h : i < 8
  · simp [h]
  · simp [h, hi, show 8 + (i - 8) = i by omega]

theorem eight_inj {a b : BitVec 32} (h : eight a = eight b) : a = b := by rw [← back_eight a, h, back_eight]
theorem upd_inj {a b : BitVec 32} {x : UInt8} (h : upd a x = upd b x) : a = b := by
  have := eight_inj h
  rw [← BitVec.xor_zero (x := a), ← BitVec.xor_self (x := zx x), ← BitVec.xor_assoc, this, BitVec.xor_assoc, BitVec.xor_self, BitVec.xor_zero]
theorem run_inj (l : List UInt8) {a b : BitVec 32} (h : run a l = run b l) : a = b := by
  induction l generalizing a b with
  | nil => exact h
  | cons x l ih => exact upd_inj (ih h)

/-- Four bytes as a register. -/
def word (x0 x1 x2 x3 : UInt8) : BitVec 32 := zx x0 ^^^ ((zx x1 <<< 8) ^^^ ((zx x2 <<< 16) ^^^ (zx x3 <<< 24)))
theorem eight_up (y : BitVec 32) (h : ∀ i, 24 ≤ i → y.getLsbD i = false) : eight (y <<< 8) = y := by
  rw [eight_shl]
  apply BitVec.eq_of_getLsbD_eq
  intro i hi
  rw [BitVec.getLsbD_ushiftRight, BitVec.getLsbD_shiftLeft]
  by_cases h2 : 8 + i < 32
  · simp [h2]
  · rw [h i (by omega)]; simp; omega
theorem zx_up (x : UInt8) (n : Nat) (hn : n ≤ 16) (i : Nat) (hi : 24 ≤ i) : (zx x <<< n).getLsbD i = false := by
  rw [BitVec.getLsbD_shiftLeft, zx_high x (i - n) (by omega)]
  simp
theorem eight8 (x : UInt8) : eight (zx x <<< 8) = zx x := eight_up _ (fun i hi => zx_high x i (by omega))
theorem eight16 (x : UInt8) : eight (zx x <<< 16) = zx x <<< 8 := by
  have h := eight_up (zx x <<< 8) (zx_up x 8 (by omega))
  rwa [← BitVec.shiftLeft_add] at h
theorem eight24 (x : UInt8) : eight (zx x <<< 24) = zx x <<< 16 := by
  have h := eight_up (zx x <<< 16) (zx_up x 16 (by omega))
  rwa [← BitVec.shiftLeft_add] at h
theorem run_four (r : BitVec 32) (x0 x1 x2 x3 : UInt8) : run r [x0, x1, x2, x3] = eight (eight (eight (eight (r ^^^ word x0 x1 x2 x3)))) := by
  simp only [run, List.foldl, upd, word, ← BitVec.xor_assoc, eight_xor, eight8, eight16, eight24]

/-- The byte of a register at place i. -/
def byteAt (d : BitVec 32) (i : Nat) : UInt8 := UInt8.ofNat (d.toNat / 256 ^ i % 256)
theorem zx_byteAt (d : BitVec 32) (i j : Nat) : (zx (byteAt d i)).getLsbD j = (decide (j < 8) && d.getLsbD (8 * i + j)) := by
  unfold BitVec.getLsbD
  rw [zx_toNat, byteAt, UInt8.toNat_ofNat', Nat.mod_mod, show (256 : Nat) = 2 ^ 8 from rfl, ← Nat.pow_mul, Nat.testBit_mod_two_pow, Nat.testBit_div_two_pow, Nat.add_comm j]
theorem word_bytes (d : BitVec 32) : word (byteAt d 0) (byteAt d 1) (byteAt d 2) (byteAt d 3) = d := by
  apply BitVec.eq_of_getLsbD_eq
  intro i hi
  simp only [word, BitVec.getLsbD_xor, BitVec.getLsbD_shiftLeft, zx_byteAt]
  rcases (show i < 8 ∨ (8 ≤ i ∧ i < 16) ∨ (16 ≤ i ∧ i < 24) ∨ (24 ≤ i) by omega) with h | h | h | h
  · simp [show i < 16 by omega, show i < 24 by omega, h]
  · simp [show ¬ i < 8 by omega, show i < 16 by omega, show i < 24 by omega, hi, show i - 8 < 8 by omega, show 8 + (i - 8) = i by omega]
  · simp [show ¬ i < 8 by omega, show ¬ i < 16 by omega, show i < 24 by omega, hi, show ¬ i - 8 < 8 by omega, show i - 16 < 8 by omega, show 16 + (i - 16) = i by omega]
  · simp [show ¬ i < 8 by omega, show ¬ i < 16 by omega, show ¬ i < 24 by omega, hi, show ¬ i - 8 < 8 by omega, show ¬ i - 16 < 8 by omega, show i - 24 < 8 by omega, show 24 + (i - 24) = i by omega]

theorem zx_inj {x y : UInt8} (h : ∀ j, j < 8 → (zx x).getLsbD j = (zx y).getLsbD j) : x = y := by
  have e : zx x = zx y := by
    apply BitVec.eq_of_getLsbD_eq
    intro j _
    by_cases hj : j < 8
    · exact h j hj
    · rw [zx_high x j (by omega), zx_high y j (by omega)]
  have := congrArg BitVec.toNat e
  rw [zx_toNat, zx_toNat] at this
  exact UInt8.toNat_inj.1 this
theorem word_bit (x0 x1 x2 x3 : UInt8) (j : Nat) (hj : j < 8) : (word x0 x1 x2 x3).getLsbD j = (zx x0).getLsbD j ∧ (word x0 x1 x2 x3).getLsbD (8 + j) = (zx x1).getLsbD j ∧
    (word x0 x1 x2 x3).getLsbD (16 + j) = (zx x2).getLsbD j ∧ (word x0 x1 x2 x3).getLsbD (24 + j) = (zx x3).getLsbD j := by
  simp only [word, BitVec.getLsbD_xor, BitVec.getLsbD_shiftLeft]
  refine ⟨?_, ?_, ?_, ?_⟩
  · simp [hj, show j < 16 by omega, show j < 24 by omega]
  · rw [zx_high x0 (8 + j) (by omega)]
    simp [show 8 + j < 32 by omega, show 8 + j < 16 by omega, show 8 + j < 24 by omega]
  · rw [zx_high x0 (16 + j) (by omega), zx_high x1 (16 + j - 8) (by omega)]
    simp [show 16 + j < 32 by omega, show 16 + j < 24 by omega]
  · rw [zx_high x0 (24 + j) (by omega), zx_high x1 (24 + j - 8) (by omega), zx_high x2 (24 + j - 16) (by omega)]
    simp [show 24 + j < 32 by omega]
theorem word_inj {x0 x1 x2 x3 y0 y1 y2 y3 : UInt8} (h : word x0 x1 x2 x3 = word y0 y1 y2 y3) : x0 = y0 ∧ x1 = y1 ∧ x2 = y2 ∧ x3 = y3 := by
  refine ⟨zx_inj fun j hj => ?_, zx_inj fun j hj => ?_, zx_inj fun j hj => ?_, zx_inj fun j hj => ?_⟩
  · rw [← (word_bit x0 x1 x2 x3 j hj).1, h, (word_bit y0 y1 y2 y3 j hj).1]
  · rw [← (word_bit x0 x1 x2 x3 j hj).2.1, h, (word_bit y0 y1 y2 y3 j hj).2.1]
  · rw [← (word_bit x0 x1 x2 x3 j hj).2.2.1, h, (word_bit y0 y1 y2 y3 j hj).2.2.1]
  · rw [← (word_bit x0 x1 x2 x3 j hj).2.2.2, h, (word_bit y0 y1 y2 y3 j hj).2.2.2]

theorem xor_left_inj {a b c : BitVec 32} (h : a ^^^ b = a ^^^ c) : b = c := by
  rw [← BitVec.zero_xor (x := b), ← BitVec.xor_self (x := a), BitVec.xor_assoc, h, ← BitVec.xor_assoc, BitVec.xor_self, BitVec.zero_xor]
theorem not_inj {a b : BitVec 32} (h : ~~~ a = ~~~ b) : a = b := by rw [← BitVec.not_not (b := a), h, BitVec.not_not]
theorem four_inj {r : BitVec 32} {x0 x1 x2 x3 y0 y1 y2 y3 : UInt8} (h : run r [x0, x1, x2, x3] = run r [y0, y1, y2, y3]) : x0 = y0 ∧ x1 = y1 ∧ x2 = y2 ∧ x3 = y3 := by
  rw [run_four, run_four] at h
  exact word_inj (xor_left_inj (eight_inj (eight_inj (eight_inj (eight_inj h)))))

/-- Where two registers differ: the four bytes that lead from the sum s to the sum t, as a register. -/
def differs (s t : BitVec 32) : BitVec 32 := backR (backR (backR (backR (~~~ t)))) ^^^ ~~~ s
def forged (s t : BitVec 32) : List UInt8 := [byteAt (differs s t) 0, byteAt (differs s t) 1, byteAt (differs s t) 2, byteAt (differs s t) 3]
theorem next_forged (s t : BitVec 32) : next s (forged s t) = t := by
  unfold next forged
  rw [run_four, word_bytes, differs, BitVec.xor_comm _ (~~~ s), ← BitVec.xor_assoc, BitVec.xor_self, BitVec.zero_xor]
  simp [eight_back]
theorem next_four_inj {s : BitVec 32} {x0 x1 x2 x3 y0 y1 y2 y3 : UInt8} (h : next s [x0, x1, x2, x3] = next s [y0, y1, y2, y3]) : x0 = y0 ∧ x1 = y1 ∧ x2 = y2 ∧ x3 = y3 := four_inj (not_inj h)

/-- Rows of bytes that differ in four bytes alone. -/
theorem next_one (s : BitVec 32) (pre post : List UInt8) (x0 x1 x2 x3 y0 y1 y2 y3 : UInt8) (h : next s (pre ++ [x0, x1, x2, x3] ++ post) = next s (pre ++ [y0, y1, y2, y3] ++ post)) : x0 = y0 ∧ x1 = y1 ∧ x2 = y2 ∧ x3 = y3 := by
  have h1 := not_inj h
  rw [run_append, run_append, run_append, run_append] at h1
  exact four_inj (run_inj post h1)

/-- The xor of three rows of as many bytes. -/
def xr : List UInt8 → List UInt8 → List UInt8 → List UInt8
  | a :: l, b :: m, c :: n => (a ^^^ b ^^^ c) :: xr l m n
  | _, _, _ => []
theorem zx_xor (a b : UInt8) : zx (a ^^^ b) = zx a ^^^ zx b := by
  apply BitVec.eq_of_toNat_eq
  rw [zx_toNat, BitVec.toNat_xor, zx_toNat, zx_toNat, UInt8.toNat_xor]
theorem upd_xr (p q r : BitVec 32) (a b c : UInt8) : upd (p ^^^ q ^^^ r) (a ^^^ b ^^^ c) = upd p a ^^^ upd q b ^^^ upd r c := by
  unfold upd
  rw [zx_xor, zx_xor, ← eight_xor, ← eight_xor]
  congr 1
  rw [xor4 p, xor4 (p ^^^ q)]
theorem run_xr (p q r : BitVec 32) (l m n : List UInt8) (h1 : m.length = l.length) (h2 : n.length = l.length) : run (p ^^^ q ^^^ r) (xr l m n) = run p l ^^^ run q m ^^^ run r n := by
  induction l generalizing p q r m n with
  | nil =>
    obtain rfl := List.eq_nil_of_length_eq_zero h1
    obtain rfl := List.eq_nil_of_length_eq_zero h2
    rfl
  | cons a l ih =>
    cases m with
    | nil => simp at h1
    | cons b m =>
      cases n with
      | nil => simp at h2
      | cons c n =>
        have := ih (upd p a) (upd q b) (upd r c) m n (by simpa using h1) (by simpa using h2)
        simp only [run, xr, List.foldl] at this ⊢
        rw [upd_xr]
        exact this
theorem not_xor3 (a b c : BitVec 32) : ~~~ (a ^^^ b ^^^ c) = ~~~ a ^^^ ~~~ b ^^^ ~~~ c := by
  apply BitVec.eq_of_getLsbD_eq
  intro i hi
  simp only [BitVec.getLsbD_not, BitVec.getLsbD_xor, hi, decide_true, Bool.true_and]
  cases a.getLsbD i <;> cases b.getLsbD i <;> cases c.getLsbD i <;> rfl
theorem next_xr (l m n : List UInt8) (h1 : m.length = l.length) (h2 : n.length = l.length) : next 0#32 (xr l m n) = next 0#32 l ^^^ next 0#32 m ^^^ next 0#32 n := by
  unfold next
  rw [← not_xor3, ← run_xr _ _ _ l m n h1 h2]
  congr 2

end Go.Proofs.Ytokfcknfkhlmfaa.Crc
