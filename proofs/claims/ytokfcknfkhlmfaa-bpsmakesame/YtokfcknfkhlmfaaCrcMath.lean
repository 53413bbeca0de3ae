/-
  The remainder, as plain mathematics, without the program: one step, eight steps, a byte, a row of bytes, the way back.
-/
namespace Go.Proofs.Ytokfcknfkhlmfaa.Crc

def Dv : BitVec 32 := 0xEDB88320#32
/-- One step of the register. -/
def step (r : BitVec 32) : BitVec 32 := (r >>> 1) ^^^ (if r.getLsbD 0 then Dv else 0#32)
def steps : Nat → BitVec 32 → BitVec 32
  | 0, r => r
  | n + 1, r => step (steps n r)
def eight (r : BitVec 32) : BitVec 32 := steps 8 r

theorem xor4 (a b c d : BitVec 32) : (a ^^^ b) ^^^ (c ^^^ d) = (a ^^^ c) ^^^ (b ^^^ d) := by
  apply BitVec.eq_of_getLsbD_eq
  intro i _
  simp only [BitVec.getLsbD_xor]
  cases a.getLsbD i <;> cases b.getLsbD i <;> cases c.getLsbD i <;> cases d.getLsbD i <;> rfl

theorem step_xor (a b : BitVec 32) : step (a ^^^ b) = step a ^^^ step b := by
  unfold step
  rw [xor4, BitVec.ushiftRight_xor_distrib, BitVec.getLsbD_xor]
  congr 1
  cases a.getLsbD 0 <;> cases b.getLsbD 0 <;> simp

theorem steps_xor (n : Nat) (a b : BitVec 32) : steps n (a ^^^ b) = steps n a ^^^ steps n b := by
  induction n with
  | zero => rfl
  | succ n ih => simp only [steps, ih, step_xor]

theorem eight_xor (a b : BitVec 32) : eight (a ^^^ b) = eight a ^^^ eight b := steps_xor 8 a b

theorem steps_shift (n : Nat) (r : BitVec 32) (h : ∀ i, i < n → r.getLsbD i = false) : steps n r = r >>> n := by
  induction n with
  | zero => simp [steps]
  | succ n ih =>
    rw [steps, ih (fun i hi => h i (by omega)), step]
    have h1 : (r >>> n).getLsbD 0 = false := by rw [BitVec.getLsbD_ushiftRight]; simpa using h n (by omega)
    rw [h1]
    simp [BitVec.shiftRight_add]

theorem eight_shl (r : BitVec 32) : eight (r <<< 8) = (r <<< 8) >>> 8 :=
  steps_shift 8 _ (fun i hi => by rw [BitVec.getLsbD_shiftLeft]; simp [hi])

theorem low_bit (i : Nat) : (255#32).getLsbD i = decide (i < 8) := by
  by_cases h : i < 32
  · revert i; decide
  · rw [BitVec.getLsbD_of_ge _ _ (by omega)]; simp; omega

theorem split_low (r : BitVec 32) : r = ((r >>> 8) <<< 8) ^^^ (r &&& 255#32) := by
  apply BitVec.eq_of_getLsbD_eq
  intro i hi
  simp only [BitVec.getLsbD_xor, BitVec.getLsbD_shiftLeft, BitVec.getLsbD_ushiftRight, BitVec.getLsbD_and, low_bit]
  by_cases h : i < 8
  · simp [h]
  · simp [h, hi, show 8 + (i - 8) = i by omega]

theorem shr_shl_shr (r : BitVec 32) : ((r >>> 8) <<< 8) >>> 8 = r >>> 8 := by
  apply BitVec.eq_of_getLsbD_eq
  intro i hi
  simp only [BitVec.getLsbD_shiftLeft, BitVec.getLsbD_ushiftRight]
  by_cases h : 8 + i < 32
  · simp [h]
  · rw [BitVec.getLsbD_of_ge r (8 + i) (by omega)]; simp; omega

theorem eight_split (r : BitVec 32) : eight r = (r >>> 8) ^^^ eight (r &&& 255#32) := by
  have h := eight_xor ((r >>> 8) <<< 8) (r &&& 255#32)
  rw [← split_low, eight_shl, shr_shl_shr] at h
  exact h

/-- A byte as a register. -/
def zx (x : UInt8) : BitVec 32 := BitVec.ofNat 32 x.toNat
theorem zx_toNat (x : UInt8) : (zx x).toNat = x.toNat := by
  have := x.toNat_lt
  simp [zx]
theorem zx_high (x : UInt8) (i : Nat) (h : 8 ≤ i) : (zx x).getLsbD i = false := by
  have h1 := x.toNat_lt
  unfold BitVec.getLsbD
  rw [zx_toNat]
  exact Nat.testBit_lt_two_pow (Nat.lt_of_lt_of_le h1 (Nat.pow_le_pow_right (by omega) h))
theorem zx_shr (x : UInt8) : zx x >>> 8 = 0#32 := by
  apply BitVec.eq_of_getLsbD_eq
  intro i _
  rw [BitVec.getLsbD_ushiftRight, zx_high x _ (by omega)]
  simp

/-- The register behind a byte. -/
def upd (r : BitVec 32) (x : UInt8) : BitVec 32 := eight (r ^^^ zx x)
/-- What stands in the table at place i. -/
def T (i : Nat) : BitVec 32 := eight (BitVec.ofNat 32 i)

theorem index_lt (r : BitVec 32) (x : UInt8) : (r.toNat % 256) ^^^ x.toNat < 256 := by
  have h1 := x.toNat_lt
  exact Nat.xor_lt_two_pow (n := 8) (Nat.mod_lt _ (by decide)) h1

theorem upd_table (r : BitVec 32) (x : UInt8) : (r >>> 8) ^^^ T ((r.toNat % 256) ^^^ x.toNat) = upd r x := by
  unfold upd T
  rw [eight_split (r ^^^ zx x), BitVec.ushiftRight_xor_distrib, zx_shr, BitVec.xor_zero]
  congr 2
  apply BitVec.eq_of_toNat_eq
  have h1 := index_lt r x
  have h2 := x.toNat_lt
  rw [BitVec.toNat_and, BitVec.toNat_xor, zx_toNat, BitVec.toNat_ofNat, Nat.mod_eq_of_lt (by omega)]
  show _ = (r.toNat ^^^ x.toNat) &&& 255
  rw [show (255 : Nat) = 2 ^ 8 - 1 from rfl, Nat.and_two_pow_sub_one_eq_mod, Nat.xor_mod_two_pow, Nat.mod_eq_of_lt (a := x.toNat) (by omega)]

/-- The register behind k of the eight steps that take a byte bit by bit. -/
def bitwise (r : BitVec 32) (x : UInt8) (k : Nat) : BitVec 32 := steps k (r ^^^ zx x) ^^^ (zx x >>> k)
theorem bitwise_zero (r : BitVec 32) (x : UInt8) : bitwise r x 0 = r := by
  simp [bitwise, steps, BitVec.xor_assoc]
theorem bitwise_eight (r : BitVec 32) (x : UInt8) : bitwise r x 8 = upd r x := by
  simp [bitwise, zx_shr, upd, eight]
/-- The bit that goes out. -/
def outBit (r : BitVec 32) (x : UInt8) (k : Nat) : Bool := (bitwise r x k ^^^ (zx x >>> k)).getLsbD 0
theorem bitwise_succ (r : BitVec 32) (x : UInt8) (k : Nat) : bitwise r x (k + 1) = (bitwise r x k >>> 1) ^^^ (if outBit r x k then Dv else 0#32) := by
  have h : outBit r x k = (steps k (r ^^^ zx x)).getLsbD 0 := by
    unfold outBit bitwise
    rw [BitVec.xor_assoc, BitVec.xor_self, BitVec.xor_zero]
  rw [h]
  unfold bitwise
  rw [steps, step, BitVec.ushiftRight_xor_distrib, ← BitVec.shiftRight_add]
  simp only [BitVec.xor_assoc]
  rw [BitVec.xor_comm (zx x >>> (k + 1))]

/-- The register behind a row of bytes. -/
def run (r : BitVec 32) (l : List UInt8) : BitVec 32 := l.foldl upd r
/-- Next. -/
def next (s : BitVec 32) (l : List UInt8) : BitVec 32 := ~~~ run (~~~ s) l
theorem run_append (r : BitVec 32) (l m : List UInt8) : run r (l ++ m) = run (run r l) m := by simp [run]
theorem run_snoc (r : BitVec 32) (l : List UInt8) (x : UInt8) : run r (l ++ [x]) = upd (run r l) x := by simp [run]
theorem next_append (s : BitVec 32) (l m : List UInt8) : next s (l ++ m) = next (next s l) m := by simp [next, run_append]

end Go.Proofs.Ytokfcknfkhlmfaa.Crc
