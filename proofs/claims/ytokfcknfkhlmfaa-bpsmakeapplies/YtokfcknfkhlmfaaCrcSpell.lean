/-
  How the walks spell the steps of a register: plain lemmas on integers.
-/
import Derived.Test.YtokfcknfkhlmfaaBase
import Derived.Test.YtokfcknfkhlmfaaCrcMath
import Derived.Laws.BitsAllLaws
namespace Go.Proofs.Ytokfcknfkhlmfaa.Crc

/-- A register as an integer. -/
def u (r : BitVec 32) : Int := (r.toNat : Int)
theorem u_bounds (r : BitVec 32) : 0 ≤ u r ∧ u r < 4294967296 := by
  have := r.isLt
  unfold u
  omega
theorem u_inj {a b : BitVec 32} (h : u a = u b) : a = b := by
  unfold u at h
  exact BitVec.eq_of_toNat_eq (by omega)
theorem u_of {n : Int} (h0 : 0 ≤ n) (h1 : n < 4294967296) : ∃ r : BitVec 32, n = u r := by
  refine ⟨BitVec.ofNat 32 n.toNat, ?_⟩
  unfold u
  rw [BitVec.toNat_ofNat, Nat.mod_eq_of_lt (by omega)]
  omega

theorem xor_u (a b : BitVec 32) : bits .xor .u32 (u a) (u b) = u (a ^^^ b) := by
  unfold u
  rw [u32_xor_nat _ _ a.isLt b.isLt, BitVec.toNat_xor]
theorem or_u (a b : BitVec 32) : bits .or .u32 (u a) (u b) = u (a ||| b) := by
  unfold u
  rw [u32_or_nat _ _ a.isLt b.isLt, BitVec.toNat_or]
theorem shr_u (a : BitVec 32) (n : Nat) : u a / 2 ^ n = u (a >>> n) := by
  unfold u
  rw [BitVec.toNat_ushiftRight, Nat.shiftRight_eq_div_pow]
  simp
theorem half_u (a : BitVec 32) : u a / (2 : Int) = u (a >>> 1) := by have h := shr_u a 1; simpa using h
theorem shr8_u (a : BitVec 32) : u a / (256 : Int) = u (a >>> 8) := by have h := shr_u a 8; simpa using h
theorem and1_u (a : BitVec 32) : bits .and .u32 (u a) 1 = if a.getLsbD 0 then 1 else 0 := by
  unfold u BitVec.getLsbD
  have h := u32_and_nat a.toNat 1 a.isLt (by decide)
  rw [Int.natCast_one] at h
  rw [h, Nat.testBit_zero, Nat.and_one_is_mod]
  by_cases e : a.toNat % 2 = 1
  · simp [e]
  · simp [e]; omega
theorem Dv_u : (3988292384 : Int) = u Dv := by decide

theorem out1 (s : BitVec 32) (h : s.getLsbD 0 = true) : (bits .and .u32 (u s) 1 == 1) = true := by rw [and1_u, h]; rfl
theorem out0 (s : BitVec 32) (h : s.getLsbD 0 = false) : (bits .and .u32 (u s) 1 == 1) = false := by rw [and1_u, h]; rfl
theorem step1 (s : BitVec 32) (h : s.getLsbD 0 = true) : bits .xor .u32 (u s / 2) 3988292384 = u (step s) := by
  rw [half_u, Dv_u, xor_u, step, h]; rfl
theorem step0 (s : BitVec 32) (h : s.getLsbD 0 = false) : u s / 2 = u (step s) := by
  rw [half_u, step, h]; simp

theorem not_u (a : BitVec 32) : bits .xor .u32 (u a) 4294967295 = u (~~~ a) := by
  have h : (4294967295 : Int) = u (BitVec.allOnes 32) := by decide
  rw [h, xor_u, BitVec.xor_allOnes]

/-- A byte of the reference's eight, bit by bit. -/
theorem bit_u (r : BitVec 32) (x : UInt8) (k : Nat) : bits .xor .u32 (u (bitwise r x k)) ((x.toNat : Int) / 2 ^ k) % 2 = if outBit r x k then 1 else 0 := by
  have h : (x.toNat : Int) / 2 ^ k = u (zx x >>> k) := by rw [← shr_u]; unfold u; rw [zx_toNat]
  rw [h, xor_u]
  unfold outBit u BitVec.getLsbD
  generalize (bitwise r x k ^^^ zx x >>> k).toNat = n
  rw [Nat.testBit_zero]
  by_cases e : n % 2 = 1
  · simp [e]; omega
  · simp [e]; omega
theorem bitOut1 (r : BitVec 32) (x : UInt8) (k : Nat) (h : outBit r x k = true) : bits .xor .u32 (u (bitwise r x k) / 2) 3988292384 = u (bitwise r x (k + 1)) := by
  rw [half_u, Dv_u, xor_u, bitwise_succ, h]; rfl
theorem bitOut0 (r : BitVec 32) (x : UInt8) (k : Nat) (h : outBit r x k = false) : u (bitwise r x k) / 2 = u (bitwise r x (k + 1)) := by
  rw [half_u, bitwise_succ, h]; simp

/-- A byte by the table. -/
theorem index_u (r : BitVec 32) (x : UInt8) : bits .xor .u8 (u r % 256) (x.toNat : Int) = (((r.toNat % 256) ^^^ x.toNat : Nat) : Int) := by
  unfold u
  have h := u8_xor_nat (r.toNat % 256) x.toNat (Nat.mod_lt _ (by decide)) x.toNat_lt
  rw [← h]
  simp
theorem table_u (r : BitVec 32) (x : UInt8) : bits .xor .u32 (u r / 256) (u (T ((r.toNat % 256) ^^^ x.toNat))) = u (upd r x) := by
  rw [shr8_u, xor_u, upd_table]

end Go.Proofs.Ytokfcknfkhlmfaa.Crc
