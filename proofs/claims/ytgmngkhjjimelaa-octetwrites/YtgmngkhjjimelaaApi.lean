/-
  The contracts of octet's calls once more, with plain numbers as arguments, and each in one piece: for every n.
-/
import Derived.Test.YtgmngkhjjimelaaWrite3
namespace Go.Proofs.Ytgmngkhjjimelaa
open Go.RowKit

theorem wbyteZ (w : World) (B p : Nat) (v : Value) (l : List UInt8) (z : Int) (x : UInt8) (hz : z = (x.toNat : Int)) (h : Wr w B p v l) (hB : B ≤ w.heap.size) (hl : l.length ≤ 1000000000) :
    Calls Try.prog 23 #[.pointer (some ⟨p, 0, none⟩), .int .u8 z] w (Wrote w B p v (l ++ [x])) := by subst hz; exact wbyte w B p v l x h hB hl
theorem wbigZ (w : World) (B p : Nat) (v : Value) (l : List UInt8) (z : Int) (u : Nat) (n : Int) (hz : z = (u : Int)) (h : Wr w B p v l) (hB : B ≤ w.heap.size) (hl : l.length ≤ 1000000000) :
    Calls Try.prog 20 #[.pointer (some ⟨p, 0, none⟩), .int .u64 z, .int .i64 n] w (Wrote w B p v (l ++ putB u (cnt n))) := by subst hz; exact wbig w B p v l u n h hB hl
theorem wlittleZ (w : World) (B p : Nat) (v : Value) (l : List UInt8) (z : Int) (u : Nat) (n : Int) (hz : z = (u : Int)) (h : Wr w B p v l) (hB : B ≤ w.heap.size) (hl : l.length ≤ 1000000000) :
    Calls Try.prog 22 #[.pointer (some ⟨p, 0, none⟩), .int .u64 z, .int .i64 n] w (Wrote w B p v (l ++ putL u (cnt n))) := by subst hz; exact wlittle w B p v l u n h hB hl

/-- What Bytes answers: the error's number. -/
def eB (l : List UInt8) (k : Nat) (n : Int) : Int := if n < 0 then 1 else if (l.length : Int) - k < n then 2 else 0
/-- What a number's reading answers: the error's number. -/
def eN (l : List UInt8) (k : Nat) (n : Int) : Int := if n < 0 ∨ 8 < n then 1 else if (l.length : Int) - k < n then 2 else 0
/-- The bytes that are read, where there is no error. -/
def oB (e : Int) (l : List UInt8) (k : Nat) (n : Int) : List UInt8 := if e = 0 then (l.drop k).take n.toNat else []
/-- The place behind. -/
def kB (e : Int) (k : Nat) (n : Int) : Nat := if e = 0 then k + n.toNat else k

theorem kB_le (l : List UInt8) (k : Nat) (n : Int) (hk : k ≤ l.length) : kB (eB l k n) k n ≤ l.length := by
  unfold kB eB; split <;> (try split at *) <;> (try split at *) <;> omega
theorem kN_le (l : List UInt8) (k : Nat) (n : Int) (hk : k ≤ l.length) : kB (eN l k n) k n ≤ l.length := by
  unfold kB eN; split <;> (try split at *) <;> (try split at *) <;> omega
theorem oB_length (e : Int) (l : List UInt8) (k : Nat) (n : Int) : (oB e l k n).length ≤ l.length := by
  unfold oB; split <;> simp <;> omega
theorem take_in (l : List UInt8) (k n : Nat) (h : k + n ≤ l.length) : ((l.drop k).take n).length = n := by simp; omega

/-- What Bytes leaves. -/
def RBytes (w : World) (p g : Nat) (l : List UInt8) (k : Nat) (n : Int) (e : Ending) (w' : World) : Prop :=
  ∃ A c, e = .returned (.tuple #[.slice A (oB (eB l k n) l k n).length c, .int .i64 (eB l k n)]) ∧ Rd w' A (oB (eB l k n) l k n) ∧ (∀ ad, A = some ad → w.heap.size ≤ ad.block) ∧ (A = none → c = 0) ∧ Rdr w' p g l (kB (eB l k n) k n) ∧ Fr [p] w w'

theorem rbytesU (w : World) (p g k : Nat) (l : List UInt8) (n : Int) (h : Rdr w p g l k) (hl : l.length ≤ 1000000000) (hk : k ≤ l.length) :
    Calls Try.prog 10 #[.pointer (some ⟨p, 0, none⟩), .int .i64 n] w (RBytes w p g l k n) := by
  by_cases h1 : n < 0
  · have e1 : eB l k n = 1 := by simp [eB, h1]
    refine (rbytes_neg w p n h1).mono ?_
    rintro e w' ⟨rfl, rfl⟩
    exact ⟨none, 0, by simp [e1, oB], fun h0 => by simp [e1, oB] at h0, by simp, fun _ => rfl, by simpa [e1, kB] using h, Fr.refl _ _⟩
  · by_cases h2 : (l.length : Int) - k < n
    · have e1 : eB l k n = 2 := by simp [eB, h1, h2]
      refine (rbytes_short w p g k l n h hk hl h2).mono ?_
      rintro e w' ⟨rfl, m, rfl⟩
      exact ⟨none, 0, by simp [e1, oB], fun h0 => by simp [e1, oB] at h0, by simp, fun _ => rfl, by simpa [e1, kB] using h.fr ((Fr.refl [] w).drewN m) (by simp) (by simp), (Fr.refl _ _).drewN _⟩
    · have e1 : eB l k n = 0 := by simp [eB, h1, h2]
      obtain ⟨n, rfl⟩ := Int.eq_ofNat_of_zero_le (show 0 ≤ n by omega)
      refine (rbytes_ok w p g k n l h hl (by omega)).mono ?_
      rintro e w' ⟨g', rfl, h3, h4, h5, h6⟩
      refine ⟨some ⟨g', 0, none⟩, n, ?_, ?_, by simpa using h3, by simp, by simpa [e1, kB] using h5, h6⟩
      · rw [e1]; simp only [oB, if_true, Int.toNat_natCast, take_in l k n (by omega)]
      · rw [e1]
        simp only [oB, if_true, Int.toNat_natCast]
        exact fun _ => ⟨g', 0, rfl, h4.rd (by rw [List.take_of_length_le (by simp [bv_length])])⟩

/-- What Big and Little leave: 'num' is the number of the bytes. -/
def RNum (num : List UInt8 → Nat) (w : World) (p g : Nat) (l : List UInt8) (k : Nat) (n : Int) (e : Ending) (w' : World) : Prop :=
  e = .returned (.tuple #[.int .u64 (num (oB (eN l k n) l k n) : Nat), .int .i64 (eN l k n)]) ∧ Rdr w' p g l (kB (eN l k n) k n) ∧ Fr [p] w w'

theorem rhighU (w : World) (p g k : Nat) (l : List UInt8) (n : Int) (h : Rdr w p g l k) (hl : l.length ≤ 1000000000) (hk : k ≤ l.length) :
    Calls Try.prog 13 #[.pointer (some ⟨p, 0, none⟩), .int .i64 n] w (RNum be w p g l k n) := by
  by_cases h1 : n < 0 ∨ 8 < n
  · have e1 : eN l k n = 1 := by simp [eN, h1]
    refine (rhigh_arg w p n h1).mono ?_
    rintro e w' ⟨rfl, hf⟩
    exact ⟨by simp [e1, oB, be], by simpa [e1, kB] using h.fr hf (by simp) (by simp), hf.nil⟩
  · by_cases h2 : (l.length : Int) - k < n
    · have e1 : eN l k n = 2 := by simp [eN, h1, h2]
      refine (rhigh_short w p g k l n h hk hl h2 (by omega)).mono ?_
      rintro e w' ⟨rfl, hf⟩
      exact ⟨by simp [e1, oB, be], by simpa [e1, kB] using h.fr hf (by simp) (by simp), hf.nil⟩
    · have e1 : eN l k n = 0 := by simp [eN, h1, h2]
      obtain ⟨n, rfl⟩ := Int.eq_ofNat_of_zero_le (show 0 ≤ n by omega)
      refine (rhigh_ok w p g k n l h hl (by omega) (by omega)).mono ?_
      rintro e w' ⟨rfl, h5, h6⟩
      exact ⟨by simp [e1, oB], by simpa [e1, kB] using h5, h6⟩

theorem rlowU (w : World) (p g k : Nat) (l : List UInt8) (n : Int) (h : Rdr w p g l k) (hl : l.length ≤ 1000000000) (hk : k ≤ l.length) :
    Calls Try.prog 15 #[.pointer (some ⟨p, 0, none⟩), .int .i64 n] w (RNum le w p g l k n) := by
  by_cases h1 : n < 0 ∨ 8 < n
  · have e1 : eN l k n = 1 := by simp [eN, h1]
    refine (rlow_arg w p n h1).mono ?_
    rintro e w' ⟨rfl, hf⟩
    exact ⟨by simp [e1, oB, le], by simpa [e1, kB] using h.fr hf (by simp) (by simp), hf.nil⟩
  · by_cases h2 : (l.length : Int) - k < n
    · have e1 : eN l k n = 2 := by simp [eN, h1, h2]
      refine (rlow_short w p g k l n h hk hl h2 (by omega)).mono ?_
      rintro e w' ⟨rfl, hf⟩
      exact ⟨by simp [e1, oB, le], by simpa [e1, kB] using h.fr hf (by simp) (by simp), hf.nil⟩
    · have e1 : eN l k n = 0 := by simp [eN, h1, h2]
      obtain ⟨n, rfl⟩ := Int.eq_ofNat_of_zero_le (show 0 ≤ n by omega)
      refine (rlow_ok w p g k n l h hl (by omega) (by omega)).mono ?_
      rintro e w' ⟨rfl, h5, h6⟩
      exact ⟨by simp [e1, oB], by simpa [e1, kB] using h5, h6⟩

/-- What Byte leaves. -/
def RByte (w : World) (p g : Nat) (l : List UInt8) (k : Nat) (e : Ending) (w' : World) : Prop :=
  e = .returned (.tuple #[.int .u8 (((oB (eB l k 1) l k 1).headD 0).toNat : Nat), .int .i64 (eB l k 1)]) ∧ Rdr w' p g l (kB (eB l k 1) k 1) ∧ Fr [p] w w'

theorem rbyteU (w : World) (p g k : Nat) (l : List UInt8) (h : Rdr w p g l k) (hl : l.length ≤ 1000000000) (hk : k ≤ l.length) :
    Calls Try.prog 16 #[.pointer (some ⟨p, 0, none⟩)] w (RByte w p g l k) := by
  by_cases h2 : (l.length : Int) - k < 1
  · have e1 : eB l k 1 = 2 := by simp [eB, h2]
    refine (rbyte_short w p g k l h (by omega) hk hl).mono ?_
    rintro e w' ⟨rfl, m, rfl⟩
    exact ⟨by simp [e1, oB], by simpa [e1, kB] using h.fr ((Fr.refl [] w).drewN m) (by simp) (by simp), (Fr.refl _ _).drewN _⟩
  · have e1 : eB l k 1 = 0 := by simp [eB, h2]
    have hk' : k < l.length := by omega
    refine (rbyte_ok w p g k l h hl hk').mono ?_
    rintro e w' ⟨rfl, h5, h6⟩
    refine ⟨?_, by simpa [e1, kB] using h5, h6⟩
    have e2 : ((l.drop k).take 1).headD 0 = l[k] := by rw [List.drop_eq_getElem_cons hk']; rfl
    simp only [e1, oB, if_true, Int.toNat_one, e2]

end Go.Proofs.Ytgmngkhjjimelaa
