/-
  The document's own reader once more, each call in one piece: for every n.
-/
import Derived.Test.YtgmngkhjjimelaaRef2
namespace Go.Proofs.Ytgmngkhjjimelaa
open Go.RowKit

/-- What the document's Bytes leaves. -/
def XBytes (w : World) (B s g N c : Nat) (l : List UInt8) (k : Nat) (n : Int) (e : Ending) (w' : World) : Prop :=
  ∃ A c', e = .returned (.tuple #[.slice A (oB (eB l k n) l k n).length c', .int .i64 (eB l k n)]) ∧ Rd w' A (oB (eB l k n) l k n) ∧ RefR w' B s g N c l (kB (eB l k n) k n) ∧ Fr [s] w w'

theorem xbytesU (w : World) (B s g N c k : Nat) (l : List UInt8) (n : Int) (h : RefR w B s g N c l k) (hl : N ≤ 1000000000) (hk : k ≤ N) :
    Calls Try.prog 11 #[.pointer (some ⟨s, 0, none⟩), .int .i64 n] w (XBytes w B s g N c l k n) := by
  have hN := h.2.2
  by_cases h1 : n < 0
  · have e1 : eB l k n = 1 := by simp [eB, h1]
    refine (ref_neg w s n h1).mono ?_
    rintro e w' ⟨rfl, rfl⟩
    exact ⟨none, 0, by simp [e1, oB], fun h0 => by simp [e1, oB] at h0, by simpa [e1, kB] using h, Fr.refl _ _⟩
  · by_cases h2 : (l.length : Int) - k < n
    · have e1 : eB l k n = 2 := by simp [eB, h1, h2]
      refine (ref_short w B s g N c k l n h hk hl (by rw [← hN]; exact h2)).mono ?_
      rintro e w' ⟨rfl, m, rfl⟩
      exact ⟨none, 0, by simp [e1, oB], fun h0 => by simp [e1, oB] at h0, by simpa [e1, kB] using h.fr ((Fr.refl [] w).drewN m) (by simp) (by simp), (Fr.refl _ _).drewN _⟩
    · have e1 : eB l k n = 0 := by simp [eB, h1, h2]
      obtain ⟨n, rfl⟩ := Int.eq_ofNat_of_zero_le (show 0 ≤ n by omega)
      refine (ref_ok w B s g N c k n l h hl (by omega)).mono ?_
      rintro e w' ⟨A, c', rfl, h3, h4, h5⟩
      refine ⟨A, c', ?_, ?_, by simpa [e1, kB] using h4, h5⟩
      · rw [e1]; simp only [oB, if_true, Int.toNat_natCast, take_in l k n (by omega)]
      · rw [e1]
        simp only [oB, if_true, Int.toNat_natCast]
        exact h3.rd

/-- What the document's Number leaves. -/
def XNum (num : List UInt8 → Nat) (w : World) (B s g N c : Nat) (l : List UInt8) (k : Nat) (n : Int) (e : Ending) (w' : World) : Prop :=
  e = .returned (.tuple #[.int .u64 (num (oB (eN l k n) l k n) : Nat), .int .i64 (eN l k n)]) ∧ RefR w' B s g N c l (kB (eN l k n) k n) ∧ Fr [s] w w'

theorem xnumU (num : List UInt8 → Nat) (b : Bool) (h0 : num [] = 0) (w : World) (B s g N c k : Nat) (l : List UInt8) (n : Int) (h : RefR w B s g N c l k) (hl : N ≤ 1000000000) (hk : k ≤ N)
    (hok : ∀ n : Nat, k + n ≤ N → n ≤ 8 → Calls Try.prog 14 #[.pointer (some ⟨s, 0, none⟩), .int .i64 (n : Int), .bool b] w fun e w' => e = .returned (.tuple #[.int .u64 (num ((l.drop k).take n) : Nat), .int .i64 0]) ∧ RefR w' B s g N c l (k + n) ∧ Fr [s] w w') :
    Calls Try.prog 14 #[.pointer (some ⟨s, 0, none⟩), .int .i64 n, .bool b] w (XNum num w B s g N c l k n) := by
  have hN := h.2.2
  by_cases h1 : n < 0
  · have e1 : eN l k n = 1 := by simp [eN, h1]
    refine (refnum_neg w s n b h1).mono ?_
    rintro e w' ⟨rfl, rfl⟩
    exact ⟨by simp [e1, oB, h0], by simpa [e1, kB] using h, Fr.refl _ _⟩
  · by_cases h8 : 8 < n
    · have e1 : eN l k n = 1 := by simp [eN, h8]
      refine (refnum_wide w s n b h8).mono ?_
      rintro e w' ⟨rfl, rfl⟩
      exact ⟨by simp [e1, oB, h0], by simpa [e1, kB] using h, Fr.refl _ _⟩
    · by_cases h2 : (l.length : Int) - k < n
      · have e1 : eN l k n = 2 := by simp [eN, h1, h2, h8]
        refine (refnum_short w B s g N c k l n b h hk hl (by rw [← hN]; exact h2) (by omega)).mono ?_
        rintro e w' ⟨rfl, m, rfl⟩
        exact ⟨by simp [e1, oB, h0], by simpa [e1, kB] using h.fr ((Fr.refl [] w).drewN m) (by simp) (by simp), (Fr.refl _ _).drewN _⟩
      · have e1 : eN l k n = 0 := by simp [eN, h1, h2, h8]
        obtain ⟨n, rfl⟩ := Int.eq_ofNat_of_zero_le (show 0 ≤ n by omega)
        refine (hok n (by omega) (by omega)).mono ?_
        rintro e w' ⟨rfl, h4, h5⟩
        exact ⟨by simp [e1, oB], by simpa [e1, kB] using h4, h5⟩

theorem xhighU (w : World) (B s g N c k : Nat) (l : List UInt8) (n : Int) (h : RefR w B s g N c l k) (hl : N ≤ 1000000000) (hk : k ≤ N) :
    Calls Try.prog 14 #[.pointer (some ⟨s, 0, none⟩), .int .i64 n, .bool true] w (XNum be w B s g N c l k n) :=
  xnumU be true rfl w B s g N c k l n h hl hk fun n hn h8 => refnum_big w B s g N c k n l h hl hn h8
theorem xlowU (w : World) (B s g N c k : Nat) (l : List UInt8) (n : Int) (h : RefR w B s g N c l k) (hl : N ≤ 1000000000) (hk : k ≤ N) :
    Calls Try.prog 14 #[.pointer (some ⟨s, 0, none⟩), .int .i64 n, .bool false] w (XNum le w B s g N c l k n) :=
  xnumU le false rfl w B s g N c k l n h hl hk fun n hn h8 => refnum_little w B s g N c k n l h hl hn h8

/-- A slice of structs of two integers that is read. -/
def RdS (w : World) (A : Option Addr) (l : List (Int × Int)) : Prop :=
  0 < l.length → ∃ b o, A = some ⟨b, o, none⟩ ∧ ∀ j (hj : j < l.length), w.cell? ⟨b, o + j * 2, none⟩ = some (.int .i64 l[j].1) ∧ w.cell? ⟨b, o + j * 2 + 1, none⟩ = some (.int .i64 l[j].2)


/-- Both readers' Bytes: one error E, one row of bytes X, one new place p'. -/
theorem both_bytes (m : List UInt8) (n p : Nat) (z : Int) (hm : m.length = n) (hn : n ≤ 1000000000) (hp : p ≤ n) : ∃ (E : Int) (X : List UInt8) (p' : Nat), p' ≤ n ∧
    (∀ w q g, Rdr w q g m p → Calls Try.prog 10 #[.pointer (some ⟨q, 0, none⟩), .int .i64 z] w fun e w' => ∃ A c, e = .returned (.tuple #[.slice A X.length c, .int .i64 E]) ∧ Rd w' A X ∧ (∀ ad, A = some ad → w.heap.size ≤ ad.block) ∧ Rdr w' q g m p' ∧ Fr [q] w w') ∧
    (∀ w B s g c, RefR w B s g n c m p → Calls Try.prog 11 #[.pointer (some ⟨s, 0, none⟩), .int .i64 z] w fun e w' => ∃ A c', e = .returned (.tuple #[.slice A X.length c', .int .i64 E]) ∧ Rd w' A X ∧ RefR w' B s g n c m p' ∧ Fr [s] w w') := by
  subst hm
  exact ⟨_, _, _, kB_le m p z hp, fun w q g h => (rbytesU w q g p m z h hn hp).mono fun _ _ ⟨A, c, h1, h2, h3, _, h5, h6⟩ => ⟨A, c, h1, h2, h3, h5, h6⟩,
    fun w B s g c h => (xbytesU w B s g _ c p m z h hn hp).mono fun _ _ ⟨A, c, h1, h2, h3, h4⟩ => ⟨A, c, h1, h2, h3, h4⟩⟩

theorem both_high (m : List UInt8) (n p : Nat) (z : Int) (hm : m.length = n) (hn : n ≤ 1000000000) (hp : p ≤ n) : ∃ (E : Int) (u p' : Nat), p' ≤ n ∧
    (∀ w q g, Rdr w q g m p → Calls Try.prog 13 #[.pointer (some ⟨q, 0, none⟩), .int .i64 z] w fun e w' => e = .returned (.tuple #[.int .u64 (u : Int), .int .i64 E]) ∧ Rdr w' q g m p' ∧ Fr [q] w w') ∧
    (∀ w B s g c, RefR w B s g n c m p → Calls Try.prog 14 #[.pointer (some ⟨s, 0, none⟩), .int .i64 z, .bool true] w fun e w' => e = .returned (.tuple #[.int .u64 (u : Int), .int .i64 E]) ∧ RefR w' B s g n c m p' ∧ Fr [s] w w') := by
  subst hm
  exact ⟨_, _, _, kN_le m p z hp, fun w q g h => rhighU w q g p m z h hn hp, fun w B s g c h => xhighU w B s g _ c p m z h hn hp⟩

theorem both_low (m : List UInt8) (n p : Nat) (z : Int) (hm : m.length = n) (hn : n ≤ 1000000000) (hp : p ≤ n) : ∃ (E : Int) (u p' : Nat), p' ≤ n ∧
    (∀ w q g, Rdr w q g m p → Calls Try.prog 15 #[.pointer (some ⟨q, 0, none⟩), .int .i64 z] w fun e w' => e = .returned (.tuple #[.int .u64 (u : Int), .int .i64 E]) ∧ Rdr w' q g m p' ∧ Fr [q] w w') ∧
    (∀ w B s g c, RefR w B s g n c m p → Calls Try.prog 14 #[.pointer (some ⟨s, 0, none⟩), .int .i64 z, .bool false] w fun e w' => e = .returned (.tuple #[.int .u64 (u : Int), .int .i64 E]) ∧ RefR w' B s g n c m p' ∧ Fr [s] w w') := by
  subst hm
  exact ⟨_, _, _, kN_le m p z hp, fun w q g h => rlowU w q g p m z h hn hp, fun w B s g c h => xlowU w B s g _ c p m z h hn hp⟩

/-- Byte, and the document's Bytes of one. -/
theorem both_byte (m : List UInt8) (n p : Nat) (hm : m.length = n) (hn : n ≤ 1000000000) (hp : p ≤ n) : ∃ (E : Int) (x : UInt8) (X : List UInt8) (p' : Nat), p' ≤ n ∧ ((E = 0 ∧ X = [x]) ∨ (E = 2 ∧ X = [] ∧ x = 0)) ∧
    (∀ w q g, Rdr w q g m p → Calls Try.prog 16 #[.pointer (some ⟨q, 0, none⟩)] w fun e w' => e = .returned (.tuple #[.int .u8 (x.toNat : Int), .int .i64 E]) ∧ Rdr w' q g m p' ∧ Fr [q] w w') ∧
    (∀ w B s g c, RefR w B s g n c m p → Calls Try.prog 11 #[.pointer (some ⟨s, 0, none⟩), .int .i64 1] w fun e w' => ∃ A c', e = .returned (.tuple #[.slice A X.length c', .int .i64 E]) ∧ Rd w' A X ∧ RefR w' B s g n c m p' ∧ Fr [s] w w') := by
  subst hm
  refine ⟨_, (oB (eB m p 1) m p 1).headD 0, _, _, kB_le m p 1 hp, ?_, fun w q g h => rbyteU w q g p m h hn hp, fun w B s g c h => (xbytesU w B s g _ c p m 1 h hn hp).mono fun _ _ ⟨A, c, h1, h2, h3, h4⟩ => ⟨A, c, h1, h2, h3, h4⟩⟩
  by_cases h2 : (m.length : Int) - p < 1
  · have e1 : eB m p 1 = 2 := by simp [eB, h2]
    exact .inr ⟨e1, by simp [e1, oB], by simp [e1, oB]⟩
  · have e1 : eB m p 1 = 0 := by simp [eB, h2]
    have hp' : p < m.length := by omega
    refine .inl ⟨e1, ?_⟩
    rw [e1]
    simp only [oB, if_true, Int.toNat_one]
    rw [List.drop_eq_getElem_cons hp']
    rfl

end Go.Proofs.Ytgmngkhjjimelaa
