/-
  Contracts of ups' sum, takeSizes, takeBytes, takeHunks (of hunks that are there).
-/
import Derived.Test.YtpbjbmmnncohfaaUpsBits
import Derived.Test.YtpbjbmmnncohfaaVarTake
import Derived.Test.YtpbjbmmnncohfaaOctNum1
namespace Go.Proofs.Ytpbjbmmnncohfaa
open Go.RowKit
namespace Ups
open Cp (over over_length)

/-- The number that the first four bytes are, the lowest one first. -/
def word4 (l : List UInt8) : BitVec 32 := BitVec.ofNat 32 (le (l.take 4))
theorem le4_lt (l : List UInt8) (h : 4 ≤ l.length) : le (l.take 4) < 4294967296 := by
  have h1 := le_lt (l.take 4)
  rw [show (l.take 4).length = 4 by simp; omega] at h1
  exact h1
theorem word4_u (l : List UInt8) (h : 4 ≤ l.length) : Crc.u (word4 l) = (le (l.take 4) : Int) := by
  have := le4_lt l h
  unfold word4 Crc.u
  rw [BitVec.toNat_ofNat, Nat.mod_eq_of_lt (by omega)]
theorem list4 {α : Type} (l : List α) (h : l.length = 4) : ∃ a b c d, l = [a, b, c, d] := by
  match l, h with
  | [a, b, c, d], _ => exact ⟨a, b, c, d, rfl⟩
/-- Four bytes are those of their number. -/
theorem le4_word4 (z : List UInt8) (h : z.length = 4) : le4 (word4 z) = z := by
  obtain ⟨x0, x1, x2, x3, rfl⟩ := list4 z h
  have b0 := x0.toNat_lt
  have b1 := x1.toNat_lt
  have b2 := x2.toNat_lt
  have b3 := x3.toNat_lt
  have e : (word4 [x0, x1, x2, x3]).toNat = x0.toNat + 256 * (x1.toNat + 256 * (x2.toNat + 256 * x3.toNat)) := by
    unfold word4
    rw [BitVec.toNat_ofNat, List.take_of_length_le (by simp)]
    simp only [le]
    omega
  have key : ∀ (n : Nat) (x : UInt8), n = x.toNat → UInt8.ofNat n = x := fun n x h => by rw [h]; simp
  unfold le4 Crc.byteAt
  rw [e]
  congr 1
  · exact key _ _ (by omega)
  congr 1
  · exact key _ _ (by omega)
  congr 1
  · exact key _ _ (by omega)
  congr 1
  exact key _ _ (by omega)
theorem word4_le4 (d : BitVec 32) (r : List UInt8) : word4 (le4 d ++ r) = d := by
  have h1 : word4 (le4 d ++ r) = word4 (le4 d) := by
    unfold word4
    rw [← le4_length d, List.take_left, List.take_of_length_le (Nat.le_refl _)]
  have h2 : le4 (word4 (le4 d)) = le4 d := le4_word4 (le4 d) (le4_length d)
  rw [h1]
  have h3 : ∀ x y : BitVec 32, le4 x = le4 y → x = y := by
    intro x y hxy
    rw [← Crc.word_bytes x, ← Crc.word_bytes y]
    unfold le4 at hxy
    injection hxy with e0 t0
    injection t0 with e1 t1
    injection t1 with e2 t2
    injection t2 with e3 _
    rw [e0, e1, e2, e3]
  exact h3 _ _ h2

set_option maxHeartbeats 1000000 in
theorem sum4_any (w : World) (A : Option Addr) (n c : Nat) (l : List UInt8) (hn : l.length = n) (hr : Rd w A l) (h4 : 4 ≤ n) (hc : n ≤ c) :
    Calls Try.prog 30 #[.slice A n c] w fun e w' => e = .returned (.int .u32 (Crc.u (word4 l))) ∧ Fr [] w w' := by
  have HR := Lib.hid (rd_take hr 4)
  have HL : Hid ((l.take 4).length = 4) := Lib.hid (by simp; omega)
  rw [word4_u l (by omega)]
  have hlt := le4_lt l (by omega)
  obtain ⟨z, hz⟩ : ∃ z, le (l.take 4) = z := ⟨_, rfl⟩
  rw [hz] at hlt ⊢
  have HZ := Lib.hid hz
  have hwz : IntKind.u32.wrap (z : Int) = (z : Int) := by rw [IntKind.wrap_u32]; omega
  have hc4 : (4 : Int) ≤ c := by omega
  have hc4' : 4 ≤ c := by omega
  clear hr hn hz
  go_enter Try.func30, Try.ntmps30
  go_wp2_with fail
  refine (newReader_any A 4 c (l.take 4) w HL.out HR.out (by decide)).mono ?_
  rintro e w1 ⟨p, rfl, h1, hp, hf1⟩
  have H1 := Lib.hid h1
  have HF1 := Lib.hid hf1
  clear h1 hf1
  go_wp2_with fail
  refine (rlow_ok w1 p w.heap.size 0 4 (l.take 4) H1.out (by rw [HL.out]; decide) (by rw [HL.out]; decide) (by decide)).mono ?_
  rintro e w2 ⟨rfl, -, hf2⟩
  rw [List.drop_zero, List.take_take, Nat.min_self, HZ.out]
  have HF2 : Hid (Fr [] w w2) := Lib.hid (HF1.out.trans hf2 (by simp; omega))
  clear hf2
  go_wp2
  go_ret
  exact ⟨rfl, HF2.out⟩

/-- What takeSizes leaves. -/
def Sized (w : World) (p g : Nat) (l : List UInt8) (k n1 n2 : Nat) (e : Ending) (w' : World) : Prop :=
  e = .returned (.tuple #[.int .u64 (n1 : Int), .int .u64 (n2 : Int), .int .i64 0]) ∧ Rdr w' p g l k ∧ Fr [p] w w'

set_option maxHeartbeats 1000000 in
theorem takeSizes_ok (w : World) (p g k : Nat) (l r : List UInt8) (n1 n2 : Nat) (h : Rdr w p g l k) (hk : k ≤ l.length) (hl : l.length ≤ 1000000000) (hd : l.drop k = Var.putV n1 ++ (Var.putV n2 ++ r)) (h1 : n1 ≤ 16777216) (h2 : n2 ≤ 16777216) :
    Calls Try.prog 32 #[.pointer (some ⟨p, 0, none⟩)] w (Sized w p g l (k + (Var.putV n1).length + (Var.putV n2).length) n1 n2) := by
  have HT1 : Hid (Var.takeV (l.drop k) = (n1, (Var.putV n1).length, 0)) := Lib.hid (by rw [hd]; exact Var.takeV_put n1 _ (by unfold Var.most; omega))
  have hd2 : l.drop (k + (Var.putV n1).length) = Var.putV n2 ++ r := by rw [← List.drop_drop, hd, List.drop_left]
  have HT2 : Hid (Var.takeV (l.drop (k + (Var.putV n1).length)) = (n2, (Var.putV n2).length, 0)) := Lib.hid (by rw [hd2]; exact Var.takeV_put n2 _ (by unfold Var.most; omega))
  have hk2 : k + (Var.putV n1).length ≤ l.length := by
    have e := congrArg List.length hd
    rw [List.length_drop, List.length_append] at e
    omega
  have HR := Lib.hid h
  have hmx : ¬ (16777216 : Int) < max (n1 : Int) (n2 : Int) := by omega
  generalize (Var.putV n1).length = P1 at *
  generalize (Var.putV n2).length = P2 at *
  have HQ : Hid (∀ W, Rdr W p g l (k + P1 + P2) → Fr [p] w W → Sized w p g l (k + P1 + P2) n1 n2 (.returned (.tuple #[.int .u64 (n1 : Int), .int .u64 (n2 : Int), .int .i64 0])) W) := Lib.hid fun W h1 h2 => ⟨rfl, h1, h2⟩
  generalize Sized w p g l (k + P1 + P2) n1 n2 = Q at *
  clear h hd hd2
  go_enter Try.func32, Try.ntmps32
  go_wp2_with fail
  refine (Var.take_any w p g k l HR.out hk hl _ HT1.out).mono ?_
  rintro e w1 ⟨rfl, hr1, hf1⟩
  have H1 := Lib.hid hr1
  have HF1 := Lib.hid hf1
  simp only
  clear hr1 hf1
  go_wp2_with fail
  refine (Var.take_any w1 p g (k + P1) l H1.out hk2 hl _ HT2.out).mono ?_
  rintro e w2 ⟨rfl, hr2, hf2⟩
  have HX := Lib.hid (HQ.out w2 hr2 (HF1.out.tr hf2))
  simp only
  clear hr2 hf2
  go_wp2
  exact bodyPost_ret (v := .tuple #[.int .u64 (n1 : Int), .int .u64 (n2 : Int), .int .i64 0]) (by simp [results, Try.results32, go_sem]) rfl HX.out

theorem over_set (l : List UInt8) (k : Nat) (d : List UInt8) (x : UInt8) (h : k + d.length < l.length) : (over l k d).set (k + d.length) x = over l k (d ++ [x]) := by
  have hl : (l.take k ++ d).length = k + d.length := by simp; omega
  have e : over l k d = (l.take k ++ d) ++ (l[k + d.length] :: l.drop (k + d.length + 1)) := by
    unfold over
    rw [List.drop_eq_getElem_cons h, List.append_assoc]
  rw [e, List.set_append_right _ _ (by omega), hl, Nat.sub_self, List.set_cons_zero]
  unfold over
  simp [List.append_assoc, Nat.add_assoc]

set_option maxRecDepth 100000 in
set_option maxHeartbeats 2000000 in
theorem takeBytes_ok (w : World) (p g r gr : Nat) (A B : Nat × BitVec 32) (m l xs rest : List UInt8) (k at_ : Nat) (hP : Pt w p g A B m) (hR : Rdr w r gr l k) (hne : gr ≠ g) (hd : l.drop k = xs ++ (0 :: rest)) (hx : ∀ x ∈ xs, x ≠ 0) (hfit : at_ + xs.length ≤ m.length) (hm : m.length ≤ 1000000000) (hl : l.length ≤ 1000000000) :
    Calls Try.prog 44 #[.pointer (some ⟨p, 0, none⟩), .pointer (some ⟨r, 0, none⟩), .int .u64 (at_ : Int)] w fun e w' =>
      e = .returned (.tuple #[.int .u64 ((at_ + xs.length + 1 : Nat) : Int), .int .i64 0]) ∧ Rdr w' r gr l (k + xs.length + 1) ∧ Pt w' p g A B (over m at_ xs) ∧ Fr [r, g] w w' := by
  have hrp : r ≠ p := hR.1.other hP.1 (by decide)
  have hrg : g ≠ r := hP.2.other hR.1 (by decide)
  have hgp := hP.ne
  have hlen : k + xs.length + 1 ≤ l.length := by
    have e := congrArg List.length hd
    rw [List.length_drop, List.length_append, List.length_cons] at e
    omega
  have HGet : Hid (∀ j (hj : j < xs.length), l[k + j]? = some xs[j]) := Lib.hid (by
    intro j hj
    rw [← List.getElem?_drop, hd, List.getElem?_append_left hj, List.getElem?_eq_getElem hj])
  have HEnd : Hid (l[k + xs.length]? = some 0) := Lib.hid (by
    rw [← List.getElem?_drop, hd, List.getElem?_append_right (Nat.le_refl _), Nat.sub_self]
    rfl)
  have HP := Lib.hid hP
  have HR := Lib.hid hR
  have HX := Lib.hid hx
  have Hm := Lib.hid hm
  obtain ⟨N, hN⟩ : ∃ N, m.length = N := ⟨_, rfl⟩
  have HN := Lib.hid hN
  obtain ⟨q, hq⟩ : ∃ q, xs.length = q := ⟨_, rfl⟩
  have Hq := Lib.hid hq
  rw [hN] at hfit hm
  rw [hq] at hfit hlen HEnd ⊢
  clear hP hR hx hd hN hq
  go_enter Try.func44, Try.ntmps44
  go_wp2_with fail
  go_loopw [2] (fun s wr => ∃ j : Nat, j ≤ q ∧ s = .int .u64 ((at_ + j : Nat) : Int) ∧ Rdr wr r gr l (k + j) ∧ Pt wr p g A B (over m at_ (xs.take j)) ∧ Fr [r, g] w wr) (fun s _ => at_ + q + 1 - (intOf s).toNat)
  case atStart => exact ⟨0, Nat.zero_le _, rfl, HR.out, by simpa [over] using HP.out, Fr.refl _ _⟩
  case round =>
    obtain ⟨j, hj, rfl, hr, hp, hf⟩ := hrel
    have HR1 := Lib.hid hr
    have HP1 := Lib.hid hp
    have HF1 := Lib.hid hf
    obtain ⟨t, ht⟩ : ∃ t, at_ + j = t := ⟨_, rfl⟩
    have Ht := Lib.hid ht
    rw [ht]
    have hkl : k + j < l.length := by omega
    by_cases hlt : j < q
    · have hg0 := HGet.out j (by rw [Hq.out]; exact hlt)
      have hx0 := HX.out (xs[j]'(by rw [Hq.out]; exact hlt)) (List.getElem_mem _)
      have HSt : Hid ((over m at_ (xs.take j)).set t (xs[j]'(by rw [Hq.out]; exact hlt)) = over m at_ (xs.take (j + 1))) := Lib.hid (by
        have h1 : (xs.take j).length = j := by rw [List.length_take, Hq.out]; omega
        have h2 := over_set m at_ (xs.take j) (xs[j]'(by rw [Hq.out]; exact hlt)) (by rw [h1, HN.out]; omega)
        rw [h1, ht] at h2
        rw [h2, take_snoc xs j (by rw [Hq.out]; exact hlt)])
      generalize xs[j]'(by rw [Hq.out]; exact hlt) = x at *
      obtain ⟨hlj, ex⟩ := List.getElem?_eq_some_iff.1 hg0
      have HB := Lib.hid (rbyte_ok wr r gr (k + j) l HR1.out hl hkl)
      rw [ex] at HB
      have hx8 := x.toNat_lt
      have hxz : ¬ ((x.toNat : Int) = 0) := by intro h; exact hx0 (UInt8.toNat_inj.1 (by simpa using h))
      have hxz' : ((x.toNat : Int) == 0) = false := by simpa using hxz
      have hol : (over m at_ (xs.take j)).length = N := by rw [over_length _ _ _ (by rw [List.length_take, HN.out]; omega), HN.out]
      have HOl := Lib.hid hol
      have hcl : ∃ y : UInt8, (over m at_ (xs.take j))[t]? = some y := ⟨_, List.getElem?_eq_getElem (by rw [hol]; omega)⟩
      obtain ⟨y, hy⟩ := hcl
      have HY := Lib.hid hy
      have htN : (t : Int) < N := by omega
      have htN' : ¬ (N : Int) ≤ t := by omega
      have ht0 : (0 : Int) ≤ t := by omega
      clear hr hp hf hg0 hx0 hlj ex hol hy ht
      go_wp2_with fail
      refine HB.out.mono ?_
      rintro e w1 ⟨rfl, h1, h2⟩
      have HR2 := Lib.hid h1
      have hP2 := HP1.out.fr h2 (by simp; exact fun e => hrp e.symm) (by simp; exact hrg)
      have HF2 := Lib.hid (HF1.out.trans (S := [r, g]) h2 (by simp))
      have c4 := hP2.1.cell 4
      rw [HOl.out] at c4
      simp at c4
      have ct := blk_get hP2.2 t y HY.out
      have zt := hP2.2.frozen t
      have HP2 := Lib.hid hP2
      clear h1 h2 hP2 HB
      go_wp2
      go_roundw
      case rel =>
        have hs : Fr [g] w1 (w1.setCell ⟨g, t, none⟩ (.int .u8 (x.toNat : Int))) := (Fr.refl [g] w1).setCell (by simp) _
        refine ⟨j + 1, by omega, ?_, ?_, ?_, ?_⟩
        · rw [← Nat.add_assoc, Ht.out]; go_num
        · rw [← Nat.add_assoc]; exact HR2.out.fr hs (by simp; exact fun e => hrg e.symm) (by simp; exact hne)
        · rw [← HSt.out]
          refine ⟨?_, blk_put HP2.out.2 t x⟩
          rw [List.length_set]
          exact HP2.out.1.fr hs (by simp; exact fun e => hgp e.symm)
        · exact HF2.out.setCell (by simp) _
      case measure => have := Ht.out; simp [intOf]; omega
    · obtain rfl : j = q := by omega
      obtain ⟨hlj, ex⟩ := List.getElem?_eq_some_iff.1 HEnd.out
      have HB := Lib.hid (rbyte_ok wr r gr (k + j) l HR1.out hl hkl)
      rw [ex] at HB
      have HEn : Hid (over m at_ (xs.take j) = over m at_ xs) := Lib.hid (by rw [List.take_of_length_le (by rw [Hq.out]; exact Nat.le_refl _)])
      have hwt : IntKind.u64.wrap ((t : Int) + 1) = ((t + 1 : Nat) : Int) := by rw [IntKind.wrap_u64]; omega
      clear hr hp hf hlj ex ht
      go_wp2_with fail
      refine HB.out.mono ?_
      rintro e w1 ⟨rfl, h1, h2⟩
      have HR2 := Lib.hid h1
      have HP2 := Lib.hid (HP1.out.fr h2 (by simp; exact fun e => hrp e.symm) (by simp; exact hrg))
      have HF2 := Lib.hid (HF1.out.trans (S := [r, g]) h2 (by simp))
      clear h1 h2 HB
      go_wp2
      go_ret2
      refine ⟨?_, HR2.out, by rw [← HEn.out]; exact HP2.out, HF2.out⟩
      rw [Ht.out]
      rfl

set_option maxRecDepth 100000 in
set_option maxHeartbeats 2000000 in
theorem takeHunks_ok (w : World) (p g r gr : Nat) (A B : Nat × BitVec 32) (l : List UInt8) (k N : Nat) (m : List UInt8) (hs : List Hk) (hP : Pt w p g A B m) (hR : Rdr w r gr l k) (hk : k ≤ l.length) (hne : gr ≠ g) (hd : l.drop k = hs.flatMap hkB) (hx : ∀ h ∈ hs, ∀ x ∈ h.xs, x ≠ 0) (hfit : Fit N 0 hs) (hN : m.length = N) (hm : N ≤ 16777216) (hl : l.length ≤ 1000000000) :
    Calls Try.prog 33 #[.pointer (some ⟨p, 0, none⟩), .pointer (some ⟨r, 0, none⟩)] w fun e w' => e = .returned (.int .i64 0) ∧ Pt w' p g A B (lay m 0 hs) ∧ Fr [r, g] w w' := by
  obtain ⟨M, hM⟩ : ∃ M, lay m 0 hs = M := ⟨_, rfl⟩
  rw [hM]
  have H0 : Hid (∃ (rest : List Hk) (cur : List UInt8), l.drop k = rest.flatMap hkB ∧ (∀ h ∈ rest, ∀ x ∈ h.xs, x ≠ 0) ∧ Fit N 0 rest ∧ cur.length = N ∧ lay cur 0 rest = M ∧ Pt w p g A B cur) := Lib.hid ⟨hs, m, hd, hx, hfit, hN, hM, hP⟩
  have HR := Lib.hid hR
  have hrp : r ≠ p := hR.1.other hP.1 (by decide)
  have hrg : g ≠ r := hP.2.other hR.1 (by decide)
  clear hP hR hd hx hfit hN hM
  go_enter Try.func33, Try.ntmps33
  go_wp2_with fail
  go_loopw [5] (fun s wr => ∃ (k a : Nat) (rest : List Hk) (cur : List UInt8), s = .int .u64 (a : Int) ∧ a ≤ N + 1 ∧ k ≤ l.length ∧ Rdr wr r gr l k ∧ l.drop k = rest.flatMap hkB ∧ (∀ h ∈ rest, ∀ x ∈ h.xs, x ≠ 0) ∧ Fit N a rest ∧ cur.length = N ∧ lay cur a rest = M ∧ Pt wr p g A B cur ∧ Fr [r, g] w wr) (fun s _ => N + 2 - (intOf s).toNat)
  case atStart =>
    obtain ⟨rest, cur, h1, h2, h3, h4, h5, h6⟩ := H0.out
    exact ⟨k, 0, rest, cur, rfl, by omega, hk, HR.out, h1, h2, h3, h4, h5, h6, Fr.refl _ _⟩
  case round =>
    obtain ⟨k, a, rest, cur, rfl, ha, hk, hr, hd, hx, hfit, hc, hM, hP, hf⟩ := hrel
    clear H0 HR
    have HR := Lib.hid hr
    have HP := Lib.hid hP
    have HF := Lib.hid hf
    have HLeft := Lib.hid (left_any wr r gr k l hr hk hl)
    cases rest with
    | nil =>
      have hkl : k = l.length := by
        have e := congrArg List.length hd
        simp at e
        omega
      have e0 : ¬ (0 : Int) < (l.length : Int) - k := by omega
      have HM := Lib.hid hM
      clear hr hP hf hd hx hfit hc hM
      go_wp2_with fail
      refine HLeft.out.mono ?_
      rintro e w1 ⟨rfl, nd, rfl⟩
      clear HLeft
      go_wp2
      go_ret
      have hdr : Fr [] wr (wr.drewN nd) := (Fr.refl [] wr).drewN nd
      exact ⟨rfl, by rw [← HM.out]; exact HP.out.fr hdr (by simp) (by simp), HF.out.tr hdr.nil⟩
    | cons h rest =>
      obtain ⟨sk, xs⟩ := h
      have hd1 : l.drop k = Var.putV sk ++ (xs ++ (0 :: rest.flatMap hkB)) := by rw [hd]; simp [hkB]
      simp only [Fit, lay] at hfit hM
      have hk1 : k + (Var.putV sk).length ≤ l.length := by
        have e := congrArg List.length hd1
        rw [List.length_drop, List.length_append] at e
        omega
      have hk2 : k + (Var.putV sk).length + xs.length + 1 ≤ l.length := by
        have e := congrArg List.length hd1
        rw [List.length_drop, List.length_append, List.length_append, List.length_cons] at e
        omega
      have hpos := Var.putV_pos sk
      have hd2 : l.drop (k + (Var.putV sk).length) = xs ++ (0 :: rest.flatMap hkB) := by rw [← List.drop_drop, hd1, List.drop_left]
      have hd3 : l.drop (k + (Var.putV sk).length + xs.length + 1) = rest.flatMap hkB := by
        rw [Nat.add_assoc, ← List.drop_drop, hd2, List.drop_append, List.drop_eq_nil_of_le (by omega), List.nil_append, Nat.add_sub_cancel_left]
        rfl
      have HT : Hid (Var.takeV (l.drop k) = (sk, (Var.putV sk).length, 0)) := Lib.hid (by rw [hd1]; exact Var.takeV_put sk _ (by unfold Var.most; omega))
      have e0 : (0 : Int) < (l.length : Int) - k := by omega
      obtain ⟨t, ht⟩ : ∃ t, a + sk = t := ⟨_, rfl⟩
      have hat : (a : Int) + (sk : Int) = (t : Int) := by omega
      have hwt : IntKind.u64.wrap (t : Int) = (t : Int) := by rw [IntKind.wrap_u64]; omega
      rw [ht] at hfit hM
      have HD2 := Lib.hid hd2
      have HD3 := Lib.hid hd3
      have HX := Lib.hid hx
      have HFit := Lib.hid hfit.2
      have hfit1 := hfit.1
      have Hc := Lib.hid hc
      have HM := Lib.hid hM
      have HOl : Hid ((over cur t xs).length = N) := Lib.hid (by rw [over_length _ _ _ (by rw [hc]; omega), hc])
      generalize (Var.putV sk).length = P at *
      clear hr hP hf hd hx hfit hc hM hd1 hd2 hd3
      go_wp2_with fail
      refine HLeft.out.mono ?_
      rintro e w1 ⟨rfl, nd, rfl⟩
      have hdr : Fr [] wr (wr.drewN nd) := (Fr.refl [] wr).drewN nd
      have HR1 := Lib.hid (HR.out.fr hdr (by simp) (by simp))
      have HP1 := Lib.hid (HP.out.fr hdr (by simp) (by simp))
      have HF1 := Lib.hid (HF.out.tr hdr.nil)
      clear HLeft hdr HR HP HF
      generalize wr.drewN nd = w1 at *
      go_wp2_with fail
      refine (Var.take_any w1 r gr k l HR1.out hk hl _ HT.out).mono ?_
      rintro e w2 ⟨rfl, hr2, hf2⟩
      simp only at hr2 ⊢
      have HR2 := Lib.hid hr2
      have HP2 := Lib.hid (HP1.out.fr hf2 (by simp; exact fun e => hrp e.symm) (by simp; exact hrg))
      have HF2 := Lib.hid (HF1.out.trans (S := [r, g]) hf2 (by simp))
      clear hr2 hf2 HR1 HP1 HF1 HT
      go_wp2_with fail
      refine (takeBytes_ok w2 p g r gr A B cur l xs (rest.flatMap hkB) (k + P) t HP2.out HR2.out hne HD2.out (HX.out _ (List.mem_cons_self ..)) (by rw [Hc.out]; exact hfit1) (by rw [Hc.out]; omega) hl).mono ?_
      rintro e w3 ⟨rfl, hr3, hp3, hf3⟩
      have HR3 := Lib.hid hr3
      have HP3 := Lib.hid hp3
      have HF3 := Lib.hid (HF2.out.tr hf3)
      clear hr3 hp3 hf3 HR2 HP2 HF2
      go_wp2
      go_roundw
      case rel => exact ⟨k + P + xs.length + 1, t + xs.length + 1, rest, over cur t xs, rfl, by omega, hk2, HR3.out, HD3.out, fun h hh => HX.out h (List.mem_cons_of_mem _ hh), HFit.out, HOl.out, HM.out, HP3.out, HF3.out⟩
      case measure => simp [intOf]; omega

end Ups
end Go.Proofs.Ytpbjbmmnncohfaa
