/-
  Contracts of the document's own at, Signed and Create of layer 6 (picklockref06).
-/
import Derived.Test.YtpbjbmmnncohfaaUpsCreate
import Derived.Test.YtpbjbmmnncohfaaCrcRef
import Derived.Test.YtpbjbmmnncohfaaVarRefPut
import Derived.Test.YtpbjbmmnncohfaaOctRefPut
import Derived.Test.YtpbjbmmnncohfaaIpsAp
namespace Go.Proofs.Ytpbjbmmnncohfaa
open Go.RowKit
namespace Ups

set_option maxHeartbeats 400000 in
theorem refat_any (w : World) (A : Option Addr) (n c k : Nat) (l : List UInt8) (hn : l.length = n) (hr : Rd w A l) :
    Calls Try.prog 18 #[.slice A n c, .int .i64 (k : Int)] w fun e w' => e = .returned (.int .u8 ((at0 l k).toNat : Int)) ∧ w = w' := by
  by_cases h : k < n
  · obtain ⟨b, o, x, rfl, hx, hc⟩ := hr.at k (by omega)
    rw [at0_get l k x hx]
    have h1 : (k : Int) < n := by omega
    clear hr hn hx
    go_enter Try.func18, Try.ntmps18
    go_wp2
    go_ret
    exact ⟨rfl, rfl⟩
  · rw [at0_ge l k (by omega)]
    have h1 : ¬ (k : Int) < n := by omega
    clear hr hn
    go_enter Try.func18, Try.ntmps18
    go_wp2
    go_ret
    exact ⟨rfl, rfl⟩

theorem rput4 (w : World) (d : BitVec 32) : Calls Try.prog 19 #[.int .u64 (Crc.u d), .int .i64 4, .bool false] w fun e w' => ∃ A c, e = .returned (.slice A 4 c) ∧ Own w' w.heap.size (.slice A 4 c) (le4 d) ∧ Fr [] w w' := by
  have h := Ref.put_little w d.toNat 4 (by have := d.isLt; omega)
  have e : putL d.toNat (Ref.cnt 4) = le4 d := putL_le4 d
  rw [e] at h
  exact h

/-- What Signed leaves. -/
def Bytes (w : World) (l : List UInt8) (e : Ending) (w' : World) : Prop :=
  ∃ A c, e = .returned (.slice A l.length c) ∧ Own w' w.heap.size (.slice A l.length c) l ∧ Fr [] w w'

set_option maxRecDepth 100000 in
set_option maxHeartbeats 1000000 in
theorem refsigned_any (w : World) (A : Option Addr) (n c : Nat) (l : List UInt8) (hn : l.length = n) (hr : Rd w A l) (hc : A = none → c = 0) (hm : n ≤ 500000000) :
    Calls Try.prog 20 #[.slice A n c] w (Bytes w (signed l)) := by
  obtain ⟨i0, hi, hz0, hz1, hz2⟩ := info_parts info5
  have HR := Lib.hid hr
  have HN := Lib.hid hn
  have HC := Lib.hid hc
  have HL : Hid ((signed l).length = n + 4) := Lib.hid (by rw [signed_length, hn])
  unfold Bytes
  rw [HL.out]
  clear hr hn hc
  go_enter Try.func20, Try.ntmps20
  go_wp2_with (at_builtin; refine wpList_app _ rfl (.tmp 3) (.tmp 4) 22 rfl w.heap.size i0 Try.underlying22 hi hz0 hz1 hz2 (.slice (some ⟨w.heap.size, 0, none⟩) 0 0) [] rfl (Own.empty w _ (Nat.le_refl _)) A n c l rfl HN.out (HR.out.later (S := []) ((Fr.refl [] w).alloc _) (by simp)) HC.out (by simp; omega) (by simp) ?_)
  intro A1 c1 w1 ho1 hf1 _
  have HO1 : Hid (Own w1 w.heap.size (.slice A1 n c1) l) := Lib.hid (by simpa using ho1)
  have HF1 : Hid (Fr [] w w1) := Lib.hid (((Fr.refl [] w).alloc _).trans hf1 (by simp [Value.ownBlock]))
  have hs1 := HF1.out.size
  clear ho1 hf1
  go_wp2_with fail
  refine (Crc.rsum_any w1 A n c l HN.out (HR.out.later HF1.out (by simp)) (by omega)).mono ?_
  rintro e w2 ⟨rfl, rfl⟩
  have HSg : Hid (l ++ le4 (Crc.next 0#32 l) = signed l) := Lib.hid rfl
  generalize Crc.next 0#32 l = t at *
  have hwt : IntKind.u64.wrap (Crc.u t) = Crc.u t := by have := Crc.u_bounds t; rw [IntKind.wrap_u64]; omega
  go_wp2_with fail
  refine (rput4 w1 t).mono ?_
  rintro e w2 ⟨A2, c2, rfl, ho2, hf2⟩
  have HO1' := Lib.hid (HO1.out.fr hf2 (by simp))
  have HO2 := Lib.hid ho2
  have HF2 := Lib.hid (HF1.out.tr hf2)
  have HC2 := Lib.hid (Ref.own_nilcap ho2)
  have hs2 := HF2.out.size
  clear ho2 hf2 HO1
  go_wp2_with (at_builtin; refine wpList_appN _ rfl (.tmp 5) (.tmp 9) 22 rfl w.heap.size i0 Try.underlying22 hi hz0 hz1 hz2 (.slice A1 n c1) l n HN.out rfl HO1'.out A2 4 c2 (le4 t) rfl rfl HO2.out.rd HC2.out (by omega) hs2 ?_)
  intro A3 c3 w3 ho3 hf3 _
  rw [HSg.out] at ho3
  have HO3 := Lib.hid ho3
  have HF3 : Hid (Fr [] w w3) := Lib.hid (HF2.out.trans hf3 (by intro i hi; exact .inr (HO1'.out.lt i (by simpa using hi)).1))
  clear ho3 hf3
  go_wp2
  go_ret
  exact ⟨A3, c3, rfl, HO3.out, HF3.out⟩

open Ips (Ap)

/-- Between two rounds of Create's loop: what was written, from where on it is skipped, and where it stands. -/
structure RcI (w : World) (s : Nat) (base m : List UInt8) (done : List Hk) (last i : Nat) (v : Value) (W : World) : Prop where
  split : hk 0 m = done ++ hk (i - last) (m.drop i)
  low : last ≤ i
  high : i ≤ m.length + 1
  out : Ap W s v (base ++ done.flatMap hkB)
  fr : Fr [] w W

theorem RcI.len {w : World} {s : Nat} {base m : List UInt8} {done : List Hk} {last i : Nat} {v : Value} {W : World} (h : RcI w s base m done last i v W) (hm : m.length ≤ 16777216) : (done.flatMap hkB).length ≤ 117440512 := by
  have h1 := hk_len m.length 0 m (Nat.le_refl _) (by unfold Var.most; omega)
  rw [h.split, List.flatMap_append, List.length_append] at h1
  omega

theorem lead_in (l : List UInt8) (n j : Nat) (h : (lead l).length = n) (hj : j < n) : at0 l j ≠ 0 := by
  have h1 : j < (lead l).length := by omega
  have h2 : at0 l j = (lead l)[j] := by
    have e := (lead_drop l).1
    conv => lhs; rw [e]
    rw [at0_left _ _ _ h1, at0_lt _ _ h1]
  rw [h2]
  exact lead_all l _ (List.getElem_mem h1)
theorem lead_end (l : List UInt8) (n : Nat) (h : (lead l).length = n) : at0 l n = 0 := by rw [← h]; exact (lead_drop l).2

theorem xor_zero {x y : UInt8} (h : x ^^^ y = 0) : x = y := by
  by_cases e : x = y
  · exact e
  · exfalso
    have h1 := congrArg (fun z => x ^^^ z) h
    simp only [xor_cancel] at h1
    exact e (by rw [h1]; simp)

set_option maxRecDepth 100000 in
set_option maxHeartbeats 2000000 in
theorem refcreate_any (w : World) (R S : Option Addr) (n1 c1 n2 c2 : Nat) (a b : List UInt8) (hn1 : a.length = n1) (hn2 : b.length = n2) (ha : Rd w R a) (hb : Rd w S b) (h1 : n1 ≤ 16777216) (h2 : n2 ≤ 16777216) :
    Calls Try.prog 10 #[.slice R n1 c1, .slice S n2 c2] w (Bytes w (patch a b)) := by
  obtain ⟨i0, hi, hz0, hz1, hz2⟩ := info_parts info5
  obtain ⟨s, hs⟩ : ∃ s, w.heap.size = s := ⟨_, rfl⟩
  have HA := Lib.hid ha
  have HB := Lib.hid hb
  have HN1 := Lib.hid hn1
  have HN2 := Lib.hid hn2
  obtain ⟨N, hN⟩ : ∃ N, max n1 n2 = N := ⟨_, rfl⟩
  have hN' : max (n1 : Int) (n2 : Int) = (N : Int) := by omega
  have HD : Hid ((dif a b).length = N) := Lib.hid (by rw [dif_length, hn1, hn2, hN])
  have HAt : Hid (∀ k, at0 (dif a b) k = at0 a k ^^^ at0 b k) := Lib.hid (dif_at a b)
  have HBody : Hid ((([85, 80, 83, 49] ++ Var.putV n1) ++ Var.putV n2) ++ (hunks a b).flatMap hkB ++ le4 (sum a) ++ le4 (sum b) = body a b) := Lib.hid (by rw [← hn1, ← hn2]; unfold body; simp [List.append_assoc])
  have HQ : Hid (∀ W e W', Fr [] w W → Bytes W (signed (body a b)) e W' → Bytes w (patch a b) e W') := Lib.hid (by
    rintro W e W' hf ⟨A, c, rfl, ho, hf'⟩
    exact ⟨A, c, rfl, ho.base hf.size, hf.tr hf'⟩)
  have hm : (dif a b).length ≤ 16777216 := by rw [HD.out]; omega
  have Hm := Lib.hid hm
  have kc := conv_const w s hs #[.int .u8 85, .int .u8 80, .int .u8 83, .int .u8 49] 4 4
  simp only [List.size_toArray, List.length_cons, List.length_nil, Nat.reduceAdd, Nat.zero_add] at kc
  generalize Bytes w (patch a b) = Q at *
  unfold hunks at HBody
  generalize dif a b = m at *
  obtain ⟨P1, hP1⟩ : ∃ P1, (Var.putV n1).length = P1 := ⟨_, rfl⟩
  obtain ⟨P2, hP2⟩ : ∃ P2, (Var.putV n2).length = P2 := ⟨_, rfl⟩
  have hP15 : P1 ≤ 5 := by rw [← hP1]; exact Var.putV_le5 (by unfold Var.most; omega)
  have hP25 : P2 ≤ 5 := by rw [← hP2]; exact Var.putV_le5 (by unfold Var.most; omega)
  have HP1 := Lib.hid hP1
  have HP2 := Lib.hid hP2
  have f0 : Fr [] w (w.alloc (.cells #[.int .u8 85, .int .u8 80, .int .u8 83, .int .u8 49] 5 (4, 5))) := (Fr.refl [] w).alloc _
  have HAp0 : Hid (Ap (w.alloc (.cells #[.int .u8 85, .int .u8 80, .int .u8 83, .int .u8 49] 5 (4, 5))) s (.slice (some ⟨s, 0, none⟩) 4 4) [85, 80, 83, 49]) := Lib.hid (.inr ⟨s, rfl, rd_const w s hs [85, 80, 83, 49] 5 (4, 5), Nat.le_refl _, by simp [hs]⟩)
  have HF0 := Lib.hid f0
  obtain ⟨W0, hW0⟩ : ∃ W0, W0 = w.alloc (.cells #[.int .u8 85, .int .u8 80, .int .u8 83, .int .u8 49] 5 (4, 5)) := ⟨_, rfl⟩
  rw [← hW0] at HAp0 HF0
  have HW0 := Lib.hid hW0
  clear ha hb hn1 hn2 hm hN hP1 hP2 f0 hW0
  go_enter Try.func10, Try.ntmps10
  go_wp2_with fail
  rw [← HW0.out]
  clear kc
  refine (Var.refPut_any W0 n1 (by unfold Var.most; omega)).mono ?_
  rintro e w1 ⟨A1, c1', rfl, ho1, hf1⟩
  rw [HP1.out] at ho1 ⊢
  have HO1 := Lib.hid ho1
  have HNc1 := Lib.hid (Ref.own_nilcap ho1)
  have HF1 := Lib.hid (HF0.out.tr hf1)
  have HAp1 := Lib.hid (HAp0.out.fr hf1 (by simp))
  have hs1 : s ≤ w1.heap.size := by rw [← hs]; exact HF1.out.size
  clear ho1 hf1 HAp0 HW0
  go_wp2_with (at_builtin; refine Ips.wpList_ap _ rfl (.tmp 10) (.tmp 14) 22 rfl s i0 Try.underlying22 hi hz0 hz1 hz2 (.slice (some ⟨s, 0, none⟩) 4 4) [85, 80, 83, 49] rfl HAp1.out A1 P1 c1' (Var.putV n1) rfl HP1.out HO1.out.rd HNc1.out (4 + P1) rfl (by omega) hs1 ?_)
  intro A2 c2' w2 ha2 hf2
  obtain ⟨L2, hL2⟩ : ∃ L2, L2 = [85, 80, 83, 49] ++ Var.putV n1 := ⟨_, rfl⟩
  have HAp2 : Hid (Ap w2 s (.slice A2 (4 + P1) c2') L2) := Lib.hid (hL2 ▸ ha2)
  have HLn2 : Hid (L2.length = 4 + P1) := Lib.hid (by rw [hL2, List.length_append, HP1.out]; rfl)
  have HF2 : Hid (Fr [] w w2) := Lib.hid (HF1.out.trans hf2 (by intro k hk; exact .inr (by rw [hs]; exact (HAp1.out.lt k hk).1)))
  rw [← hL2] at HBody
  clear ha2 hf2 HAp1 HO1 hL2
  go_wp2_with fail
  refine (Var.refPut_any w2 n2 (by unfold Var.most; omega)).mono ?_
  rintro e w3 ⟨A3, c3', rfl, ho3, hf3⟩
  rw [HP2.out] at ho3 ⊢
  have HO3 := Lib.hid ho3
  have HNc3 := Lib.hid (Ref.own_nilcap ho3)
  have HF3 := Lib.hid (HF2.out.tr hf3)
  have HAp3 := Lib.hid (HAp2.out.fr hf3 (by simp))
  have hs3 : s ≤ w3.heap.size := by rw [← hs]; exact HF3.out.size
  clear ho3 hf3 HAp2
  go_wp2_with (at_builtin; refine Ips.wpList_ap _ rfl (.tmp 16) (.tmp 20) 22 rfl s i0 Try.underlying22 hi hz0 hz1 hz2 (.slice A2 (4 + P1) c2') L2 rfl HAp3.out A3 P2 c3' (Var.putV n2) rfl HP2.out HO3.out.rd HNc3.out (4 + P1 + P2) (by rw [HLn2.out]) (by omega) hs3 ?_)
  intro A4 c4' w4 ha4 hf4
  obtain ⟨L4, hL4⟩ : ∃ L4, L4 = L2 ++ Var.putV n2 := ⟨_, rfl⟩
  have HAp4 : Hid (Ap w4 s (.slice A4 (4 + P1 + P2) c4') L4) := Lib.hid (hL4 ▸ ha4)
  have HLn4 : Hid (L4.length = 4 + P1 + P2) := Lib.hid (by rw [hL4, List.length_append, HP2.out, HLn2.out])
  have HF4 : Hid (Fr [] w w4) := Lib.hid (HF3.out.trans hf4 (by intro k hk; exact .inr (by rw [hs]; exact (HAp3.out.lt k hk).1)))
  rw [← hL4] at HBody
  clear ha4 hf4 HAp3 HO3 hL4
  have H0 : Hid (RcI w s L4 m [] 0 0 (.slice A4 (4 + P1 + P2) c4') w4) := Lib.hid ⟨by simp, Nat.le_refl _, Nat.zero_le _, by simpa using HAp4.out, HF4.out⟩
  go_wp2_with fail
  go_loopw [5, 7, 8] (fun o la ii wr => ∃ (last i K c : Nat) (A : Option Addr) (done : List Hk), o = .slice A K c ∧ la = .int .i64 (last : Int) ∧ ii = .int .i64 (i : Int) ∧ (L4 ++ done.flatMap hkB).length = K ∧ RcI w s L4 m done last i (.slice A K c) wr) (fun _ _ ii _ => N + 1 - (intOf ii).toNat)
  case atStart => exact ⟨0, 0, 4 + P1 + P2, c4', A4, [], rfl, rfl, rfl, by simpa using HLn4.out, H0.out⟩
  case round =>
    obtain ⟨last, i, K, c, A, done, rfl, rfl, rfl, hK, hI⟩ := hrel
    have HI := Lib.hid hI
    have HK := Lib.hid hK
    have hlow := hI.low
    have hhigh := hI.high
    rw [HD.out] at hhigh
    have hKl : K ≤ 117440540 := by have h1 := hI.len Hm.out; have h2 := HLn4.out; rw [List.length_append] at hK; omega
    have HAr := Lib.hid (HA.out.later hI.fr (by simp))
    have HBr := Lib.hid (HB.out.later hI.fr (by simp))
    have hsr : s ≤ wr.heap.size := by rw [← hs]; exact hI.fr.size
    clear hI hK H0 HAp4
    by_cases hlt : i < N
    · have hlt' : (i : Int) < N := by omega
      have hat := HAt.out i
      have HCa := Lib.hid (refat_any wr R n1 c1 i a HN1.out HAr.out)
      have HCb := Lib.hid (refat_any wr S n2 c2 i b HN2.out HBr.out)
      obtain ⟨x, hx⟩ : ∃ x, at0 a i = x := ⟨_, rfl⟩
      obtain ⟨y, hy⟩ : ∃ y, at0 b i = y := ⟨_, rfl⟩
      rw [hx] at HCa hat
      rw [hy] at HCb hat
      obtain ⟨n, hn⟩ : ∃ n, (lead (m.drop i)).length = n := ⟨_, rfl⟩
      have hnle : n ≤ N - i := by have := lead_le (m.drop i); rw [hn, List.length_drop, HD.out] at this; exact this
      have Hn := Lib.hid hn
      clear hx hy hn
      by_cases hxy : x = y
      · subst hxy
        have hn0 : n = 0 := by
          by_cases h0 : n = 0
          · exact h0
          · exfalso
            have := lead_in (m.drop i) n 0 Hn.out (by omega)
            rw [at0_drop, Nat.add_zero, hat] at this
            exact this (by simp)
        subst hn0
        have HSt := Lib.hid (hk_step0 (i - last) m i (by rw [HD.out]; exact hlt) Hn.out)
        clear hat
        go_wp2_with fail
        refine HCa.out.mono ?_
        rintro e w5 ⟨rfl, rfl⟩
        go_wp2_with fail
        refine HCb.out.mono ?_
        rintro e w5' ⟨rfl, rfl⟩
        go_wp2
        go_roundw
        case rel =>
          refine ⟨last, i + 1, K, c, A, done, rfl, rfl, by go_num, HK.out, ⟨?_, by omega, by rw [HD.out]; omega, HI.out.out, HI.out.fr⟩⟩
          rw [HI.out.split, HSt.out]
          congr 2
          omega
        case measure => simp [intOf]; omega
      · have hxy' : ((x.toNat : Int) == (y.toNat : Int)) = false := by simp; intro h; exact hxy (UInt8.toNat_inj.1 (by omega))
        have hn0 : 0 < n := by
          by_cases h0 : n = 0
          · exfalso
            have := lead_end (m.drop i) n Hn.out
            rw [h0, at0_drop, Nat.add_zero, hat] at this
            exact hxy (xor_zero this)
          · omega
        have HSt := Lib.hid (hk_step (i - last) m i n (by rw [HD.out]; exact hlt) Hn.out hn0)
        obtain ⟨sk, hsk⟩ : ∃ sk, i - last = sk := ⟨_, rfl⟩
        rw [hsk] at HSt
        have Hsk := Lib.hid hsk
        have hsk' : (i : Int) - (last : Int) = (sk : Int) := by omega
        have hskm : sk ≤ 16777216 := by omega
        obtain ⟨P, hP⟩ : ∃ P, (Var.putV sk).length = P := ⟨_, rfl⟩
        have hP5 : P ≤ 5 := by rw [← hP]; exact Var.putV_le5 (by unfold Var.most; omega)
        have HP := Lib.hid hP
        clear hat hP hsk
        go_wp2_with fail
        refine HCa.out.mono ?_
        rintro e w5 ⟨rfl, rfl⟩
        go_wp2_with fail
        refine HCb.out.mono ?_
        rintro e w5' ⟨rfl, rfl⟩
        go_wp2_with fail
        refine (Var.refPut_any wr sk (by unfold Var.most; omega)).mono ?_
        rintro e w6 ⟨A6, c6, rfl, ho6, hf6⟩
        rw [HP.out] at ho6 ⊢
        have HO6 := Lib.hid ho6
        have HNc6 := Lib.hid (Ref.own_nilcap ho6)
        have HF6 := Lib.hid (HI.out.fr.tr hf6)
        have HAp6 := Lib.hid (HI.out.out.fr hf6 (by simp))
        have hs6 : s ≤ w6.heap.size := Nat.le_trans hsr hf6.size
        clear ho6 hf6
        obtain ⟨L5, hL5⟩ : ∃ L5, L4 ++ done.flatMap hkB = L5 := ⟨_, rfl⟩
        rw [hL5] at HAp6 HK
        go_wp2_with (at_builtin; refine Ips.wpList_ap _ rfl (.tmp 39) (.tmp 44) 22 rfl s i0 Try.underlying22 hi hz0 hz1 hz2 (.slice A K c) L5 rfl HAp6.out A6 P c6 (Var.putV sk) rfl HP.out HO6.out.rd HNc6.out (K + P) (by rw [HK.out]) (by omega) hs6 ?_)
        intro A7 c7 w7 ha7 hf7
        obtain ⟨L7, hL7⟩ : ∃ L7, L7 = L5 ++ Var.putV sk := ⟨_, rfl⟩
        have HAp7 : Hid (Ap w7 s (.slice A7 (K + P) c7) L7) := Lib.hid (hL7 ▸ ha7)
        have HLn7 : Hid (L7.length = K + P) := Lib.hid (by rw [hL7, List.length_append, HK.out, HP.out])
        have HF7 : Hid (Fr [] w w7) := Lib.hid (HF6.out.trans hf7 (by intro k hk; exact .inr (by rw [hs]; exact (HAp6.out.lt k hk).1)))
        have HDone : Hid (L7 ++ (m.drop i).take n ++ [0] = L4 ++ (done ++ [Hk.mk sk ((m.drop i).take n)]).flatMap hkB) := Lib.hid (by rw [hL7, ← hL5]; simp [hkB, List.flatMap_append, List.append_assoc])
        clear ha7 hf7 HAp6 HO6 hL5 hL7 HCa HCb
        go_wp2_with fail
        go_loopw [5, 8] (fun o ii W => ∃ (j c : Nat) (A : Option Addr), j ≤ n ∧ o = .slice A (K + P + j) c ∧ ii = .int .i64 ((i + j : Nat) : Int) ∧ Ap W s (.slice A (K + P + j) c) (L7 ++ (m.drop i).take j) ∧ Fr [] w W) (fun _ ii _ => N - (intOf ii).toNat)
        case atStart => exact ⟨0, c7, A7, Nat.zero_le _, rfl, rfl, by simpa using HAp7.out, HF7.out⟩
        case round =>
          obtain ⟨j, c8, A8, hj, rfl, rfl, ha8, hf8⟩ := hrel
          have HAp8 := Lib.hid ha8
          have HF8 := Lib.hid hf8
          have HLn8 : Hid ((L7 ++ (m.drop i).take j).length = K + P + j) := Lib.hid (by rw [List.length_append, HLn7.out, List.length_take, List.length_drop, HD.out]; omega)
          obtain ⟨p, hp⟩ : ∃ p, i + j = p := ⟨_, rfl⟩
          have Hp := Lib.hid hp
          have hpb : p ≤ N := by omega
          have hip : i ≤ p := by omega
          rw [hp]
          have hs8 : s ≤ wr.heap.size := by rw [← hs]; exact hf8.size
          have HAr8 := Lib.hid (HA.out.later hf8 (by simp))
          have HBr8 := Lib.hid (HB.out.later hf8 (by simp))
          have hat := HAt.out p
          have hmj : at0 (m.drop i) j = at0 m p := by rw [at0_drop, hp]
          obtain ⟨x2, hx2⟩ : ∃ x2, at0 a p = x2 := ⟨_, rfl⟩
          obtain ⟨y2, hy2⟩ : ∃ y2, at0 b p = y2 := ⟨_, rfl⟩
          have HCa : Hid (∀ W, Fr [] wr W → Calls Try.prog 18 #[.slice R n1 c1, .int .i64 (p : Int)] W fun e w' => e = .returned (.int .u8 (x2.toNat : Int)) ∧ W = w') := Lib.hid fun W hW => by rw [← hx2]; exact refat_any W R n1 c1 p a HN1.out (HAr8.out.later hW (by simp))
          have HCb : Hid (∀ W, Fr [] wr W → Calls Try.prog 18 #[.slice S n2 c2, .int .i64 (p : Int)] W fun e w' => e = .returned (.int .u8 (y2.toNat : Int)) ∧ W = w') := Lib.hid fun W hW => by rw [← hy2]; exact refat_any W S n2 c2 p b HN2.out (HBr8.out.later hW (by simp))
          rw [hx2, hy2] at hat
          have hx28 := x2.toNat_lt
          have hy28 := y2.toNat_lt
          by_cases hjn : j < n
          · have hpN : (p : Int) < N := by omega
            have hne := lead_in (m.drop i) n j Hn.out hjn
            rw [hmj, hat] at hne
            have hxy2 : ¬ x2 = y2 := by rintro rfl; exact hne (by simp)
            have hxy2' : ((x2.toNat : Int) != (y2.toNat : Int)) = true := by simp; intro h; exact hxy2 (UInt8.toNat_inj.1 (by omega))
            have HXor := Lib.hid (xor_byte x2 y2)
            have HSn : Hid ((m.drop i).take (j + 1) = (m.drop i).take j ++ [x2 ^^^ y2]) := Lib.hid (by
              rw [take_snoc (m.drop i) j (by rw [List.length_drop, HD.out]; omega), ← hat, ← hmj, at0_lt])
            clear hne hat hmj hx2 hy2 ha8 hf8 hp
            go_wp2_with fail
            refine (HCa.out _ (Fr.refl [] _)).mono ?_
            rintro e w9 ⟨rfl, rfl⟩
            go_wp2_with fail
            refine (HCb.out _ (Fr.refl [] _)).mono ?_
            rintro e w9 ⟨rfl, rfl⟩
            go_wp2_with fail
            refine (HCa.out _ (Fr.refl [] _)).mono ?_
            rintro e w9 ⟨rfl, rfl⟩
            go_wp2_with fail
            refine (HCb.out _ (Fr.refl [] _)).mono ?_
            rintro e w9 ⟨rfl, rfl⟩
            go_wp2_with (at_builtin; refine Ips.wpList_ap _ rfl (.tmp 58) (.tmp 66) 22 rfl s i0 Try.underlying22 hi hz0 hz1 hz2 (.slice A8 (K + P + j) c8) (L7 ++ (m.drop i).take j) rfl (HAp8.out.fr ((Fr.refl [] wr).alloc _) (by simp)) (some ⟨wr.heap.size, 0, none⟩) 1 1 [x2 ^^^ y2] rfl rfl (rd_one' wr _ (x2 ^^^ y2) HXor.out) (by simp) (K + P + j + 1) (by rw [HLn8.out]) (by omega) (by simp; omega) ?_)
            intro A9 c9 w9 ha9 hf9
            have HAp9 : Hid (Ap w9 s (.slice A9 (K + P + (j + 1)) c9) (L7 ++ (m.drop i).take (j + 1))) := Lib.hid (by rw [HSn.out]; exact ha9)
            have HF9 : Hid (Fr [] w w9) := Lib.hid ((HF8.out.alloc _).trans hf9 (by intro k hk; exact .inr (by rw [hs]; exact (HAp8.out.lt k hk).1)))
            clear ha9 hf9
            go_wp2
            go_roundw
            case rel => exact ⟨j + 1, c9, A9, by omega, rfl, by rw [← Nat.add_assoc, Hp.out]; go_num, HAp9.out, HF9.out⟩
            case measure => simp [intOf]; omega
          · obtain rfl : j = n := by omega
            have hend := lead_end (m.drop i) j Hn.out
            rw [hmj, hat] at hend
            have hxy2 := xor_zero hend
            subst hxy2
            clear hat hmj hx2 hy2 ha8 hf8 hp hend
            by_cases hpN : p < N
            · have hpN' : (p : Int) < N := by omega
              go_wp2_with fail
              refine (HCa.out _ (Fr.refl [] _)).mono ?_
              rintro e w9 ⟨rfl, rfl⟩
              go_wp2_with fail
              refine (HCb.out _ (Fr.refl [] _)).mono ?_
              rintro e w9 ⟨rfl, rfl⟩
              go_wp2_with (at_builtin; refine Ips.wpList_ap _ rfl (.tmp 70) (.tmp 71) 22 rfl s i0 Try.underlying22 hi hz0 hz1 hz2 (.slice A8 (K + P + j) c8) (L7 ++ (m.drop i).take j) rfl (HAp8.out.fr ((Fr.refl [] wr).alloc _) (by simp)) (some ⟨wr.heap.size, 0, none⟩) 1 1 [0] rfl rfl (rd_one wr 0) (by simp) (K + P + j + 1) (by rw [HLn8.out]) (by omega) (by simp; omega) ?_)
              intro A9 c9 w9 ha9 hf9
              have HAp9 : Hid (Ap w9 s (.slice A9 (K + P + j + 1) c9) (L4 ++ (done ++ [Hk.mk sk ((m.drop i).take j)]).flatMap hkB)) := Lib.hid (by rw [← HDone.out, List.append_assoc]; exact ha9)
              have HLn9 : Hid ((L4 ++ (done ++ [Hk.mk sk ((m.drop i).take j)]).flatMap hkB).length = K + P + j + 1) := Lib.hid (by rw [← HDone.out, List.length_append, HLn8.out]; rfl)
              have HF9 : Hid (Fr [] w w9) := Lib.hid ((HF8.out.alloc _).trans hf9 (by intro k hk; exact .inr (by rw [hs]; exact (HAp8.out.lt k hk).1)))
              clear ha9 hf9
              go_wp2
              go_roundw
              case rel =>
                refine ⟨p + 1, p + 1, K + P + j + 1, c9, A9, _, rfl, by go_num, by go_num, HLn9.out, ⟨?_, Nat.le_refl _, by rw [HD.out]; omega, HAp9.out, HF9.out⟩⟩
                rw [Nat.sub_self, HI.out.split, Hsk.out, HSt.out, ← Hp.out, List.append_assoc]
                rfl
              case measure => simp [intOf]; omega
            · have hpN' : ¬ (p : Int) < N := by omega
              go_wp2_with (at_builtin; refine Ips.wpList_ap _ rfl (.tmp 70) (.tmp 71) 22 rfl s i0 Try.underlying22 hi hz0 hz1 hz2 (.slice A8 (K + P + j) c8) (L7 ++ (m.drop i).take j) rfl (HAp8.out.fr ((Fr.refl [] wr).alloc _) (by simp)) (some ⟨wr.heap.size, 0, none⟩) 1 1 [0] rfl rfl (rd_one wr 0) (by simp) (K + P + j + 1) (by rw [HLn8.out]) (by omega) (by simp; omega) ?_)
              intro A9 c9 w9 ha9 hf9
              have HAp9 : Hid (Ap w9 s (.slice A9 (K + P + j + 1) c9) (L4 ++ (done ++ [Hk.mk sk ((m.drop i).take j)]).flatMap hkB)) := Lib.hid (by rw [← HDone.out, List.append_assoc]; exact ha9)
              have HLn9 : Hid ((L4 ++ (done ++ [Hk.mk sk ((m.drop i).take j)]).flatMap hkB).length = K + P + j + 1) := Lib.hid (by rw [← HDone.out, List.length_append, HLn8.out]; rfl)
              have HF9 : Hid (Fr [] w w9) := Lib.hid ((HF8.out.alloc _).trans hf9 (by intro k hk; exact .inr (by rw [hs]; exact (HAp8.out.lt k hk).1)))
              clear ha9 hf9
              go_wp2
              go_roundw
              case rel =>
                refine ⟨p + 1, p + 1, K + P + j + 1, c9, A9, _, rfl, by go_num, by go_num, HLn9.out, ⟨?_, Nat.le_refl _, by rw [HD.out]; omega, HAp9.out, HF9.out⟩⟩
                rw [Nat.sub_self, HI.out.split, Hsk.out, HSt.out, ← Hp.out, List.append_assoc]
                rfl
              case measure => simp [intOf]; omega
    · have hlt' : ¬ (i : Int) < N := by omega
      have HE : Hid (L4 ++ (hk 0 m).flatMap hkB = L4 ++ done.flatMap hkB) := Lib.hid (by
        have h1 := HI.out.split
        rw [List.drop_eq_nil_of_le (by rw [HD.out]; omega), hk_nil, List.append_nil] at h1
        rw [h1])
      rw [HE.out] at HBody
      have HO := Lib.hid HI.out.out
      have HFi := Lib.hid HI.out.fr
      clear HI HE
      obtain ⟨L5, hL5⟩ : ∃ L5, L4 ++ done.flatMap hkB = L5 := ⟨_, rfl⟩
      rw [hL5] at HO HK HBody
      clear hL5
      go_wp2_with fail
      refine (Crc.rsum_any wr R n1 c1 a HN1.out HAr.out (by omega)).mono ?_
      rintro e w5 ⟨rfl, rfl⟩
      have HSa : Hid (sum a = Crc.next 0#32 a) := Lib.hid rfl
      have HSb : Hid (sum b = Crc.next 0#32 b) := Lib.hid rfl
      generalize Crc.next 0#32 a = t at *
      have hwt : IntKind.u64.wrap (Crc.u t) = Crc.u t := by have := Crc.u_bounds t; rw [IntKind.wrap_u64]; omega
      rw [HSa.out, HSb.out] at HBody
      go_wp2_with fail
      refine (rput4 wr t).mono ?_
      rintro e w6 ⟨A6, c6, rfl, ho6, hf6⟩
      have HO6 := Lib.hid ho6
      have HNc6 := Lib.hid (Ref.own_nilcap ho6)
      have HF6 := Lib.hid (HFi.out.tr hf6)
      have HAp6 := Lib.hid (HO.out.fr hf6 (by simp))
      have hs6 : s ≤ w6.heap.size := Nat.le_trans hsr hf6.size
      clear ho6 hf6 HO hwt
      go_wp2_with (at_builtin; refine Ips.wpList_ap _ rfl (.tmp 77) (.tmp 81) 22 rfl s i0 Try.underlying22 hi hz0 hz1 hz2 (.slice A K c) L5 rfl HAp6.out A6 4 c6 (le4 t) rfl rfl HO6.out.rd HNc6.out (K + 4) (by rw [HK.out]) (by omega) hs6 ?_)
      intro A7 c7 w7 ha7 hf7
      obtain ⟨L7, hL7⟩ : ∃ L7, L7 = L5 ++ le4 t := ⟨_, rfl⟩
      have HAp7 : Hid (Ap w7 s (.slice A7 (K + 4) c7) L7) := Lib.hid (hL7 ▸ ha7)
      have HLn7 : Hid (L7.length = K + 4) := Lib.hid (by rw [hL7, List.length_append, HK.out, le4_length])
      have HF7 : Hid (Fr [] w w7) := Lib.hid (HF6.out.trans hf7 (by intro k hk; exact .inr (by rw [hs]; exact (HAp6.out.lt k hk).1)))
      rw [← hL7] at HBody
      clear ha7 hf7 HAp6 HO6 hL7
      go_wp2_with fail
      refine (Crc.rsum_any w7 S n2 c2 b HN2.out (HB.out.later HF7.out (by simp)) (by omega)).mono ?_
      rintro e w8 ⟨rfl, rfl⟩
      generalize Crc.next 0#32 b = t2 at *
      have hwt : IntKind.u64.wrap (Crc.u t2) = Crc.u t2 := by have := Crc.u_bounds t2; rw [IntKind.wrap_u64]; omega
      go_wp2_with fail
      refine (rput4 w7 t2).mono ?_
      rintro e w8 ⟨A8, c8, rfl, ho8, hf8⟩
      have HO8 := Lib.hid ho8
      have HNc8 := Lib.hid (Ref.own_nilcap ho8)
      have HF8 := Lib.hid (HF7.out.tr hf8)
      have HAp8 := Lib.hid (HAp7.out.fr hf8 (by simp))
      have hs8 : s ≤ w8.heap.size := by rw [← hs]; exact HF8.out.size
      clear ho8 hf8 hwt HAp7
      go_wp2_with (at_builtin; refine Ips.wpList_ap _ rfl (.tmp 83) (.tmp 87) 22 rfl s i0 Try.underlying22 hi hz0 hz1 hz2 (.slice A7 (K + 4) c7) L7 rfl HAp8.out A8 4 c8 (le4 t2) rfl rfl HO8.out.rd HNc8.out (K + 8) (by rw [HLn7.out]) (by omega) hs8 ?_)
      intro A9 c9 w9 ha9 hf9
      rw [HBody.out] at ha9
      have HF9 : Hid (Fr [] w w9) := Lib.hid (HF8.out.trans hf9 (by intro k hk; exact .inr (by rw [hs]; exact (HAp8.out.lt k hk).1)))
      have HLb : Hid ((body a b).length = K + 8) := Lib.hid (by rw [← HBody.out, List.length_append, HLn7.out, le4_length])
      obtain ⟨Ax, cx, ex, hrd, hnil, -, -⟩ := ha9.slice (by rw [HLb.out]; unfold maxLen; omega)
      injection ex with e1 e2 e3
      subst e1 e3
      have HRd := Lib.hid hrd
      have HNl := Lib.hid hnil
      clear ha9 hf9 hrd hnil e2 HAp8 HO8
      go_wp2_with fail
      refine (refsigned_any w9 A9 (K + 8) c9 (body a b) HLb.out HRd.out HNl.out (by omega)).mono ?_
      rintro e w10 hB
      have HE := Lib.hid (HQ.out w9 e w10 HF9.out hB)
      obtain ⟨A10, c10, rfl, -, -⟩ := hB
      go_wp2
      exact HE.out

end Ups
end Go.Proofs.Ytpbjbmmnncohfaa
