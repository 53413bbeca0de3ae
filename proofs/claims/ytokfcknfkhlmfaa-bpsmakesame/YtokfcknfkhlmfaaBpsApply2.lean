/-
  Contract of bps' Apply, of a patch that was put together of actions and an input that fits.
-/
import Derived.Test.YtokfcknfkhlmfaaM1
namespace Go.Proofs.Ytokfcknfkhlmfaa
open Go.RowKit
namespace Bps
open Acts (ActRd)
open Ups (sum)

theorem _root_.Go.Proofs.Ytokfcknfkhlmfaa.Own.slice_rd {w w' : World} {B n c : Nat} {A : Option Addr} {l : List UInt8} (h : Own w B (.slice A n c) l) (hf : Fr [] w w') : Rd w' A l := (h.fr hf (by simp)).rd

set_option maxRecDepth 100000 in
set_option maxHeartbeats 2000000 in
theorem apply_fits (w : World) (R S : Option Addr) (n c m d : Nat) (P : Pat) (x : List UInt8) (hP : Fine P) (hn : P.whole.length = n) (hr : Rd w R P.whole) (hc : n ≤ c) (hc2 : c ≤ maxLen) (hm : x.length = m) (hx : Rd w S x) (hmx : m ≤ 16777216) (hSn : S = none → d = 0) (hd : m ≤ d) (hd2 : d ≤ maxLen) (hfit : x.length = P.i ∧ sum x = P.s1) :
    Calls Try.prog 10 #[.slice R n c, .slice S m d] w (AppliedB w (applyR P.i P.s1 P.s2 P.L x)) := by
  have HX := Lib.hid hx
  have HM := Lib.hid hm
  have HPa := Lib.hid (parse_made w R n c P hP hn hr hc hc2)
  have e1 : ¬ (16777216 : Int) < m := by omega
  obtain ⟨Z, hZ⟩ : ∃ Z, applyR P.i P.s1 P.s2 P.L x = Z := ⟨_, rfl⟩
  have HZ := Lib.hid hZ
  rw [hZ]
  rw [hm] at hfit
  have Hfit := Lib.hid hfit
  have HSn := Lib.hid hSn
  have Hd := Lib.hid hd
  have Hd2 := Lib.hid hd2
  have Hok := Lib.hid hP.ok
  have Htot := Lib.hid hP.tot
  have ho := hP.o
  clear hr hx hn hm hP hfit hZ hSn hd hd2
  unfold Parsed at HPa
  obtain ⟨i, oo, s1, s2, mt, L⟩ := P
  simp only at HPa Hfit HZ Hok Htot ho
  have him := Hfit.out.1
  subst him
  have HSx : Hid (Crc.next 0#32 x = s1) := Lib.hid Hfit.out.2
  have hLl : L.length ≤ 16777216 := by
    have := total_ge L (fun a ha => (Hok.out a ha).pos)
    rw [Htot.out] at this
    omega
  obtain ⟨i0, hi, hz0, hz1, hz2⟩ := info_parts info5
  go_enter Try.func10, Try.ntmps10
  go_wp2_with fail
  refine HPa.out.mono ?_
  rintro e w1 ⟨gm, AL, cL, rfl, hrd, hlc, hf1⟩
  have HF1 := Lib.hid (hf1.alloc (.cells #[.int .i64 (m : Int), .int .i64 (oo : Int), .int .u32 (Crc.u s1), .int .u32 (Crc.u s2), .slice (some ⟨gm, 0, none⟩) mt.length mt.length, .slice AL L.length cL] 70))
  have HRd := Lib.hid (hrd.later ((Fr.refl [] w1).alloc (.cells #[.int .i64 (m : Int), .int .i64 (oo : Int), .int .u32 (Crc.u s1), .int .u32 (Crc.u s2), .slice (some ⟨gm, 0, none⟩) mt.length mt.length, .slice AL L.length cL] 70)) (by simp))
  have hb1 := Blk.fresh w1 70 #[.int .i64 (m : Int), .int .i64 (oo : Int), .int .u32 (Crc.u s1), .int .u32 (Crc.u s2), .slice (some ⟨gm, 0, none⟩) mt.length mt.length, .slice AL L.length cL]
  obtain ⟨bq, hbq⟩ : ∃ bq, w1.heap.size = bq := ⟨_, rfl⟩
  rw [hbq] at hb1
  have HB1 := Lib.hid hb1
  clear hf1 HPa hb1 hrd
  go_upto_region 6 with fail
  generalize w1.alloc _ = w2 at *
  obtain ⟨y0, y1, y2, y3, y4, y5⟩ := blk6 HB1.out
  go_cut [35] (fun s35 wx => s35 = .bool false ∧ Fr [] w2 wx)
  case first =>
    go_region_law (go_simp; go_at_call 27; (with_reducible refine (Crc.sum_any _ S m d x HM.out (HX.out.later (HF1.out.drew) (by simp)) (by omega)).mono ?_); rintro e w3 ⟨rfl, hf3⟩; rw [HSx.out]; have hb3 := HB1.out.fr ((Fr.refl [] w2).drew.tr hf3) (by simp); obtain ⟨x0, x1, x2, x3, x4, x5⟩ := blk6 hb3; have HF3 : Hid (Fr [] w2 w3) := Lib.hid ((Fr.refl [] w2).drew.tr hf3); clear hf3 hb3)
    all_goals
      go_wp2_with fail
      go_meet
      exact ⟨by simp, HF3.out⟩
  case rest =>
    obtain ⟨rfl, hf3⟩ := hcut
    have HF3 := Lib.hid (HF1.out.tr hf3)
    have HRd3 := Lib.hid (HRd.out.later hf3 (by simp))
    have hb3 := HB1.out.fr hf3 (by simp)
    obtain ⟨x0, x1, x2, x3, x4, x5⟩ := blk6 hb3
    have HB3 := Lib.hid hb3
    have HX3 := Lib.hid (HX.out.later HF3.out (by simp))
    clear hf3 hb3 y0 y1 y2 y3 y4 y5 HB1 HF1 HRd
    generalize wc = w3 at *
    go_wp2_with (at_make; refine Mk.wpList_makeB _ rfl _ _ 22 rfl w3.heap.size i0 Try.underlying22 hi hz0 hz1 hz2 _ _ 0 oo rfl rfl (Nat.zero_le _) (by omega) (Nat.le_refl _) ?_)
    intro w4 ho4 hf4
    have hb4 := HB3.out.fr hf4 (by simp)
    have HB4 := Lib.hid hb4
    have HO4 := Lib.hid ho4
    have HF4 := Lib.hid hf4
    have hq4 : bq < w3.heap.size := HB3.out.lt
    obtain ⟨p, hp⟩ : ∃ p, w4.heap.size = p := ⟨_, rfl⟩
    have hn5 := Blk.fresh w4 75 #[.slice S m d, .slice (some ⟨w3.heap.size, 0, none⟩) 0 oo, .int .i64 0, .int .i64 0]
    rw [hp] at hn5
    have hal : Fr [] w4 (w4.alloc (.cells #[.slice S m d, .slice (some ⟨w3.heap.size, 0, none⟩) 0 oo, .int .i64 0, .int .i64 0] 75)) := (Fr.refl [] w4).alloc _
    have HMk : Hid (Mkr w3 (w4.alloc (.cells #[.slice S m d, .slice (some ⟨w3.heap.size, 0, none⟩) 0 oo, .int .i64 0, .int .i64 0] 75)) p S m d [] 0 0) := Lib.hid ⟨some ⟨w3.heap.size, 0, none⟩, oo, hn5, ho4.fr hal (by simp), by rw [← hp]; exact hf4.size, hf4.tr hal⟩
    clear ho4 hf4 hn5 hal hb4 HO4 HF4 x0 x1 x2 x3 x4 x5
    go_wp2_with fail
    generalize w4.alloc _ = w5 at *
    refine (deeds_any w5 p).mono ?_
    rintro e w6 ⟨rfl, hf6⟩
    have hal6 : Fr [] w6 (w6.alloc (.cells (deedsV p) 80)) := (Fr.refl [] w6).alloc _
    have hn7 := Blk.fresh w6 80 (deedsV p)
    have HMk7 := Lib.hid ((HMk.out.later hf6).later hal6)
    obtain ⟨bd, hbd⟩ : ∃ bd, w6.heap.size = bd := ⟨_, rfl⟩
    rw [hbd] at hn7
    have hbdp : p < bd := by rw [← hbd]; exact (HMk.out.later hf6).lt.2
    have HN7 := Lib.hid hn7
    have hb7 := HB3.out.fr HMk7.out.fr0 (by simp)
    obtain ⟨x0, x1, x2, x3, x4, x5⟩ := blk6 hb7
    unfold deedsV metV at HN7 HMk7 hb7 x0 x1 x2 x3 x4 x5 ⊢
    clear hf6 hal6 hn7 hb7 HMk HB4
    go_wp2_with fail
    generalize w6.alloc _ = w7 at *
    clear hbd x0 x1 x2 x3 x4 x5
    go_loopw [47] (fun i wr => ∃ (j : Nat) (st : St), j ≤ L.length ∧ i = .int .i64 (j : Int) ∧ acts x (L.take j) ⟨[], 0, 0⟩ = some st ∧ Mkr w3 wr p S m d st.out st.s st.t ∧ Blk wr bd 80 (deedsV p)) (fun i _ => L.length - (intOf i).toNat)
    case atStart => exact ⟨0, ⟨[], 0, 0⟩, Nat.zero_le _, rfl, rfl, HMk7.out, HN7.out⟩
    case round =>
      obtain ⟨j, st, hj, rfl, hac, hM, hN⟩ := hrel
      have HAc := Lib.hid hac
      have HMr := Lib.hid hM
      have HNr := Lib.hid hN
      clear hac hM hN HMk7 HN7
      by_cases hlt : j < L.length
      · obtain ⟨b, o, rfl, hcell⟩ := (HRd3.out.later HMr.out.fr0 (by simp)) (by omega)
        obtain ⟨D, cD, k0, k1, k2, k3, hD, hDn, hDc, hDm⟩ := hcell j hlt
        have hD3 : Rd w3 D L[j].data := by
          obtain ⟨b', o', e, hcell'⟩ := HRd3.out (by omega)
          cases e
          obtain ⟨D', cD', k0', k1', k2', k3', hD', _⟩ := hcell' j hlt
          have := HMr.out.fr0.cell k3' (by simp)
          rw [k3] at this
          cases this
          exact hD'
        have ha := Hok.out L[j] (List.getElem_mem hlt)
        have hst := acts_step x L j hlt ⟨[], 0, 0⟩ st HAc.out
        have hbd1 := acts_bound (l := L.take j) (fun a h => Hok.out a (List.mem_of_mem_take h)) HAc.out 0 (by simp) (by simp) (by simp) (by simp)
        have hjl : (L.take j).length = j := by rw [List.length_take]; omega
        rw [hjl] at hbd1
        have hol : st.out.length + L[j].len ≤ 16777216 := by
          have h1 := acts_length HAc.out
          have h2 := total_take L (j + 1)
          rw [List.take_succ_eq_append_getElem hlt, total_append] at h2
          simp only [total, List.length_nil] at h1 h2
          rw [Htot.out] at h2
          omega
        obtain ⟨a, haa⟩ : ∃ a, L[j] = a := ⟨_, rfl⟩
        rw [haa] at k0 k1 k2 k3 hD hDc hD3 ha hst hol
        have HDo := Lib.hid fun W (hW : Mkr w3 W p S m d st.out st.s st.t) => do_any w3 W p S m d x st a D cD hW ha HM.out HX3.out HSn.out Hd.out Hd2.out hD3 hDn hDc hDm (by omega) (by omega) (by omega) (by omega) (by rw [HM.out]; exact hmx) hol
        have hk4 := ha.kind
        have Hst := Lib.hid hst
        have hji : (j : Int) < L.length := by omega
        unfold actA metV at HDo
        obtain ⟨kd, hkd⟩ : ∃ kd, a.kind = kd := ⟨_, rfl⟩
        have Hkd := Lib.hid hkd
        rw [hkd] at k0 hk4 HDo
        clear hD hDn hDc hDm hD3 ha hst hbd1 hjl hol haa hkd hcell
        go_upto_region 13 with fail
        have hal : Fr [] wr (wr.alloc (.cells #[.int .i64 (kd : Int), .int .i64 (a.len : Int), .int .i64 a.move, .slice D a.data.length cD] 82)) := (Fr.refl [] wr).alloc _
        have hn8 := Blk.fresh wr 82 #[.int .i64 (kd : Int), .int .i64 (a.len : Int), .int .i64 a.move, .slice D a.data.length cD]
        obtain ⟨b11, hb11⟩ : ∃ b11, wr.heap.size = b11 := ⟨_, rfl⟩
        rw [hb11] at hn8 ⊢
        have HM8 := Lib.hid (HMr.out.later hal)
        have hN8 := HNr.out.fr hal (by simp)
        have HN8 := Lib.hid hN8
        generalize wr.alloc (.cells #[.int .i64 (kd : Int), .int .i64 (a.len : Int), .int .i64 a.move, .slice D a.data.length cD] 82) = w8 at *
        obtain ⟨⟨d0, d1, d2, d3⟩, d4, d5, d6, d7⟩ := blk8 hN8
        unfold metV at d0 d1 d2 d3 d4 d5 d6 d7
        obtain ⟨v0, v1, v2, v3⟩ := blk4 hn8
        clear hn8 hal hN8 k0 k1 k2 k3 HNr HMr hb11
        cases hR : act1 x a st with
        | none =>
          have HC : Hid (∀ W, Mkr w3 W p S m d st.out st.s st.t → Calls Try.prog 29 #[.pointer (some ⟨p, 0, none⟩), .agg #[.func (.func (fromF kd)) #[.pointer (some ⟨p, 0, none⟩)] #[], .func (.func (bytesF kd)) #[.pointer (some ⟨p, 0, none⟩)] #[]], .agg #[.int .i64 (kd : Int), .int .i64 (a.len : Int), .int .i64 a.move, .slice D a.data.length cD]] W fun e w' => e = .returned (.int .i64 5) ∧ Fr [] w3 w') := Lib.hid (by
            intro W hW
            refine (HDo.out W hW).mono ?_
            rintro e w' ⟨_, h2⟩
            exact h2 hR)
          have HE : Hid (Z = (5, [])) := Lib.hid (by
            rw [← HZ.out]
            refine applyR_none ⟨HM.out, Hfit.out.2⟩ ?_
            unfold makeA
            rw [acts_none_take x L _ (j + 1) (by rw [Hst.out, hR])]
            rfl)
          clear hR HDo
          rcases (by omega : kd = 0 ∨ kd = 1 ∨ kd = 2 ∨ kd = 3) with rfl | rfl | rfl | rfl
          all_goals
            go_region_law (go_simp; go_at_call 29; refine (HC.out _ (HM8.out.later ((Fr.refl [] _).drew))).mono ?_; rintro e w9 ⟨rfl, hf9⟩; have HF9 := Lib.hid hf9; clear hf9)
            all_goals
              go_wp2
              go_ret2
              rw [HE.out]
              exact applied_fail w _ 5 (HF3.out.tr HF9.out)
        | some st2 =>
          have HC : Hid (∀ W, Mkr w3 W p S m d st.out st.s st.t → Calls Try.prog 29 #[.pointer (some ⟨p, 0, none⟩), .agg #[.func (.func (fromF kd)) #[.pointer (some ⟨p, 0, none⟩)] #[], .func (.func (bytesF kd)) #[.pointer (some ⟨p, 0, none⟩)] #[]], .agg #[.int .i64 (kd : Int), .int .i64 (a.len : Int), .int .i64 a.move, .slice D a.data.length cD]] W fun e w' => e = .returned (.int .i64 0) ∧ Mkr w3 w' p S m d st2.out st2.s st2.t ∧ Keeps p W w') := Lib.hid (by
            intro W hW
            refine (HDo.out W hW).mono ?_
            rintro e w' ⟨h1, _⟩
            exact h1 st2 hR)
          rw [hR] at Hst
          clear hR HDo
          rcases (by omega : kd = 0 ∨ kd = 1 ∨ kd = 2 ∨ kd = 3) with rfl | rfl | rfl | rfl
          all_goals
            go_region_law (go_simp; go_at_call 29; refine (HC.out _ (HM8.out.later ((Fr.refl [] _).drew))).mono ?_; rintro e w9 ⟨rfl, hM9, hK9⟩; have HM9 := Lib.hid hM9; have HK9 := Lib.hid hK9; clear hM9 hK9)
            all_goals
              go_wp2
              go_roundw
              case rel => exact ⟨j + 1, st2, by omega, by go_num, Hst.out, HM9.out, HK9.out bd _ _ (HN8.out.fr ((Fr.refl [] _).drew) (by simp)) (by omega) (by decide)⟩
              case measure => simp [intOf]; omega
      · obtain rfl : j = L.length := by omega
        have hall := HAc.out
        rw [List.take_length] at hall
        have HMa : Hid (makeA L x = some st.out) := Lib.hid (by unfold makeA; rw [hall]; rfl)
        obtain ⟨A, cA, hK, hO, hp0, hfr⟩ := HMr.out
        obtain ⟨k0, k1, k2, k3⟩ := blk4 hK
        have hb9 := HB3.out.fr hfr (by simp)
        obtain ⟨x0, x1, x2, x3, x4, x5⟩ := blk6 hb9
        have hol : st.out.length ≤ 16777216 := by
          have h1 := acts_length hall
          rw [Htot.out] at h1
          simp at h1
          omega
        obtain ⟨N, hN⟩ : ∃ N, st.out.length = N := ⟨_, rfl⟩
        rw [hN] at k1 hol
        have HNn := Lib.hid hN
        have HO := Lib.hid hO
        have HK := Lib.hid hK
        have HB9 := Lib.hid hb9
        have HFr := Lib.hid hfr
        obtain ⟨Y, hY⟩ : ∃ Y, Crc.next 0#32 st.out = Y := ⟨_, rfl⟩
        have HY := Lib.hid hY
        have hji : ¬ (L.length : Int) < L.length := by omega
        clear hall hK hO hfr hb9 hN hY
        by_cases hs2 : Y = s2
        · have HE : Hid (Z = (0, st.out)) := Lib.hid (by rw [← HZ.out]; exact applyR_ok ⟨HM.out, Hfit.out.2⟩ HMa.out (by unfold sum; rw [HY.out, hs2]))
          have hne : (Crc.u Y != Crc.u s2) = false := by simp [hs2]
          go_upto_region 17 with fail
          go_region_law (go_simp; go_at_call 27; refine (Crc.sum_any _ A N cA st.out HNn.out (HO.out.slice_rd ((Fr.refl [] wr).drew)) (by omega)).mono ?_; rintro e w9 ⟨rfl, hf9⟩; rw [HY.out]; have hf9' := ((Fr.refl [] wr).drew).tr hf9; have hb10 := HB9.out.fr hf9' (by simp); obtain ⟨z0, z1, z2, z3, z4, z5⟩ := blk6 hb10; have hk10 := HK.out.fr hf9' (by simp); obtain ⟨q0, q1, q2, q3⟩ := blk4 hk10; have HO9 := Lib.hid (HO.out.fr hf9' (by simp)); have HF9 := Lib.hid (HFr.out.tr hf9'); clear hf9 hf9' hb10 hk10)
          all_goals
            go_wp2
            go_ret2
            rw [HE.out]
            refine ⟨A, cA, ?_, ?_, HF3.out.tr HF9.out⟩
            · simp [HNn.out]
            · have := HO9.out.base (B' := w.heap.size) HF3.out.size
              simpa using this
        · have HE : Hid (Z = (5, [])) := Lib.hid (by rw [← HZ.out]; exact applyR_bad ⟨HM.out, Hfit.out.2⟩ HMa.out (by unfold sum; rw [HY.out]; exact hs2))
          have hne : (Crc.u Y != Crc.u s2) = true := by simp; exact fun h => hs2 (Crc.u_inj h)
          go_upto_region 17 with fail
          go_region_law (go_simp; go_at_call 27; refine (Crc.sum_any _ A N cA st.out HNn.out (HO.out.slice_rd ((Fr.refl [] wr).drew)) (by omega)).mono ?_; rintro e w9 ⟨rfl, hf9⟩; rw [HY.out]; have hf9' := ((Fr.refl [] wr).drew).tr hf9; have hb10 := HB9.out.fr hf9' (by simp); obtain ⟨z0, z1, z2, z3, z4, z5⟩ := blk6 hb10; have HF9 := Lib.hid (HFr.out.tr hf9'); clear hf9 hf9' hb10)
          all_goals
            go_wp2
            go_ret2
            rw [HE.out]
            exact applied_fail w _ 5 (HF3.out.tr HF9.out)

end Bps
end Go.Proofs.Ytokfcknfkhlmfaa
