/-
  picklocklaw12.GbmapPlays returns true for every input. No condition.
-/
import Derived.Test.YtglnpgdigdfjiaaGmShown
import Derived.Test.YtglnpgdigdfjiaaGmBits
import Derived.Test.YtglnpgdigdfjiaaGmSame
namespace Go.Proofs.Ytglnpgdigdfjiaa
open Go.RowKit
namespace Gm

set_option maxRecDepth 100000 in
set_option maxHeartbeats 4000000 in
theorem plays_walk (kd rom ram : Int) (A : Option Addr) (n c : Nat) (zs : List Raw) (D : Option Addr) (d cd : Nat) (ys : List Int) (w : World) (hl : zs.length = n) (hz : OpsIn w A zs) (_hc : n ≤ c) (_hm : c ≤ maxLen) (hyl : ys.length = d) (hy : AsksIn w D ys) (_hdc : d ≤ cd) (_hdm : cd ≤ maxLen) :
    Calls Try.prog 3 #[.agg #[.int .i64 kd, .int .i64 rom, .int .i64 ram], .slice A n c, .slice D d cd] w fun e w' => e = .returned (.bool true) ∧ Below w.heap.size w w' := by
  have HZ := Lib.hid hz
  have HL := Lib.hid hl
  have HY := Lib.hid hy
  have HYL := Lib.hid hyl
  obtain ⟨z, hzz⟩ : ∃ z, w.heap.size = z := ⟨_, rfl⟩
  have hbx := Blk.fresh w 23 #[.int .i64 kd, .int .i64 rom, .int .i64 ram]
  have hfx : Fr [] w (w.alloc (.cells #[.int .i64 kd, .int .i64 rom, .int .i64 ram] 23)) := (Fr.refl [] w).alloc _
  rw [hzz] at hbx
  have HB := Lib.hid hbx
  have HF := Lib.hid hfx
  clear hz hl hy hyl hbx hfx
  go_enter Try.func3, Try.ntmps3
  go_upto_region 1 with fail
  clear hzz
  generalize w.alloc _ = w0 at *
  go_wp2_with fail
  (with_reducible refine (shown12 w0).mono ?_)
  rintro e w1 ⟨rfl, hf1⟩
  have HF1 := Lib.hid (HF.out.tr hf1)
  have HB1 := Lib.hid (HB.out.fr hf1 (by simp))
  have hb1 := HB1.out
  have c0 := hb1.cell 0
  have c1 := hb1.cell 1
  have c2 := hb1.cell 2
  simp at c0 c1 c2
  clear hf1 hb1 HF HB
  go_wp2_with fail
  (with_reducible refine (made_any w1 kd rom ram).mono ?_)
  rintro e w2 ⟨p, q, rfl, hp, hr, hf2, hg1, hg2⟩
  have hO := cartS_ok kd rom ram
  generalize cartS kd rom ram = S0 at *
  have HP := Lib.hid hp
  have HR := Lib.hid hr
  have HO := Lib.hid hO
  have HF2 : Hid (Fr [] w w2) := Lib.hid (HF1.out.tr hf2)
  have HG : Hid (w.heap.size ≤ p ∧ w.heap.size ≤ q) := Lib.hid ⟨Nat.le_trans HF1.out.size hg1, Nat.le_trans HF1.out.size hg2⟩
  have HNe : Hid (p ≠ q) := Lib.hid (hp.other hr)
  clear hp hr hO hf2 hg1 hg2 c0 c1 c2 HF1 HB1
  go_wp2_with fail
  go_loopw [10] (fun s10 wr => ∃ (i : Nat) (S : St), s10 = .int .i64 (i : Int) ∧ i ≤ n ∧ ProgAt wr p S ∧ RefAt wr q S ∧ Ok S ∧ Fr [p, q] w2 wr) (fun s10 _ => n - (intOf s10).toNat)
  case atStart => exact ⟨0, S0, rfl, Nat.zero_le _, HP.out, HR.out, HO.out, Fr.refl _ _⟩
  case round =>
    obtain ⟨i, S, rfl, hin, hp, hr, hO, hf⟩ := hrel
    have HPr := Lib.hid hp
    have HRr := Lib.hid hr
    have HOr := Lib.hid hO
    have HFr := Lib.hid hf
    have hi0 : (0 : Int) ≤ i := by omega
    clear hp hr hO hf HP HR HO
    rcases (show (i < n ∧ i < 100) ∨ (¬ i < n) ∨ (i < n ∧ ¬ i < 100) by omega) with ⟨h1, h2⟩ | h1 | ⟨h1, h2⟩
    · have h1' : (i : Int) < n := by omega
      have h2' : (i : Int) < 100 := by omega
      obtain ⟨b, o, av, vv, rfl, q2, q3, hA, hV⟩ := op_at HZ.out (HF2.out.nil.tr HFr.out) (by simp; exact HG.out) i (by rw [HL.out]; exact h1)
      have HV := Lib.hid hV
      have HA := Lib.hid hA
      obtain ⟨hA0, hA1⟩ := hA
      have HLt := Lib.hid h1
      have HC : Hid (∀ W, Fr [p, q] wr W → W.cell? ⟨b, o + i * 2, none⟩ = some (.int .u16 av) ∧ W.cell? ⟨b, o + i * 2 + 1, none⟩ = some (.int .u8 vv)) := Lib.hid (by
        have hb : b ∉ [p, q] := by
          intro hm
          obtain ⟨b2, o2, e2, hc⟩ := HZ.out (by rw [HL.out]; omega)
          cases e2
          have h4 := World.block_lt_of_cell? w _ (hc 0 (by rw [HL.out]; omega)).1
          have h5 : w.heap.size ≤ b := by
            simp at hm
            rcases hm with rfl | rfl
            · exact HG.out.1
            · exact HG.out.2
          exact absurd h5 (by simpa using h4)
        exact fun W hW => ⟨hW.cell q2 hb, hW.cell q3 hb⟩)
      clear hV
      go_upto_region 8 with fail
      go_still_tail 11, (by kernel_rfl)
      repeat still_step
      change wpList _ _ _ _ _ wr.drew
      have HPd : Hid (ProgAt wr.drew p S) := HPr
      have HRd : Hid (RefAt wr.drew q S) := HRr
      have HFd : Hid (Fr [p, q] w2 wr.drew) := Lib.hid HFr.out.drew
      have HFs : Hid (Fr [p, q] wr wr.drew) := Lib.hid (Fr.refl _ _).drew
      clear q2 q3 HPr HRr HFr
      generalize wr.drew = w4 at *
      go_wp2_with fail
      (with_reducible refine (pwrite_any w4 p S av vv HPd.out HOr.out hA0 hA1 HV.out).mono ?_)
      rintro e w5 ⟨rfl, hp5, hf5⟩
      have HP5 := Lib.hid hp5
      have HR5 := Lib.hid (HRd.out.fr hf5 (by simp; exact fun e => HNe.out e.symm))
      have HF5 : Hid (Fr [p, q] w2 w5) := Lib.hid (HFd.out.tr (hf5.sub (by simp)))
      have HFs5 : Hid (Fr [p, q] wr w5) := Lib.hid (HFs.out.tr (hf5.sub (by simp)))
      obtain ⟨q2, q3⟩ := HC.out w5 HFs5.out
      clear hp5 hf5 HPd HRd HFd HFs
      go_upto_region 9 with fail
      go_still_tail 11, (by kernel_rfl)
      repeat still_step
      change wpList _ _ _ _ _ w5.drew
      have HPd : Hid (ProgAt w5.drew p (Gm.wr S av vv)) := HP5
      have HRd : Hid (RefAt w5.drew q S) := HR5
      have HFd : Hid (Fr [p, q] w2 w5.drew) := Lib.hid HF5.out.drew
      have HFs6 : Hid (Fr [p, q] wr w5.drew) := Lib.hid HFs5.out.drew
      clear q2 q3 HP5 HR5 HF5 HFs5
      generalize w5.drew = w6 at *
      go_wp2_with fail
      (with_reducible refine (rwrite_any w6 q S av vv HRd.out HOr.out hA0 hA1 HV.out).mono ?_)
      rintro e wt ⟨rfl, hr7, hf7⟩
      obtain ⟨T, hT⟩ : ∃ T, Gm.wr S av vv = T := ⟨_, rfl⟩
      have hOt := ok_wr S av vv HOr.out HV.out
      rw [hT] at hr7 hOt HPd
      have HRt := Lib.hid hr7
      have HOt := Lib.hid hOt
      have HPt := Lib.hid (HPd.out.fr hf7 (by simp; exact HNe.out))
      have HFt : Hid (Fr [p, q] w2 wt) := Lib.hid (HFd.out.tr (hf7.sub (by simp)))
      obtain ⟨q2, -⟩ := HC.out wt (HFs6.out.tr (hf7.sub (by simp)))
      clear hr7 hf7 hOt hT HPd HRd HFd HC HOr HFs6
      have HQt : Hid (∀ k X, u16 X → Calls Try.prog 12 #[.pointer (some ⟨p, 0, none⟩), .pointer (some ⟨q, 0, none⟩), .int .u16 X] (wt.drewN k) fun e w' => e = .returned (.bool true) ∧ ∃ m, w' = (wt.drewN k).drewN m) := Lib.hid fun k X hX => same_any (wt.drewN k) p q T X (HPt.out.fr ((Fr.refl [] wt).drewN k) (by simp)) (HRt.out.fr ((Fr.refl [] wt).drewN k) (by simp)) HOt.out hX.1 hX.2
      have HQ0 : Hid (∀ X, u16 X → Calls Try.prog 12 #[.pointer (some ⟨p, 0, none⟩), .pointer (some ⟨q, 0, none⟩), .int .u16 X] wt fun e w' => e = .returned (.bool true) ∧ ∃ m, w' = wt.drewN m) := Lib.hid fun X hX => same_any wt p q T X HPt.out HRt.out HOt.out hX.1 hX.2
      have hd0 : (0 : Int) ≤ d := by omega
      by_cases hd : d = 0
      · subst hd
        obtain ⟨X, hX⟩ : ∃ X, av = X := ⟨_, rfl⟩
        rw [hX] at q2
        have HXu : Hid (u16 X) := Lib.hid (by rw [← hX]; exact HA.out)
        clear hX
        obtain ⟨X1, hX1⟩ : ∃ y, bits .and .u16 X 16383 = y := ⟨_, rfl⟩
        have HX1u : Hid (u16 X1) := Lib.hid (by rw [← hX1]; exact and_u _ _)
        obtain ⟨X2, hX2⟩ : ∃ y, bits .or .u16 X1 16384 = y := ⟨_, rfl⟩
        have HX2u : Hid (u16 X2) := Lib.hid (by rw [← hX2]; exact or_u _ _)
        obtain ⟨X3, hX3⟩ : ∃ y, bits .and .u16 X 8191 = y := ⟨_, rfl⟩
        obtain ⟨X4, hX4⟩ : ∃ y, bits .or .u16 X3 40960 = y := ⟨_, rfl⟩
        have HX4u : Hid (u16 X4) := Lib.hid (by rw [← hX4]; exact or_u _ _)
        go_wp2_with fail
        (with_reducible refine (HQ0.out X HXu.out).mono ?_)
        rintro e w8 ⟨rfl, n8, rfl⟩
        go_wp2_with fail
        (with_reducible refine (HQt.out _ X1 HX1u.out).mono ?_)
        rintro e w8 ⟨rfl, n9, rfl⟩
        rw [World.drewN_drewN]
        go_wp2_with fail
        (with_reducible refine (HQt.out _ X2 HX2u.out).mono ?_)
        rintro e w8 ⟨rfl, n10, rfl⟩
        rw [World.drewN_drewN]
        go_wp2_with fail
        (with_reducible refine (HQt.out _ X4 HX4u.out).mono ?_)
        rintro e w8 ⟨rfl, n11, rfl⟩
        rw [World.drewN_drewN]
        go_wp2
        go_roundw
        case rel => exact ⟨i + 1, T, by go_num, by have := HLt.out; omega, HPt.out.fr ((Fr.refl [] wt).drewN _) (by simp), HRt.out.fr ((Fr.refl [] wt).drewN _) (by simp), HOt.out, HFt.out.drewN _⟩
        case measure => simp [intOf]; have := HLt.out; omega
      · have hd1 : (0 : Int) < d := by omega
        obtain ⟨j, hj, hjd⟩ : ∃ j : Nat, i % d = j ∧ j < d := ⟨_, rfl, Nat.mod_lt _ (by omega)⟩
        have hj1 : (i : Int) % (d : Int) = (j : Int) := by rw [← hj]; rfl
        have hj2 : (i : Int).tmod (d : Int) = (j : Int) := by rw [Int.tmod_eq_emod_of_nonneg (by omega)]; exact hj1
        have hj3 : (j : Int) < d := by omega
        have hj4 : (0 : Int) ≤ j := by omega
        have hdz : ((d : Int) == 0) = false := by rw [beq_eq_false_iff_ne]; omega
        have hdz' : ¬ (d : Int) = 0 := by omega
        obtain ⟨bs, os_, es, hcs⟩ := (HY.out.later (HF2.out.nil.tr HFt.out) (by simp; exact HG.out)) (by rw [HYL.out]; omega)
        obtain ⟨qs, hsx⟩ := hcs j (by rw [HYL.out]; exact hjd)
        cases es
        obtain ⟨X, hav3⟩ : ∃ y, ys[j]'(by rw [HYL.out]; exact hjd) = y := ⟨_, rfl⟩
        rw [hav3] at qs hsx
        have HXu := Lib.hid hsx
        obtain ⟨X1, hX1⟩ : ∃ y, bits .and .u16 X 16383 = y := ⟨_, rfl⟩
        have HX1u : Hid (u16 X1) := Lib.hid (by rw [← hX1]; exact and_u _ _)
        obtain ⟨X2, hX2⟩ : ∃ y, bits .or .u16 X1 16384 = y := ⟨_, rfl⟩
        have HX2u : Hid (u16 X2) := Lib.hid (by rw [← hX2]; exact or_u _ _)
        obtain ⟨X3, hX3⟩ : ∃ y, bits .and .u16 X 8191 = y := ⟨_, rfl⟩
        obtain ⟨X4, hX4⟩ : ∃ y, bits .or .u16 X3 40960 = y := ⟨_, rfl⟩
        have HX4u : Hid (u16 X4) := Lib.hid (by rw [← hX4]; exact or_u _ _)
        clear hsx hav3 hcs hj hd
        go_wp2_with fail
        (with_reducible refine (HQ0.out X HXu.out).mono ?_)
        rintro e w8 ⟨rfl, n8, rfl⟩
        go_wp2_with fail
        (with_reducible refine (HQt.out _ X1 HX1u.out).mono ?_)
        rintro e w8 ⟨rfl, n9, rfl⟩
        rw [World.drewN_drewN]
        go_wp2_with fail
        (with_reducible refine (HQt.out _ X2 HX2u.out).mono ?_)
        rintro e w8 ⟨rfl, n10, rfl⟩
        rw [World.drewN_drewN]
        go_wp2_with fail
        (with_reducible refine (HQt.out _ X4 HX4u.out).mono ?_)
        rintro e w8 ⟨rfl, n11, rfl⟩
        rw [World.drewN_drewN]
        go_wp2
        go_roundw
        case rel => exact ⟨i + 1, T, by go_num, by have := HLt.out; omega, HPt.out.fr ((Fr.refl [] wt).drewN _) (by simp), HRt.out.fr ((Fr.refl [] wt).drewN _) (by simp), HOt.out, HFt.out.drewN _⟩
        case measure => simp [intOf]; have := HLt.out; omega
    all_goals
      obtain ⟨w7, rfl⟩ : ∃ x, x = wr := ⟨_, rfl⟩
      have HQn : Hid (∀ k X, u16 X → Calls Try.prog 12 #[.pointer (some ⟨p, 0, none⟩), .pointer (some ⟨q, 0, none⟩), .int .u16 X] (w7.drewN k) fun e w' => e = .returned (.bool true) ∧ ∃ m, w' = (w7.drewN k).drewN m) := Lib.hid fun k X hX => same_any (w7.drewN k) p q S X (HPr.out.fr ((Fr.refl [] w7).drewN k) (by simp)) (HRr.out.fr ((Fr.refl [] w7).drewN k) (by simp)) HOr.out hX.1 hX.2
      have HQ0 : Hid (∀ X, u16 X → Calls Try.prog 12 #[.pointer (some ⟨p, 0, none⟩), .pointer (some ⟨q, 0, none⟩), .int .u16 X] w7 fun e w' => e = .returned (.bool true) ∧ ∃ m, w' = w7.drewN m) := Lib.hid fun X hX => same_any w7 p q S X HPr.out HRr.out HOr.out hX.1 hX.2
      have HFw : Hid (Fr [p, q] w w7) := Lib.hid (HF2.out.nil.tr HFr.out)
      have U1 : Hid (u16 0) := Lib.hid ⟨by omega, by omega⟩
      have U2 : Hid (u16 32767) := Lib.hid ⟨by omega, by omega⟩
      have U3 : Hid (u16 49151) := Lib.hid ⟨by omega, by omega⟩
      have U4 : Hid (u16 49152) := Lib.hid ⟨by omega, by omega⟩
      clear HPr HRr HOr HFr
      go_wp2_with fail
      (with_reducible refine (HQ0.out _ U1.out).mono ?_)
      rintro e w8 ⟨rfl, n8, rfl⟩
      go_wp2_with fail
      (with_reducible refine (HQn.out _ _ U2.out).mono ?_)
      rintro e w8 ⟨rfl, n9, rfl⟩
      rw [World.drewN_drewN]
      go_wp2_with fail
      (with_reducible refine (HQn.out _ _ U3.out).mono ?_)
      rintro e w8 ⟨rfl, n10, rfl⟩
      rw [World.drewN_drewN]
      go_wp2_with fail
      (with_reducible refine (HQn.out _ _ U4.out).mono ?_)
      rintro e w8 ⟨rfl, n11, rfl⟩
      rw [World.drewN_drewN]
      go_wp2
      go_ret
      exact ⟨by simp, (HFw.out.drewN _).below (by simp; exact HG.out) (Nat.le_refl _)⟩

end Gm
end Go.Proofs.Ytglnpgdigdfjiaa
