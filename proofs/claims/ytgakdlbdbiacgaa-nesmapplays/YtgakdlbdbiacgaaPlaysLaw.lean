/-
  picklocklaw11.NesmapPlays returns true for every input. No condition.
-/
import Derived.Test.YtgakdlbdbiacgaaNmShown
import Derived.Test.YtgakdlbdbiacgaaNmBits2
import Derived.Test.YtgakdlbdbiacgaaNmSame
namespace Go.Proofs.Ytgakdlbdbiacgaa
open Go.RowKit
namespace Nm

set_option maxRecDepth 100000 in
set_option maxHeartbeats 4000000 in
theorem plays_walk (mp mir pg un : Int) (A : Option Addr) (n c : Nat) (zs : List Raw) (D : Option Addr) (d cd : Nat) (ys : List Int) (w : World) (hl : zs.length = n) (hz : OpsIn w A zs) (_hc : n ≤ c) (_hm : c ≤ maxLen) (hyl : ys.length = d) (hy : AsksIn w D ys) (_hdc : d ≤ cd) (_hdm : cd ≤ maxLen) :
    Calls Try.prog 3 #[.agg #[.int .i64 mp, .int .i64 mir, .int .i64 pg, .int .i64 un], .slice A n c, .slice D d cd] w fun e w' => e = .returned (.bool true) ∧ Below w.heap.size w w' := by
  have HZ := Lib.hid hz
  have HL := Lib.hid hl
  have HY := Lib.hid hy
  have HYL := Lib.hid hyl
  obtain ⟨z, hzz⟩ : ∃ z, w.heap.size = z := ⟨_, rfl⟩
  have hbx := Blk.fresh w 23 #[.int .i64 mp, .int .i64 mir, .int .i64 pg, .int .i64 un]
  have hfx : Fr [] w (w.alloc (.cells #[.int .i64 mp, .int .i64 mir, .int .i64 pg, .int .i64 un] 23)) := (Fr.refl [] w).alloc _
  rw [hzz] at hbx
  have HB := Lib.hid hbx
  have HF := Lib.hid hfx
  clear hz hl hy hyl hbx hfx
  go_enter Try.func3, Try.ntmps3
  go_upto_region 1 with fail
  clear hzz
  generalize w.alloc _ = w0 at *
  go_wp2_with fail
  (with_reducible refine (shown11 w0).mono ?_)
  rintro e w1 ⟨rfl, hf1⟩
  have HF1 := Lib.hid (HF.out.tr hf1)
  have HB1 := Lib.hid (HB.out.fr hf1 (by simp))
  have hb1 := HB1.out
  have c0 := hb1.cell 0
  have c1 := hb1.cell 1
  have c2 := hb1.cell 2
  have c3 := hb1.cell 3
  simp at c0 c1 c2 c3
  clear hf1 hb1 HF HB
  go_wp2_with fail
  (with_reducible refine (made_any w1 mp mir pg un).mono ?_)
  rintro e w2 ⟨p, g, q, rfl, hp, hr, hf2, hg1, hg2, hg3⟩
  have hO := cartS_ok mp mir pg un
  generalize cartS mp mir pg un = S0 at *
  have HP := Lib.hid hp
  have HR := Lib.hid hr
  have HO := Lib.hid hO
  have HF2 : Hid (Fr [] w w2) := Lib.hid (HF1.out.tr hf2)
  have HG : Hid (w.heap.size ≤ g ∧ w.heap.size ≤ q) := Lib.hid ⟨Nat.le_trans HF1.out.size hg2, Nat.le_trans HF1.out.size hg3⟩
  have HNe : Hid (p ≠ q ∧ g ≠ q ∧ p ≠ g) := Lib.hid ⟨(hp.other hr).1, (hp.other hr).2, hp.ne⟩
  clear hp hr hO hf2 hg1 hg2 hg3 c0 c1 c2 c3 HF1 HB1
  go_wp2_with fail
  go_loopw [10] (fun s10 wr => ∃ (i : Nat) (S : St), s10 = .int .i64 (i : Int) ∧ i ≤ n ∧ ProgAt wr p g S ∧ RefAt wr q S ∧ Ok S ∧ Fr [g, q] w2 wr) (fun s10 _ => n - (intOf s10).toNat)
  case atStart => exact ⟨0, S0, rfl, Nat.zero_le _, HP.out, HR.out, HO.out, Fr.refl _ _⟩
  case round =>
    obtain ⟨i, S, rfl, hin, hp, hr, hO, hf⟩ := hrel
    have HPr := Lib.hid hp
    have HRr := Lib.hid hr
    have HOr := Lib.hid hO
    have HFr := Lib.hid hf
    have hi0 : (0 : Int) ≤ i := by omega
    clear hp hr hO hf HP HR HO
    rcases (show (i < n ∧ i < 100) ∨ (¬ i < n) ∨ (i < n ∧ ¬ i < 100) by omega) with ⟨h1, h2⟩ | h1 | ⟨h1, h2⟩
    · have h1' : (i : Int) < n := by omega
      have h2' : (i : Int) < 100 := by omega
      obtain ⟨b, o, kk, nn, av, vv, rfl, q0, q1, q2, q3, hA, hV⟩ := op_at HZ.out (HF2.out.nil.tr HFr.out) (by simp; exact HG.out) i (by rw [HL.out]; exact h1)
      have HV := Lib.hid hV
      have HA := Lib.hid hA
      obtain ⟨hA0, hA1⟩ := hA
      have HLt := Lib.hid h1
      obtain ⟨e0, he⟩ : ∃ y, bits .and .i64 kk 1 = y := ⟨_, rfl⟩
      have hb1 := and1_bd kk
      rw [he] at hb1
      have HC : Hid (∀ W, Fr [g, q] w2 W → W.cell? ⟨b, o + i * 4 + 1, none⟩ = some (.int .i64 nn) ∧ W.cell? ⟨b, o + i * 4 + 2, none⟩ = some (.int .u16 av) ∧ W.cell? ⟨b, o + i * 4 + 3, none⟩ = some (.int .u8 vv)) := Lib.hid (by
        have hb : b ∉ [g, q] := by
          intro hm
          obtain ⟨b2, o2, e2, hc⟩ := HZ.out (by rw [HL.out]; omega)
          cases e2
          have h4 := World.block_lt_of_cell? w _ (hc 0 (by rw [HL.out]; omega)).1
          have h5 : w.heap.size ≤ b := by
            simp at hm
            rcases hm with rfl | rfl
            · exact HG.out.1
            · exact HG.out.2
          exact absurd h5 (by simpa using h4)
        have h6 := HZ.out.later HF2.out (by simp)
        obtain ⟨b2, o2, e2, hc⟩ := h6 (by rw [HL.out]; omega)
        cases e2
        have hc' := hc i (by rw [HL.out]; exact h1)
        obtain ⟨-, r1, r2, r3, -⟩ := hc'
        intro W hW
        have y1 := HFr.out.cell r1 hb
        have y2 := HFr.out.cell r2 hb
        have y3 := HFr.out.cell r3 hb
        rw [q1] at y1
        rw [q2] at y2
        rw [q3] at y3
        cases y1
        cases y2
        cases y3
        exact ⟨hW.cell r1 hb, hW.cell r2 hb, hW.cell r3 hb⟩)
      clear hV
      rcases (show e0 = 1 ∨ e0 = 0 by omega) with rfl | rfl
      · have hlow := low16_bd nn
        obtain ⟨N0, hN0⟩ : ∃ y, low16 nn = y := ⟨_, rfl⟩
        rw [hN0] at hlow
        unfold low16 at hN0
        obtain ⟨M, hM, hM21⟩ : ∃ y : Nat, N0.tmod 21 = (y : Int) ∧ y < 21 := ⟨(N0.tmod 21).toNat, by rw [Int.tmod_eq_emod_of_nonneg hlow.1]; omega, by rw [Int.tmod_eq_emod_of_nonneg hlow.1]; omega⟩
        clear hlow hb1
        go_wp2_with fail
        go_loopw [11] (fun s11 wx => ∃ (k : Nat) (T : St), s11 = .int .i64 (k : Int) ∧ k ≤ M ∧ ProgAt wx p g T ∧ RefAt wx q T ∧ Ok T ∧ Fr [g, q] w2 wx) (fun s11 _ => M - (intOf s11).toNat)
        case atStart => exact ⟨0, S, rfl, Nat.zero_le _, HPr.out, HRr.out, HOr.out, HFr.out⟩
        case round =>
          obtain ⟨k, T, rfl, hkm, hp, hr, hO, hf⟩ := hrel
          obtain ⟨q1', -, -⟩ := HC.out wr hf
          have HPt := Lib.hid hp
          have HRt := Lib.hid hr
          have HOt := Lib.hid hO
          have HFt := Lib.hid hf
          have hk0 : (0 : Int) ≤ k := by omega
          clear hp hr hO hf
          by_cases hk : k < M
          · have hk' : (k : Int) < M := by omega
            have HK := Lib.hid hk
            have hk21 : (k : Int) < 21 := by omega
            go_wp2_with fail
            (with_reducible refine (pclock_any wr p g T HPt.out HOt.out).mono ?_)
            rintro e w5 ⟨rfl, hp5, hf5⟩
            have HP5 := Lib.hid hp5
            have HR5 := Lib.hid (HRt.out.fr hf5 (by simp; exact fun e => HNe.out.2.1 e.symm))
            have HF5 : Hid (Fr [g, q] w2 w5) := Lib.hid (HFt.out.tr (hf5.sub (by simp)))
            clear hp5 hf5
            go_wp2_with fail
            (with_reducible refine (rclock_any w5 q T HR5.out HOt.out).mono ?_)
            rintro e w6 ⟨rfl, hr6, hf6⟩
            have HR6 := Lib.hid hr6
            have HP6 := Lib.hid (HP5.out.fr hf6 (by simp; exact HNe.out.1) (by simp; exact HNe.out.2.1))
            have HF6 : Hid (Fr [g, q] w2 w6) := Lib.hid (HF5.out.tr (hf6.sub (by simp)))
            clear hr6 hf6 HP5 HR5 HF5
            go_wp2
            go_roundw
            case rel => exact ⟨k + 1, clk T, by go_num, by have := HK.out; omega, HP6.out, HR6.out, ok_clk _ HOt.out, HF6.out⟩
            case measure => simp [intOf]; have := HK.out; omega
          · have hk' : ¬ (k : Int) < M := by omega
            obtain ⟨wt, rfl⟩ : ∃ x, x = wr := ⟨_, rfl⟩
            have HQt : Hid (∀ k X, u16 X → Calls Try.prog 15 #[.pointer (some ⟨p, 0, none⟩), .pointer (some ⟨q, 0, none⟩), .int .u16 X] (wt.drewN k) fun e w' => e = .returned (.bool true) ∧ ∃ m, w' = (wt.drewN k).drewN m) := Lib.hid fun k X hX => same_any (wt.drewN k) p g q T X (HPt.out.fr ((Fr.refl [] wt).drewN k) (by simp) (by simp)) (HRt.out.fr ((Fr.refl [] wt).drewN k) (by simp)) HOt.out hX.1 hX.2
            have HQ0 : Hid (∀ X, u16 X → Calls Try.prog 15 #[.pointer (some ⟨p, 0, none⟩), .pointer (some ⟨q, 0, none⟩), .int .u16 X] wt fun e w' => e = .returned (.bool true) ∧ ∃ m, w' = wt.drewN m) := Lib.hid fun X hX => same_any wt p g q T X HPt.out HRt.out HOt.out hX.1 hX.2
            obtain ⟨bt, ot, kt, nt, avt, vvt, et, t0, t1, q2t, t3, hAt, -⟩ := op_at HZ.out (HF2.out.nil.tr HFt.out) (by simp; exact HG.out) i (by rw [HL.out]; exact HLt.out)
            cases et
            clear t0 t1 t3
            have HAt := Lib.hid hAt
            have hd0 : (0 : Int) ≤ d := by omega
            by_cases hd : d = 0
            · subst hd
              obtain ⟨X, hX⟩ : ∃ y, bits .xor .u16 avt 16384 = y := ⟨_, rfl⟩
              have hx : u16 (bits .xor .u16 avt 16384) := xor14 avt HAt.out
              rw [hX] at hx
              have HX := Lib.hid hx
              clear hAt hx
              go_wp2_with fail
              (with_reducible refine (HQ0.out avt HAt.out).mono ?_)
              rintro e w8 ⟨rfl, n8, rfl⟩
              go_wp2_with fail
              (with_reducible refine (HQt.out _ X HX.out).mono ?_)
              rintro e w8 ⟨rfl, n9, rfl⟩
              rw [World.drewN_drewN]
              go_wp2
              go_roundw
              case rel => exact ⟨i + 1, T, by go_num, by omega, HPt.out.fr ((Fr.refl [] wt).drewN _) (by simp) (by simp), HRt.out.fr ((Fr.refl [] wt).drewN _) (by simp), HOt.out, HFt.out.drewN _⟩
              case measure => simp [intOf]; omega
            · have hd1 : (0 : Int) < d := by omega
              obtain ⟨j, hj, hjd⟩ : ∃ j : Nat, i % d = j ∧ j < d := ⟨_, rfl, Nat.mod_lt _ (by omega)⟩
              have hj1 : (i : Int) % (d : Int) = (j : Int) := by rw [← hj]; rfl
              have hj2 : (i : Int).tmod (d : Int) = (j : Int) := by rw [Int.tmod_eq_emod_of_nonneg (by omega)]; exact hj1
              have hj3 : (j : Int) < d := by omega
              have hj4 : (0 : Int) ≤ j := by omega
              have hdz : ((d : Int) == 0) = false := by rw [beq_eq_false_iff_ne]; omega
              have hdz' : ¬ (d : Int) = 0 := by omega
              obtain ⟨bs, os_, es, hcs⟩ := (HY.out.later (HF2.out.nil.tr HFt.out) (by simp; exact HG.out)) (by rw [HYL.out]; omega)
              obtain ⟨qs, hsx⟩ := hcs j (by rw [HYL.out]; exact hjd)
              cases es
              obtain ⟨av3, hav3⟩ : ∃ y, ys[j]'(by rw [HYL.out]; exact hjd) = y := ⟨_, rfl⟩
              rw [hav3] at qs hsx
              have HS3 := Lib.hid hsx
              obtain ⟨X, hX⟩ : ∃ y, bits .xor .u16 av3 16384 = y := ⟨_, rfl⟩
              have hx : u16 (bits .xor .u16 av3 16384) := xor14 av3 HS3.out
              rw [hX] at hx
              have HX := Lib.hid hx
              clear hAt hx hsx hav3 hcs hj hd
              go_wp2_with fail
              (with_reducible refine (HQ0.out av3 HS3.out).mono ?_)
              rintro e w8 ⟨rfl, n8, rfl⟩
              go_wp2_with fail
              (with_reducible refine (HQt.out _ X HX.out).mono ?_)
              rintro e w8 ⟨rfl, n9, rfl⟩
              rw [World.drewN_drewN]
              go_wp2
              go_roundw
              case rel => exact ⟨i + 1, T, by go_num, by omega, HPt.out.fr ((Fr.refl [] wt).drewN _) (by simp) (by simp), HRt.out.fr ((Fr.refl [] wt).drewN _) (by simp), HOt.out, HFt.out.drewN _⟩
              case measure => simp [intOf]; omega
      · clear hb1 q1
        go_upto_region 14 with fail
        go_still_tail 11, (by kernel_rfl)
        repeat still_step
        change wpList _ _ _ _ _ wr.drew
        have HPd : Hid (ProgAt wr.drew p g S) := HPr
        have HRd : Hid (RefAt wr.drew q S) := HRr
        have HFd : Hid (Fr [g, q] w2 wr.drew) := Lib.hid HFr.out.drew
        clear q0 q2 q3 HPr HRr HFr
        generalize wr.drew = w4 at *
        go_wp2_with fail
        (with_reducible refine (pwrite_all w4 p g S av vv HPd.out HOr.out hA0 hA1 HV.out).mono ?_)
        rintro e w5 ⟨rfl, hp5, hf5⟩
        have HP5 := Lib.hid hp5
        have HR5 := Lib.hid (HRd.out.fr hf5 (by simp; exact fun e => HNe.out.2.1 e.symm))
        have HF5 : Hid (Fr [g, q] w2 w5) := Lib.hid (HFd.out.tr (hf5.sub (by simp)))
        obtain ⟨-, q2, q3⟩ := HC.out w5 HF5.out
        clear hp5 hf5 HPd HRd HFd
        go_upto_region 15 with fail
        go_still_tail 11, (by kernel_rfl)
        repeat still_step
        change wpList _ _ _ _ _ w5.drew
        have HPd : Hid (ProgAt w5.drew p g (Nm.wr S av vv)) := HP5
        have HRd : Hid (RefAt w5.drew q S) := HR5
        have HFd : Hid (Fr [g, q] w2 w5.drew) := Lib.hid HF5.out.drew
        clear q2 q3 HP5 HR5 HF5
        generalize w5.drew = w6 at *
        go_wp2_with fail
        (with_reducible refine (rwrite_any w6 q S av vv HRd.out ⟨hA0, hA1⟩ HV.out HOr.out).mono ?_)
        rintro e wt ⟨rfl, hr7, hf7⟩
        obtain ⟨T, hT⟩ : ∃ T, Nm.wr S av vv = T := ⟨_, rfl⟩
        have hOt := ok_wr S av vv HOr.out HV.out
        rw [hT] at hr7 hOt HPd
        have HRt := Lib.hid hr7
        have HOt := Lib.hid hOt
        have HPt := Lib.hid (HPd.out.fr hf7 (by simp; exact HNe.out.1) (by simp; exact HNe.out.2.1))
        have HFt : Hid (Fr [g, q] w2 wt) := Lib.hid (HFd.out.tr (hf7.sub (by simp)))
        clear hr7 hf7 hOt hT HPd HRd HFd HC HOr
        have HQt : Hid (∀ k X, u16 X → Calls Try.prog 15 #[.pointer (some ⟨p, 0, none⟩), .pointer (some ⟨q, 0, none⟩), .int .u16 X] (wt.drewN k) fun e w' => e = .returned (.bool true) ∧ ∃ m, w' = (wt.drewN k).drewN m) := Lib.hid fun k X hX => same_any (wt.drewN k) p g q T X (HPt.out.fr ((Fr.refl [] wt).drewN k) (by simp) (by simp)) (HRt.out.fr ((Fr.refl [] wt).drewN k) (by simp)) HOt.out hX.1 hX.2
        have HQ0 : Hid (∀ X, u16 X → Calls Try.prog 15 #[.pointer (some ⟨p, 0, none⟩), .pointer (some ⟨q, 0, none⟩), .int .u16 X] wt fun e w' => e = .returned (.bool true) ∧ ∃ m, w' = wt.drewN m) := Lib.hid fun X hX => same_any wt p g q T X HPt.out HRt.out HOt.out hX.1 hX.2
        obtain ⟨bt, ot, kt, nt, avt, vvt, et, t0, t1, q2t, t3, hAt, -⟩ := op_at HZ.out (HF2.out.nil.tr HFt.out) (by simp; exact HG.out) i (by rw [HL.out]; exact HLt.out)
        cases et
        clear t0 t1 t3
        have HAt := Lib.hid hAt
        have hd0 : (0 : Int) ≤ d := by omega
        by_cases hd : d = 0
        · subst hd
          obtain ⟨X, hX⟩ : ∃ y, bits .xor .u16 avt 16384 = y := ⟨_, rfl⟩
          have hx : u16 (bits .xor .u16 avt 16384) := xor14 avt HAt.out
          rw [hX] at hx
          have HX := Lib.hid hx
          clear hAt hx
          go_wp2_with fail
          (with_reducible refine (HQ0.out avt HAt.out).mono ?_)
          rintro e w8 ⟨rfl, n8, rfl⟩
          go_wp2_with fail
          (with_reducible refine (HQt.out _ X HX.out).mono ?_)
          rintro e w8 ⟨rfl, n9, rfl⟩
          rw [World.drewN_drewN]
          go_wp2
          go_roundw
          case rel => exact ⟨i + 1, T, by go_num, by omega, HPt.out.fr ((Fr.refl [] wt).drewN _) (by simp) (by simp), HRt.out.fr ((Fr.refl [] wt).drewN _) (by simp), HOt.out, HFt.out.drewN _⟩
          case measure => simp [intOf]; omega
        · have hd1 : (0 : Int) < d := by omega
          obtain ⟨j, hj, hjd⟩ : ∃ j : Nat, i % d = j ∧ j < d := ⟨_, rfl, Nat.mod_lt _ (by omega)⟩
          have hj1 : (i : Int) % (d : Int) = (j : Int) := by rw [← hj]; rfl
          have hj2 : (i : Int).tmod (d : Int) = (j : Int) := by rw [Int.tmod_eq_emod_of_nonneg (by omega)]; exact hj1
          have hj3 : (j : Int) < d := by omega
          have hj4 : (0 : Int) ≤ j := by omega
          have hdz : ((d : Int) == 0) = false := by rw [beq_eq_false_iff_ne]; omega
          have hdz' : ¬ (d : Int) = 0 := by omega
          obtain ⟨bs, os_, es, hcs⟩ := (HY.out.later (HF2.out.nil.tr HFt.out) (by simp; exact HG.out)) (by rw [HYL.out]; omega)
          obtain ⟨qs, hsx⟩ := hcs j (by rw [HYL.out]; exact hjd)
          cases es
          obtain ⟨av3, hav3⟩ : ∃ y, ys[j]'(by rw [HYL.out]; exact hjd) = y := ⟨_, rfl⟩
          rw [hav3] at qs hsx
          have HS3 := Lib.hid hsx
          obtain ⟨X, hX⟩ : ∃ y, bits .xor .u16 av3 16384 = y := ⟨_, rfl⟩
          have hx : u16 (bits .xor .u16 av3 16384) := xor14 av3 HS3.out
          rw [hX] at hx
          have HX := Lib.hid hx
          clear hAt hx hsx hav3 hcs hj hd
          go_wp2_with fail
          (with_reducible refine (HQ0.out av3 HS3.out).mono ?_)
          rintro e w8 ⟨rfl, n8, rfl⟩
          go_wp2_with fail
          (with_reducible refine (HQt.out _ X HX.out).mono ?_)
          rintro e w8 ⟨rfl, n9, rfl⟩
          rw [World.drewN_drewN]
          go_wp2
          go_roundw
          case rel => exact ⟨i + 1, T, by go_num, by omega, HPt.out.fr ((Fr.refl [] wt).drewN _) (by simp) (by simp), HRt.out.fr ((Fr.refl [] wt).drewN _) (by simp), HOt.out, HFt.out.drewN _⟩
          case measure => simp [intOf]; omega
    all_goals
      obtain ⟨w7, rfl⟩ : ∃ x, x = wr := ⟨_, rfl⟩
      have HQn : Hid (∀ k X, u16 X → Calls Try.prog 15 #[.pointer (some ⟨p, 0, none⟩), .pointer (some ⟨q, 0, none⟩), .int .u16 X] (w7.drewN k) fun e w' => e = .returned (.bool true) ∧ ∃ m, w' = (w7.drewN k).drewN m) := Lib.hid fun k X hX => same_any (w7.drewN k) p g q S X (HPr.out.fr ((Fr.refl [] w7).drewN k) (by simp) (by simp)) (HRr.out.fr ((Fr.refl [] w7).drewN k) (by simp)) HOr.out hX.1 hX.2
      have HFw : Hid (Fr [g, q] w w7) := Lib.hid (HF2.out.nil.tr HFr.out)
      clear HPr HRr HOr HFr
      go_wp2_with fail
      go_loopw [13] (fun s13 wx => ∃ (k m : Nat), s13 = .int .i64 (k : Int) ∧ k ≤ 64 ∧ wx = w7.drewN m) (fun s13 _ => 64 - (intOf s13).toNat)
      case atStart => exact ⟨0, 0, rfl, by omega, rfl⟩
      case round =>
        obtain ⟨k, m, rfl, hk64, rfl⟩ := hrel
        have hk0 : (0 : Int) ≤ k := by omega
        by_cases hk : k < 64
        · have hk' : (k : Int) < 64 := by omega
          obtain ⟨X, hX⟩ : ∃ y : Int, (k : Int) * 1024 = y := ⟨_, rfl⟩
          have hX0 : 0 ≤ X := by omega
          have hX1 : X < 65536 := by omega
          have HXu := Lib.hid (show u16 X from ⟨hX0, hX1⟩)
          have hX2 : IntKind.u16.wrap X = X := by rw [IntKind.wrap_u16]; omega
          go_wp2_with fail
          (with_reducible refine (HQn.out _ X HXu.out).mono ?_)
          rintro e w8 ⟨rfl, n8, rfl⟩
          rw [World.drewN_drewN]
          go_wp2
          go_roundw
          case rel => exact ⟨k + 1, _, by go_num, by omega, rfl⟩
          case measure => simp [intOf]; omega
        · have hk' : ¬ (k : Int) < 64 := by omega
          go_wp2
          go_ret
          exact ⟨by simp, (HFw.out.drewN _).below (by simp; exact HG.out) (Nat.le_refl _)⟩

end Nm
end Go.Proofs.Ytgakdlbdbiacgaa
