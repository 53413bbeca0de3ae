/-
  picklocklaw11.NesmapApart returns true for every input. No condition.
-/
import Derived.Test.YtgakdlbdbiacgaaNmShown
import Derived.Test.YtgakdlbdbiacgaaNmBits2
import Derived.Test.YtgakdlbdbiacgaaNmSame
namespace Go.Proofs.Ytgakdlbdbiacgaa
open Go.RowKit
namespace Nm

set_option maxRecDepth 100000 in
set_option maxHeartbeats 4000000 in
theorem apart_walk (mp mir pg un : Int) (A : Option Addr) (n c : Nat) (zs : List Raw) (a : Int) (w : World) (hl : zs.length = n) (hz : OpsIn w A zs) (_hc : n ≤ c) (_hm : c ≤ maxLen) (ha : u16 a) :
    Calls Try.prog 8 #[.agg #[.int .i64 mp, .int .i64 mir, .int .i64 pg, .int .i64 un], .slice A n c, .int .u16 a] w fun e w' => e = .returned (.bool true) ∧ Below w.heap.size w w' := by
  have HZ := Lib.hid hz
  have HL := Lib.hid hl
  obtain ⟨ha0, ha1⟩ := ha
  obtain ⟨z, hzz⟩ : ∃ z, w.heap.size = z := ⟨_, rfl⟩
  have hbx := Blk.fresh w 23 #[.int .i64 mp, .int .i64 mir, .int .i64 pg, .int .i64 un]
  have hfx : Fr [] w (w.alloc (.cells #[.int .i64 mp, .int .i64 mir, .int .i64 pg, .int .i64 un] 23)) := (Fr.refl [] w).alloc _
  rw [hzz] at hbx
  have HB := Lib.hid hbx
  have HF := Lib.hid hfx
  clear hz hl hbx hfx
  go_enter Try.func8, Try.ntmps8
  go_upto_region 1 with fail
  clear hzz
  generalize w.alloc _ = w0 at *
  go_wp2_with fail
  (with_reducible refine (shown11 w0).mono ?_)
  rintro e w1 ⟨rfl, hf1⟩
  have HF1 := Lib.hid (HF.out.tr hf1)
  have HB1 := Lib.hid (HB.out.fr hf1 (by simp))
  have hb1 := HB1.out
  have c0 := hb1.cell 0
  have c1 := hb1.cell 1
  have c2 := hb1.cell 2
  have c3 := hb1.cell 3
  simp at c0 c1 c2 c3
  clear hf1 hb1 HF HB
  go_wp2_with fail
  (with_reducible refine (made_any w1 mp mir pg un).mono ?_)
  rintro e w2 ⟨p, g, q, rfl, hp, hr, hf2, hg1, hg2, hg3⟩
  have HB2 := Lib.hid (HB1.out.fr hf2 (by simp))
  have hb2 := HB2.out
  have c0 := hb2.cell 0
  have c1 := hb2.cell 1
  have c2 := hb2.cell 2
  have c3 := hb2.cell 3
  simp at c0 c1 c2 c3
  have HP := Lib.hid hp
  have HF2 : Hid (Fr [] w w2) := Lib.hid (HF1.out.tr hf2)
  have hs1 := HF1.out.size
  have hlt := hp.lt
  clear hp hr hf2 hb2 HB1
  go_wp2_with fail
  (with_reducible refine (made_any w2 mp mir pg un).mono ?_)
  rintro e w3 ⟨p', g', q', rfl, hp', hr', hf3, hg1', hg2', hg3'⟩
  have hO := cartS_ok mp mir pg un
  have hnew : new (cartS mp mir pg un).mp (cartS mp mir pg un).mir (cartS mp mir pg un).pg (cartS mp mir pg un).un = cartS mp mir pg un := rfl
  generalize cartS mp mir pg un = S0 at *
  have HP3 := Lib.hid (HP.out.fr hf3 (by simp) (by simp))
  have HQ3 := Lib.hid hp'
  have HR3 := Lib.hid hr'
  have HO := Lib.hid hO
  have HNew := Lib.hid hnew
  have HF3 : Hid (Fr [] w w3) := Lib.hid (HF2.out.tr hf3)
  have HNe : Hid (p' ≠ q' ∧ g' ≠ q') := Lib.hid (hp'.other hr')
  have HD : Hid (p ≠ g' ∧ g ≠ g' ∧ p' ≠ g ∧ g' ≠ g ∧ q' ≠ g ∧ p ≠ g) := Lib.hid ⟨by omega, by omega, by omega, by omega, by omega, HP.out.ne⟩
  have HG : Hid (w.heap.size ≤ g ∧ w.heap.size ≤ g') := Lib.hid ⟨Nat.le_trans hs1 hg2, Nat.le_trans HF2.out.size hg2'⟩
  clear hp' hr' hO hnew hf3 hg1 hg2 hg3 hg1' hg2' hg3' hs1 hlt c0 c1 c2 c3 HB2 HF1 HF2 HP
  go_wp2_with fail
  go_loopw [12] (fun s12 wr => ∃ (i : Nat) (S : St), s12 = .int .i64 (i : Int) ∧ i ≤ n ∧ ProgAt wr p g S ∧ ProgAt wr p' g' S0 ∧ Ok S ∧ Fr [g, g'] w3 wr) (fun s12 _ => n - (intOf s12).toNat)
  case atStart => exact ⟨0, S0, rfl, Nat.zero_le _, HP3.out, HQ3.out, HO.out, Fr.refl _ _⟩
  case round =>
    obtain ⟨i, S, rfl, hin, hp, hq, hO, hf⟩ := hrel
    have HPr := Lib.hid hp
    have HQr := Lib.hid hq
    have HOr := Lib.hid hO
    have HFr := Lib.hid hf
    have hi0 : (0 : Int) ≤ i := by omega
    clear hp hq hO hf
    rcases (show (i < n ∧ i < 50) ∨ (¬ i < n) ∨ (i < n ∧ ¬ i < 50) by omega) with ⟨h1, h2⟩ | h1 | ⟨h1, h2⟩
    · have h1' : (i : Int) < n := by omega
      have h2' : (i : Int) < 50 := by omega
      obtain ⟨b, o, kk, nn, av, vv, rfl, q0, q1, q2, q3, hA, hV⟩ := op_at HZ.out (HF3.out.nil.tr HFr.out) (by simp; exact HG.out) i (by rw [HL.out]; exact h1)
      have HV := Lib.hid hV
      obtain ⟨hx0, hx1⟩ := and15b av hA
      obtain ⟨ha0', ha1'⟩ := hA
      obtain ⟨X, hX⟩ : ∃ y, bits .and .u16 av 32767 = y := ⟨_, rfl⟩
      rw [hX] at hx0 hx1
      have HC2 : Hid (∀ W, Fr [g] wr W → W.cell? ⟨b, o + i * 4 + 2, none⟩ = some (.int .u16 av) ∧ W.cell? ⟨b, o + i * 4 + 3, none⟩ = some (.int .u8 vv)) := Lib.hid fun W hW => by
        have hb : b ∉ [g] := by
          intro hm
          simp at hm
          subst hm
          obtain ⟨b2, o2, e2, hc⟩ := HZ.out (by rw [HL.out]; omega)
          cases e2
          have h4 := World.block_lt_of_cell? w _ (hc 0 (by rw [HL.out]; omega)).1
          exact absurd HG.out.1 (by simpa using h4)
        exact ⟨hW.cell q2 hb, hW.cell q3 hb⟩
      clear hV q0 q1
      go_upto_region 9 with fail
      go_still_tail 11, (by kernel_rfl)
      repeat still_step
      change wpList _ _ _ _ _ wr.drew
      have HPd : Hid (ProgAt wr.drew p g S) := HPr
      have HQd : Hid (ProgAt wr.drew p' g' S0) := HQr
      have HFd : Hid (Fr [g, g'] w3 wr.drew) := Lib.hid HFr.out.drew
      have HFs : Hid (Fr [g] wr wr.drew) := Lib.hid (Fr.refl _ _).drew
      clear q2 q3 HPr HQr HFr
      generalize wr.drew = w4 at *
      go_wp2_with fail
      (with_reducible refine (pwrite_all w4 p g S av vv HPd.out HOr.out ha0' ha1' HV.out).mono ?_)
      rintro e w5 ⟨rfl, hp5, hf5⟩
      have HP5 := Lib.hid hp5
      have HQ5 := Lib.hid (HQd.out.fr hf5 (by simp; exact HD.out.2.2.1) (by simp; exact HD.out.2.2.2.1))
      have HF5 : Hid (Fr [g, g'] w3 w5) := Lib.hid (HFd.out.tr (hf5.sub (by simp)))
      obtain ⟨q2, q3⟩ := HC2.out w5 (HFs.out.tr hf5)
      clear hp5 hf5 HPd HQd HFd HFs HC2
      go_upto_region 10 with fail
      go_still_tail 12, (by kernel_rfl)
      repeat still_step
      change wpList _ _ _ _ _ w5.drew
      have HPd : Hid (ProgAt w5.drew p g (Nm.wr S av vv)) := HP5
      have HQd : Hid (ProgAt w5.drew p' g' S0) := HQ5
      have HFd : Hid (Fr [g, g'] w3 w5.drew) := Lib.hid HF5.out.drew
      clear q2 q3 HP5 HQ5 HF5
      generalize w5.drew = w6 at *
      have HW : Hid (Nm.wr S0 X vv = S0) := Lib.hid (by unfold Nm.wr; rw [if_pos hx1])
      go_wp2_with fail
      (with_reducible refine (pwrite_all w6 p' g' S0 X vv HQd.out HO.out hx0 (by omega) HV.out).mono ?_)
      rintro e w7 ⟨rfl, hq7, hf7⟩
      rw [HW.out] at hq7
      have HQ7 := Lib.hid hq7
      have HP7 := Lib.hid (HPd.out.fr hf7 (by simp; exact HD.out.1) (by simp; exact HD.out.2.1))
      have HF7 : Hid (Fr [g, g'] w3 w7) := Lib.hid (HFd.out.tr (hf7.sub (by simp)))
      clear hq7 hf7 HPd HQd HFd
      go_wp2
      go_roundw
      case rel => exact ⟨i + 1, Nm.wr S av vv, by go_num, by omega, HP7.out, HQ7.out, ok_wr _ _ _ HOr.out HV.out, HF7.out⟩
      case measure => simp [intOf]; omega
    all_goals
      obtain ⟨w5, rfl⟩ : ∃ x, x = wr := ⟨_, rfl⟩
      have HRr : Hid (RefAt w5 q' S0) := Lib.hid (HR3.out.fr HFr.out (by simp; exact ⟨HD.out.2.2.2.2.1, fun e => HNe.out.2 e.symm⟩))
      have HFw : Hid (Fr [g, g'] w w5) := Lib.hid (HF3.out.nil.tr HFr.out)
      have d0 : w5.cell? ⟨q', 0, none⟩ = some (.int .i64 S0.pg) := Blk.cell HRr.out 0
      have d1 : w5.cell? ⟨q', 1, none⟩ = some (.int .i64 S0.un) := Blk.cell HRr.out 1
      have d2 : w5.cell? ⟨q', 2, none⟩ = some (.int .i64 S0.mp) := Blk.cell HRr.out 2
      have d3 : w5.cell? ⟨q', 3, none⟩ = some (.int .i64 S0.mir) := Blk.cell HRr.out 3
      obtain ⟨hg0, hg1⟩ := HO.out.pg
      obtain ⟨hu0, hu1⟩ := HO.out.un
      have HRn := Lib.hid fun (W : World) (prg chr : Int) (h1 : 8192 * S0.pg = prg) (h2 : 1024 * S0.un = chr) => rnew_any W S0.mp S0.mir prg chr S0.pg S0.un h1 h2 ⟨by omega, by omega⟩ ⟨by omega, by omega⟩
      rw [HNew.out] at HRn
      obtain ⟨mq, hmq⟩ : ∃ y, S0.mp = y := ⟨_, rfl⟩
      obtain ⟨rq, hrq⟩ : ∃ y, S0.mir = y := ⟨_, rfl⟩
      obtain ⟨PG, hPG⟩ : ∃ y, S0.pg = y := ⟨_, rfl⟩
      obtain ⟨UN, hUN⟩ : ∃ y, S0.un = y := ⟨_, rfl⟩
      rw [hmq, hrq, hPG, hUN] at HRn
      rw [hmq] at d2
      rw [hrq] at d3
      rw [hPG] at d0 hg0 hg1
      rw [hUN] at d1 hu0 hu1
      obtain ⟨PK, hPK⟩ : ∃ y, PG * 8192 = y := ⟨_, rfl⟩
      obtain ⟨UK, hUK⟩ : ∃ y, UN * 1024 = y := ⟨_, rfl⟩
      have HRm := Lib.hid fun W => HRn.out W PK UK (by omega) (by omega)
      have hPK0 : 0 ≤ PK := by omega
      have hPK1 : PK < 1000000 := by omega
      have hUK0 : 0 ≤ UK := by omega
      have hUK1 : UK < 1000000 := by omega
      clear hmq hrq hPG hUN HRn HNew HP3 HQ3 HR3 HPr
      go_upto_region 11 with fail
      go_still_tail 18, (by kernel_rfl)
      repeat still_step
      change wpList _ _ _ _ _ w5.drew
      have HQd : Hid (ProgAt w5.drew p' g' S0) := HQr
      have HFd : Hid (Fr [g, g'] w w5.drew) := Lib.hid HFw.out.drew
      clear d0 d1 d2 d3 HQr HFw HFr HRr
      generalize w5.drew = w6 at *
      go_wp2_with fail
      (with_reducible refine (HRm.out w6).mono ?_)
      rintro e w7 ⟨rfl, hr7, hf7⟩
      have HR7 := Lib.hid hr7
      have HQ7 := Lib.hid (HQd.out.fr hf7 (by simp) (by simp))
      have HF7 : Hid (Fr [g, g'] w w7) := Lib.hid (HFd.out.tr hf7.nil)
      clear hr7 hf7 HQd HFd
      go_wp2_with fail
      (with_reducible refine (same_any w7 p' g' _ S0 a HQ7.out HR7.out HO.out ha0 ha1).mono ?_)
      rintro e w8 ⟨rfl, n8, rfl⟩
      go_wp2
      go_ret
      exact ⟨by simp, (HF7.out.drewN _).below (by simp; exact HG.out) (Nat.le_refl _)⟩

end Nm
end Go.Proofs.Ytgakdlbdbiacgaa
