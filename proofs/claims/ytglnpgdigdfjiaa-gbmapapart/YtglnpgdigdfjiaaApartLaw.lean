/-
  picklocklaw12.GbmapApart returns true for every input. No condition.
-/
import Derived.Test.YtglnpgdigdfjiaaGmShown
import Derived.Test.YtglnpgdigdfjiaaGmBits
import Derived.Test.YtglnpgdigdfjiaaGmSame
namespace Go.Proofs.Ytglnpgdigdfjiaa
open Go.RowKit
namespace Gm

set_option maxRecDepth 100000 in
set_option maxHeartbeats 4000000 in
theorem apart_walk (kd rom ram : Int) (A : Option Addr) (n c : Nat) (zs : List Raw) (a : Int) (w : World) (hl : zs.length = n) (hz : OpsIn w A zs) (_hc : n ≤ c) (_hm : c ≤ maxLen) (ha : u16 a) :
    Calls Try.prog 7 #[.agg #[.int .i64 kd, .int .i64 rom, .int .i64 ram], .slice A n c, .int .u16 a] w fun e w' => e = .returned (.bool true) ∧ Below w.heap.size w w' := by
  have HZ := Lib.hid hz
  have HL := Lib.hid hl
  obtain ⟨ha0, ha1⟩ := ha
  obtain ⟨z, hzz⟩ : ∃ z, w.heap.size = z := ⟨_, rfl⟩
  have hbx := Blk.fresh w 23 #[.int .i64 kd, .int .i64 rom, .int .i64 ram]
  have hfx : Fr [] w (w.alloc (.cells #[.int .i64 kd, .int .i64 rom, .int .i64 ram] 23)) := (Fr.refl [] w).alloc _
  rw [hzz] at hbx
  have HB := Lib.hid hbx
  have HF := Lib.hid hfx
  clear hz hl hbx hfx
  go_enter Try.func7, Try.ntmps7
  go_upto_region 1 with fail
  clear hzz
  generalize w.alloc _ = w0 at *
  go_wp2_with fail
  (with_reducible refine (shown12 w0).mono ?_)
  rintro e w1 ⟨rfl, hf1⟩
  have HF1 := Lib.hid (HF.out.tr hf1)
  have HB1 := Lib.hid (HB.out.fr hf1 (by simp))
  have hb1 := HB1.out
  have c0 := hb1.cell 0
  have c1 := hb1.cell 1
  have c2 := hb1.cell 2
  simp at c0 c1 c2
  clear hf1 hb1 HF HB
  go_wp2_with fail
  (with_reducible refine (made_any w1 kd rom ram).mono ?_)
  rintro e w2 ⟨p, q, rfl, hp, hr, hf2, hg1, hg2⟩
  have HB2 := Lib.hid (HB1.out.fr hf2 (by simp))
  have hb2 := HB2.out
  have c0 := hb2.cell 0
  have c1 := hb2.cell 1
  have c2 := hb2.cell 2
  simp at c0 c1 c2
  have HP := Lib.hid hp
  have HF2 : Hid (Fr [] w w2) := Lib.hid (HF1.out.tr hf2)
  have hs1 := HF1.out.size
  have hlt := hp.lt
  clear hp hr hf2 hb2 HB1
  go_wp2_with fail
  (with_reducible refine (made_any w2 kd rom ram).mono ?_)
  rintro e w3 ⟨p', q', rfl, hp', hr', hf3, hg1', hg2'⟩
  have hO := cartS_ok kd rom ram
  generalize cartS kd rom ram = S0 at *
  have HP3 := Lib.hid (HP.out.fr hf3 (by simp))
  have HQ3 := Lib.hid hp'
  have HR3 := Lib.hid hr'
  have HO := Lib.hid hO
  have HF3 : Hid (Fr [] w w3) := Lib.hid (HF2.out.tr hf3)
  have HD : Hid (p ≠ p' ∧ p' ≠ p ∧ q' ≠ p ∧ q' ≠ p') := Lib.hid ⟨by omega, by omega, by omega, fun e => hp'.other hr' e.symm⟩
  have HG : Hid (w.heap.size ≤ p ∧ w.heap.size ≤ p') := Lib.hid ⟨Nat.le_trans hs1 hg1, Nat.le_trans HF2.out.size hg1'⟩
  clear hp' hr' hO hf3 hg1 hg2 hg1' hg2' hs1 hlt c0 c1 c2 HB2 HF1 HF2 HP
  go_wp2_with fail
  go_loopw [12] (fun s12 wr => ∃ (i : Nat) (S : St), s12 = .int .i64 (i : Int) ∧ i ≤ n ∧ ProgAt wr p S ∧ ProgAt wr p' S0 ∧ Ok S ∧ Fr [p, p'] w3 wr) (fun s12 _ => n - (intOf s12).toNat)
  case atStart => exact ⟨0, S0, rfl, Nat.zero_le _, HP3.out, HQ3.out, HO.out, Fr.refl _ _⟩
  case round =>
    obtain ⟨i, S, rfl, hin, hp, hq, hO, hf⟩ := hrel
    have HPr := Lib.hid hp
    have HQr := Lib.hid hq
    have HOr := Lib.hid hO
    have HFr := Lib.hid hf
    have hi0 : (0 : Int) ≤ i := by omega
    clear hp hq hO hf
    rcases (show (i < n ∧ i < 50) ∨ (¬ i < n) ∨ (i < n ∧ ¬ i < 50) by omega) with ⟨h1, h2⟩ | h1 | ⟨h1, h2⟩
    · have h1' : (i : Int) < n := by omega
      have h2' : (i : Int) < 50 := by omega
      obtain ⟨b, o, av, vv, rfl, q2, q3, hA, hV⟩ := op_at HZ.out (HF3.out.nil.tr HFr.out) (by simp; exact HG.out) i (by rw [HL.out]; exact h1)
      have HV := Lib.hid hV
      obtain ⟨hx0, hx1⟩ := or15 av hA
      obtain ⟨ha0', ha1'⟩ := hA
      obtain ⟨X, hX⟩ : ∃ y, bits .or .u16 av 32768 = y := ⟨_, rfl⟩
      rw [hX] at hx0 hx1
      have HC2 : Hid (∀ W, Fr [p] wr W → W.cell? ⟨b, o + i * 2, none⟩ = some (.int .u16 av) ∧ W.cell? ⟨b, o + i * 2 + 1, none⟩ = some (.int .u8 vv)) := Lib.hid fun W hW => by
        have hb : b ∉ [p] := by
          intro hm
          simp at hm
          subst hm
          obtain ⟨b2, o2, e2, hc⟩ := HZ.out (by rw [HL.out]; omega)
          cases e2
          have h4 := World.block_lt_of_cell? w _ (hc 0 (by rw [HL.out]; omega)).1
          exact absurd HG.out.1 (by simpa using h4)
        exact ⟨hW.cell q2 hb, hW.cell q3 hb⟩
      clear hV
      go_upto_region 9 with fail
      go_still_tail 11, (by kernel_rfl)
      repeat still_step
      change wpList _ _ _ _ _ wr.drew
      have HPd : Hid (ProgAt wr.drew p S) := HPr
      have HQd : Hid (ProgAt wr.drew p' S0) := HQr
      have HFd : Hid (Fr [p, p'] w3 wr.drew) := Lib.hid HFr.out.drew
      have HFs : Hid (Fr [p] wr wr.drew) := Lib.hid (Fr.refl _ _).drew
      clear q2 q3 HPr HQr HFr
      generalize wr.drew = w4 at *
      go_wp2_with fail
      (with_reducible refine (pwrite_any w4 p S av vv HPd.out HOr.out ha0' ha1' HV.out).mono ?_)
      rintro e w5 ⟨rfl, hp5, hf5⟩
      have HP5 := Lib.hid hp5
      have HQ5 := Lib.hid (HQd.out.fr hf5 (by simp; exact HD.out.2.1))
      have HF5 : Hid (Fr [p, p'] w3 w5) := Lib.hid (HFd.out.tr (hf5.sub (by simp)))
      obtain ⟨q2, q3⟩ := HC2.out w5 (HFs.out.tr hf5)
      clear hp5 hf5 HPd HQd HFd HFs HC2
      go_upto_region 10 with fail
      go_still_tail 12, (by kernel_rfl)
      repeat still_step
      change wpList _ _ _ _ _ w5.drew
      have HPd : Hid (ProgAt w5.drew p (Gm.wr S av vv)) := HP5
      have HQd : Hid (ProgAt w5.drew p' S0) := HQ5
      have HFd : Hid (Fr [p, p'] w3 w5.drew) := Lib.hid HF5.out.drew
      clear q2 q3 HP5 HQ5 HF5
      generalize w5.drew = w6 at *
      have HW : Hid (Gm.wr S0 X vv = S0) := Lib.hid (by unfold Gm.wr; rw [if_pos (.inr hx0)])
      go_wp2_with fail
      (with_reducible refine (pwrite_any w6 p' S0 X vv HQd.out HO.out (by omega) hx1 HV.out).mono ?_)
      rintro e w7 ⟨rfl, hq7, hf7⟩
      rw [HW.out] at hq7
      have HQ7 := Lib.hid hq7
      have HP7 := Lib.hid (HPd.out.fr hf7 (by simp; exact HD.out.1))
      have HF7 : Hid (Fr [p, p'] w3 w7) := Lib.hid (HFd.out.tr (hf7.sub (by simp)))
      clear hq7 hf7 HPd HQd HFd
      go_wp2
      go_roundw
      case rel => exact ⟨i + 1, Gm.wr S av vv, by go_num, by omega, HP7.out, HQ7.out, ok_wr _ _ _ HOr.out HV.out, HF7.out⟩
      case measure => simp [intOf]; omega
    all_goals
      obtain ⟨w5, rfl⟩ : ∃ x, x = wr := ⟨_, rfl⟩
      have HRr : Hid (RefAt w5 q' S0) := Lib.hid (HR3.out.fr HFr.out (by simp; exact ⟨HD.out.2.2.1, HD.out.2.2.2⟩))
      have HFw : Hid (Fr [p, p'] w w5) := Lib.hid (HF3.out.nil.tr HFr.out)
      clear HP3 HQ3 HR3 HPr HFr
      go_wp2_with fail
      (with_reducible refine (same_any w5 p' q' S0 a HQr.out HRr.out HO.out ha0 ha1).mono ?_)
      rintro e w8 ⟨rfl, n8, rfl⟩
      go_wp2
      go_ret
      exact ⟨by simp, (HFw.out.drewN _).below (by simp; exact HG.out) (Nat.le_refl _)⟩

end Gm
end Go.Proofs.Ytglnpgdigdfjiaa
