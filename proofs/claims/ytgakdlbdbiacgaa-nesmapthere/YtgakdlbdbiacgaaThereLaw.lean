/-
  picklocklaw11.NesmapThere returns true for every input. No condition.
-/
import Derived.Test.YtgakdlbdbiacgaaNmShown
import Derived.Test.YtgakdlbdbiacgaaNmBits2
import Derived.Test.YtgakdlbdbiacgaaNmBound
namespace Go.Proofs.Ytgakdlbdbiacgaa
open Go.RowKit
namespace Nm

set_option maxRecDepth 100000 in
set_option maxHeartbeats 4000000 in
theorem there_walk (mp mir pg un : Int) (A : Option Addr) (n c : Nat) (zs : List Raw) (a : Int) (w : World) (hl : zs.length = n) (hz : OpsIn w A zs) (_hc : n ≤ c) (_hm : c ≤ maxLen) (ha : u16 a) :
    Calls Try.prog 4 #[.agg #[.int .i64 mp, .int .i64 mir, .int .i64 pg, .int .i64 un], .slice A n c, .int .u16 a] w fun e w' => e = .returned (.bool true) ∧ Below w.heap.size w w' := by
  have HZ := Lib.hid hz
  have HL := Lib.hid hl
  obtain ⟨ha0, ha1⟩ := ha
  obtain ⟨z, hzz⟩ : ∃ z, w.heap.size = z := ⟨_, rfl⟩
  have hbx := Blk.fresh w 23 #[.int .i64 mp, .int .i64 mir, .int .i64 pg, .int .i64 un]
  have hfx : Fr [] w (w.alloc (.cells #[.int .i64 mp, .int .i64 mir, .int .i64 pg, .int .i64 un] 23)) := (Fr.refl [] w).alloc _
  rw [hzz] at hbx
  have HB := Lib.hid hbx
  have HF := Lib.hid hfx
  clear hz hl hbx hfx
  go_enter Try.func4, Try.ntmps4
  go_upto_region 1 with fail
  clear hzz
  generalize w.alloc _ = w0 at *
  go_wp2_with fail
  (with_reducible refine (shown11 w0).mono ?_)
  rintro e w1 ⟨rfl, hf1⟩
  have HF1 := Lib.hid (HF.out.tr hf1)
  have hb1 := HB.out.fr hf1 (by simp)
  have c0 := hb1.cell 0
  have c1 := hb1.cell 1
  have c2 := hb1.cell 2
  have c3 := hb1.cell 3
  simp at c0 c1 c2 c3
  clear hf1 hb1 HF HB
  go_wp2_with fail
  (with_reducible refine (made_any w1 mp mir pg un).mono ?_)
  rintro e w2 ⟨p, g, q, rfl, hp, hr, hf2, hg1, hg2, hg3⟩
  have hO := cartS_ok mp mir pg un
  generalize cartS mp mir pg un = S0 at *
  have HP := Lib.hid hp
  have HR := Lib.hid hr
  have HO := Lib.hid hO
  have HF2 : Hid (Fr [] w w2) := Lib.hid (HF1.out.tr hf2)
  have HG : Hid (w.heap.size ≤ g) := Lib.hid (Nat.le_trans HF1.out.size hg2)
  have HNe : Hid (p ≠ q ∧ g ≠ q) := Lib.hid (hp.other hr)
  have hZ2 := HZ.out.later HF2.out (by simp)
  have HZ2 := Lib.hid hZ2
  clear hp hr hO hf2 hg1 hg2 hg3 c0 c1 c2 c3 hZ2 HF1
  go_wp2_with fail
  go_loopw [10] (fun s10 wr => ∃ (i : Nat) (S : St), s10 = .int .i64 (i : Int) ∧ i ≤ n ∧ ProgAt wr p g S ∧ Ok S ∧ Like S0 S ∧ Fr [g] w2 wr) (fun s10 _ => n - (intOf s10).toNat)
  case atStart => exact ⟨0, S0, rfl, Nat.zero_le _, HP.out, HO.out, Like.refl _, Fr.refl _ _⟩
  case round =>
    obtain ⟨i, S, rfl, hin, hp, hO, hlk, hf⟩ := hrel
    have HPr := Lib.hid hp
    have HOr := Lib.hid hO
    have HLr := Lib.hid hlk
    have HFr := Lib.hid hf
    have hi0 : (0 : Int) ≤ i := by omega
    clear hp hO hlk hf
    rcases (show (i < n ∧ i < 50) ∨ (¬ i < n) ∨ (i < n ∧ ¬ i < 50) by omega) with ⟨h1, h2⟩ | h1 | ⟨h1, h2⟩
    · have h1' : (i : Int) < n := by omega
      have h2' : (i : Int) < 50 := by omega
      have hf' : Fr [g] w wr := HF2.out.nil.tr HFr.out
      have HFw := Lib.hid hf'
      obtain ⟨b, o, kk, nn, av, vv, rfl, q0, q1, q2, q3, ⟨ha0', ha1'⟩, hV⟩ := op_at HZ.out hf' (by simp; exact HG.out) i (by rw [HL.out]; exact h1)
      have HV := Lib.hid hV
      clear hf' q0 q1 hV
      go_upto_region 8 with fail
      go_still_tail 11, (by kernel_rfl)
      repeat still_step
      change wpList _ _ _ _ _ wr.drew
      have HPd : Hid (ProgAt wr.drew p g S) := HPr
      have HFd : Hid (Fr [g] w2 wr.drew) := Lib.hid HFr.out.drew
      clear q2 q3 HPr HFr HFw
      generalize wr.drew = w3 at *
      go_wp2_with fail
      (with_reducible refine (pwrite_all w3 p g S av vv HPd.out HOr.out ha0' ha1' HV.out).mono ?_)
      rintro e w4 ⟨rfl, hp4, hf4⟩
      have HP4 := Lib.hid hp4
      have HF4 := Lib.hid (HFd.out.tr hf4)
      clear hp4 hf4
      go_wp2
      go_roundw
      case rel => exact ⟨i + 1, Nm.wr S av vv, by go_num, by omega, HP4.out, ok_wr _ _ _ HOr.out HV.out, HLr.out.trans (like_wr _ _ _), HF4.out⟩
      case measure => simp [intOf]; omega
    all_goals
      obtain ⟨w5, rfl⟩ : ∃ x, x = wr := ⟨_, rfl⟩
      have hr5 : RefAt w5 q S0 := HR.out.fr HFr.out (by simp; exact fun e => HNe.out.2 e.symm)
      have HFw : Hid (Fr [g] w w5) := Lib.hid (HF2.out.nil.tr HFr.out)
      have d0 : w5.cell? ⟨q, 0, none⟩ = some (.int .i64 S0.pg) := Blk.cell hr5 0
      have d1 : w5.cell? ⟨q, 1, none⟩ = some (.int .i64 S0.un) := Blk.cell hr5 1
      rw [← HLr.out.1] at d0
      rw [← HLr.out.2.1] at d1
      have HPn : Hid (∀ k, ProgAt (w5.drewN k) p g S) := Lib.hid fun k => HPr.out.fr ((Fr.refl [] w5).drewN k) (by simp) (by simp)
      have hub := HOr.out.un
      have hpb := HOr.out.pg
      obtain ⟨hc0, hc1, hc2⟩ := chr_bd S a HOr.out
      obtain ⟨X, hX⟩ : ∃ y, bits .xor .u16 a 8192 = y := ⟨_, rfl⟩
      have hx := xor13 a ⟨ha0, ha1⟩
      rw [hX] at hx
      have HCX := Lib.hid (chr_same S X a hx.2.2)
      obtain ⟨C, hC⟩ : ∃ y, chrOf S a = y := ⟨_, rfl⟩
      rw [hC] at hc0 hc1 hc2 HCX
      have HC := Lib.hid hC
      obtain ⟨UN, hUN⟩ : ∃ y, S.un = y := ⟨_, rfl⟩
      rw [hUN] at d1 hub hc1
      obtain ⟨UK, hUK⟩ : ∃ y, UN * 1024 = y := ⟨_, rfl⟩
      rw [hUK] at hc1
      have hUK0 : UK < 1000000 := by omega
      obtain ⟨y, hy⟩ : ∃ y, a % 1024 = y := ⟨_, rfl⟩
      rw [hy] at hc2
      have hy' : a.tmod 1024 = y := by rw [Int.tmod_eq_emod_of_nonneg ha0]; exact hy
      have hc2' : C.tmod 1024 = y := by rw [Int.tmod_eq_emod_of_nonneg hc0]; exact hc2
      have HX := Lib.hid hx
      clear hr5 hC hUN hx HR HP
      go_wp2_with fail
      (with_reducible refine (pchr_all w5 p g S a HPr.out HOr.out ha0 ha1).mono ?_)
      rintro e w6 ⟨rfl, n1, rfl⟩
      rw [HC.out]
      go_wp2_with fail
      (with_reducible refine (pchr_all _ p g S X (HPn.out _) HOr.out HX.out.1 HX.out.2.1).mono ?_)
      rintro e w6 ⟨rfl, n2, rfl⟩
      rw [HCX.out, World.drewN_drewN]
      go_wp2_with fail
      (with_reducible refine (pprg_all _ p g S a (HPn.out _) HOr.out ha0 ha1).mono ?_)
      rintro e w6 ⟨rfl, n3, rfl⟩
      rw [World.drewN_drewN]
      clear hX hc0 hc1 hc2 hc2' hy hy' hUK hUK0 d1
      by_cases hlo : a < 32768
      · rw [(page_lo S a hlo).2]
        have HLo := Lib.hid (page_lo S a hlo).1
        go_wp2_with fail
        (with_reducible refine (ppage_all _ p g S a (HPn.out _) HOr.out ha0 ha1).mono ?_)
        rintro e w6 ⟨rfl, n4, rfl⟩
        rw [HLo.out, World.drewN_drewN]
        go_wp2
        go_ret
        exact ⟨by simp, (HFw.out.drewN _).below (by simp; exact HG.out) (Nat.le_refl _)⟩
      · have hhi : 32768 ≤ a := by omega
        obtain ⟨hv0, hv1⟩ := page_bd S a HOr.out hhi
        obtain ⟨ST, hST⟩ : ∃ y, a / 8192 * 8192 = y := ⟨_, rfl⟩
        have hb13 := andNot13 a ⟨ha0, ha1⟩
        have hps := page_start S a hhi
        have hpr := prg_eq S a hhi
        have hpst := prg_eq S ST (by omega)
        rw [hST] at hb13 hps
        rw [hps] at hpst
        obtain ⟨PV, hPV⟩ : ∃ y, pageOf S a = y := ⟨_, rfl⟩
        obtain ⟨PG, hPG⟩ : ∃ y, S.pg = y := ⟨_, rfl⟩
        rw [hPV] at hv0 hv1 hps hpr hpst
        rw [hPG] at hv1 hpb d0
        obtain ⟨PB, hPB⟩ : ∃ y, PV * 8192 = y := ⟨_, rfl⟩
        obtain ⟨RR, hRR⟩ : ∃ y, a % 8192 = y := ⟨_, rfl⟩
        rw [hPB, hRR] at hpr
        rw [hPB, show ST % 8192 = 0 from by omega, Int.add_zero] at hpst
        obtain ⟨P, hP⟩ : ∃ y, PB + RR = y := ⟨_, rfl⟩
        rw [hP] at hpr
        obtain ⟨GB, hGB⟩ : ∃ y, PG * 8192 = y := ⟨_, rfl⟩
        have hsub : a - ST = RR := by omega
        have hP0 : 0 ≤ P := by omega
        have hP1 : P < GB := by omega
        have hGB1 : GB < 1000000 := by omega
        have hPB0 : 0 ≤ PB := by omega
        have hR0 : 0 ≤ RR := by omega
        have hR1 : RR < 8192 := by omega
        have hS0 : 0 ≤ ST := by omega
        have hS1 : ST < 65536 := by omega
        have HPV := Lib.hid hPV
        have HPS := Lib.hid hps
        have HPR := Lib.hid hpst
        rw [hpr]
        clear hPV hps hpst hpr hST hRR hPG hv1 hpb hhi
        go_wp2_with fail
        (with_reducible refine (pprg_all _ p g S ST (HPn.out _) HOr.out hS0 hS1).mono ?_)
        rintro e w6 ⟨rfl, n4, rfl⟩
        rw [HPR.out, World.drewN_drewN]
        go_wp2_with fail
        (with_reducible refine (ppage_all _ p g S a (HPn.out _) HOr.out ha0 ha1).mono ?_)
        rintro e w6 ⟨rfl, n5, rfl⟩
        rw [HPV.out, World.drewN_drewN]
        go_wp2_with fail
        (with_reducible refine (pprg_all _ p g S ST (HPn.out _) HOr.out hS0 hS1).mono ?_)
        rintro e w6 ⟨rfl, n6, rfl⟩
        rw [HPR.out, World.drewN_drewN]
        go_wp2_with fail
        (with_reducible refine (ppage_all _ p g S ST (HPn.out _) HOr.out hS0 hS1).mono ?_)
        rintro e w6 ⟨rfl, n7, rfl⟩
        rw [HPS.out, World.drewN_drewN]
        go_wp2_with fail
        (with_reducible refine (ppage_all _ p g S a (HPn.out _) HOr.out ha0 ha1).mono ?_)
        rintro e w6 ⟨rfl, n8, rfl⟩
        rw [HPV.out, World.drewN_drewN]
        go_wp2
        go_ret
        exact ⟨by simp, (HFw.out.drewN _).below (by simp; exact HG.out) (Nat.le_refl _)⟩

end Nm
end Go.Proofs.Ytgakdlbdbiacgaa
