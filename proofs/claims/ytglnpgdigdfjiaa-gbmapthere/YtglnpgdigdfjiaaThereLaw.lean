/-
  picklocklaw12.GbmapThere returns true for every input. No condition.
-/
import Derived.Test.YtglnpgdigdfjiaaGmShown
import Derived.Test.YtglnpgdigdfjiaaGmBits
namespace Go.Proofs.Ytglnpgdigdfjiaa
open Go.RowKit
namespace Gm

theorem ram_there (S : St) (a : Int) (hO : Ok S) : -1 ≤ ramOf S a ∧ (0 ≤ ramOf S a → ramOf S a < S.size ∧ 40960 ≤ a ∧ a < 49152) := by
  have hs := hO.size
  unfold ramOf
  split
  · omega
  · rename_i h
    have h2 : ¬ a < 40960 ∧ ¬ 49152 ≤ a ∧ ¬ S.size = 0 := by
      refine ⟨fun e => h (.inl e), fun e => h (.inr (.inl e)), fun e => h (.inr (.inr (.inr (.inl e))))⟩
    have h3 := Int.emod_nonneg (rbank S * 8192 + (a - 40960)) h2.2.2
    have h4 := Int.emod_lt_of_pos (rbank S * 8192 + (a - 40960)) (show 0 < S.size by omega)
    omega
theorem raw_start (S : St) (a : Int) (ha : 0 ≤ a) (hb : a < 32768) : raw S (a / 16384 * 16384) = raw S a := by
  unfold raw
  by_cases h : a < 16384
  · rw [if_pos h, if_pos (by omega)]
  · rw [if_neg h, if_neg (by omega)]
theorem bank_start (S : St) (a : Int) (ha : 0 ≤ a) (hb : a < 32768) : bankOf S (a / 16384 * 16384) = bankOf S a := by
  unfold bankOf
  rw [if_neg (by omega), if_neg (by omega), raw_start S a ha hb]

set_option maxRecDepth 100000 in
set_option maxHeartbeats 4000000 in
theorem there_walk (kd rom ram : Int) (A : Option Addr) (n c : Nat) (zs : List Raw) (a : Int) (w : World) (hl : zs.length = n) (hz : OpsIn w A zs) (_hc : n ≤ c) (_hm : c ≤ maxLen) (ha : u16 a) :
    Calls Try.prog 4 #[.agg #[.int .i64 kd, .int .i64 rom, .int .i64 ram], .slice A n c, .int .u16 a] w fun e w' => e = .returned (.bool true) ∧ Below w.heap.size w w' := by
  have HZ := Lib.hid hz
  have HL := Lib.hid hl
  have HA := Lib.hid ha
  obtain ⟨ha0, ha1⟩ := ha
  obtain ⟨z, hzz⟩ : ∃ z, w.heap.size = z := ⟨_, rfl⟩
  have hbx := Blk.fresh w 23 #[.int .i64 kd, .int .i64 rom, .int .i64 ram]
  have hfx : Fr [] w (w.alloc (.cells #[.int .i64 kd, .int .i64 rom, .int .i64 ram] 23)) := (Fr.refl [] w).alloc _
  rw [hzz] at hbx
  have HB := Lib.hid hbx
  have HF := Lib.hid hfx
  clear hz hl hbx hfx
  go_enter Try.func4, Try.ntmps4
  go_upto_region 1 with fail
  clear hzz
  generalize w.alloc _ = w0 at *
  go_wp2_with fail
  (with_reducible refine (shown12 w0).mono ?_)
  rintro e w1 ⟨rfl, hf1⟩
  have HF1 := Lib.hid (HF.out.tr hf1)
  have HB1 := Lib.hid (HB.out.fr hf1 (by simp))
  have hb1 := HB1.out
  have c0 := hb1.cell 0
  have c1 := hb1.cell 1
  have c2 := hb1.cell 2
  simp at c0 c1 c2
  clear hf1 hb1 HF HB
  go_wp2_with fail
  (with_reducible refine (made_any w1 kd rom ram).mono ?_)
  rintro e w2 ⟨p, q, rfl, hp, hr, hf2, hg1, hg2⟩
  have hO := cartS_ok kd rom ram
  generalize cartS kd rom ram = S0 at *
  have HP := Lib.hid hp
  have HR := Lib.hid hr
  have HO := Lib.hid hO
  have HF2 : Hid (Fr [] w w2) := Lib.hid (HF1.out.tr hf2)
  have HG : Hid (w.heap.size ≤ p) := Lib.hid (Nat.le_trans HF1.out.size hg1)
  have HNe : Hid (p ≠ q) := Lib.hid (hp.other hr)
  clear hp hr hO hf2 hg1 hg2 c0 c1 c2 HF1 HB1
  go_wp2_with fail
  go_loopw [10] (fun s10 wr => ∃ (i : Nat) (S : St), s10 = .int .i64 (i : Int) ∧ i ≤ n ∧ ProgAt wr p S ∧ Ok S ∧ (S.banks = S0.banks ∧ S.size = S0.size) ∧ Fr [p] w2 wr) (fun s10 _ => n - (intOf s10).toNat)
  case atStart => exact ⟨0, S0, rfl, Nat.zero_le _, HP.out, HO.out, ⟨rfl, rfl⟩, Fr.refl _ _⟩
  case round =>
    obtain ⟨i, S, rfl, hin, hp, hO, hlk, hf⟩ := hrel
    have HPr := Lib.hid hp
    have HOr := Lib.hid hO
    have HLr := Lib.hid hlk
    have HFr := Lib.hid hf
    have hi0 : (0 : Int) ≤ i := by omega
    clear hp hO hlk hf
    rcases (show (i < n ∧ i < 50) ∨ (¬ i < n) ∨ (i < n ∧ ¬ i < 50) by omega) with ⟨h1, h2⟩ | h1 | ⟨h1, h2⟩
    · have h1' : (i : Int) < n := by omega
      have h2' : (i : Int) < 50 := by omega
      obtain ⟨b, o, av, vv, rfl, q2, q3, ⟨ha0', ha1'⟩, hV⟩ := op_at HZ.out (HF2.out.nil.tr HFr.out) (by simp; exact HG.out) i (by rw [HL.out]; exact h1)
      have HV := Lib.hid hV
      clear hV
      go_upto_region 8 with fail
      go_still_tail 11, (by kernel_rfl)
      repeat still_step
      change wpList _ _ _ _ _ wr.drew
      have HPd : Hid (ProgAt wr.drew p S) := HPr
      have HFd : Hid (Fr [p] w2 wr.drew) := Lib.hid HFr.out.drew
      clear q2 q3 HPr HFr
      generalize wr.drew = w3 at *
      go_wp2_with fail
      (with_reducible refine (pwrite_any w3 p S av vv HPd.out HOr.out ha0' ha1' HV.out).mono ?_)
      rintro e w4 ⟨rfl, hp4, hf4⟩
      have HP4 := Lib.hid hp4
      have HF4 := Lib.hid (HFd.out.tr hf4)
      have HW := wr_kd S av vv
      have HW2 : Hid ((Gm.wr S av vv).banks = S0.banks ∧ (Gm.wr S av vv).size = S0.size) := Lib.hid ⟨HW.2.1.trans HLr.out.1, HW.2.2.trans HLr.out.2⟩
      clear hp4 hf4 HW
      go_wp2
      go_roundw
      case rel => exact ⟨i + 1, Gm.wr S av vv, by go_num, by omega, HP4.out, ok_wr _ _ _ HOr.out HV.out, HW2.out, HF4.out⟩
      case measure => simp [intOf]; omega
    all_goals
      obtain ⟨w5, rfl⟩ : ∃ x, x = wr := ⟨_, rfl⟩
      have hr5 : RefAt w5 q S0 := HR.out.fr HFr.out (by simp; exact fun e => HNe.out e.symm)
      have HFw : Hid (Fr [p] w w5) := Lib.hid (HF2.out.nil.tr HFr.out)
      have d1 : w5.cell? ⟨q, 1, none⟩ = some (.int .i64 S0.banks) := Blk.cell hr5 1
      have d2 : w5.cell? ⟨q, 2, none⟩ = some (.int .i64 S0.size) := Blk.cell hr5 2
      rw [← HLr.out.1] at d1
      rw [← HLr.out.2] at d2
      have HPn : Hid (∀ k, ProgAt (w5.drewN k) p S) := Lib.hid fun k => HPr.out.fr ((Fr.refl [] w5).drewN k) (by simp)
      have hrt := ram_there S a HOr.out
      have hbk := HOr.out.banks
      have HBd := Lib.hid (bankOf_bd S a HOr.out)
      obtain ⟨BK, hBK⟩ : ∃ y, S.banks = y := ⟨_, rfl⟩
      obtain ⟨SZ, hSZ⟩ : ∃ y, S.size = y := ⟨_, rfl⟩
      obtain ⟨RM, hRM⟩ : ∃ y, ramOf S a = y := ⟨_, rfl⟩
      rw [hBK] at d1 hbk HBd
      rw [hSZ] at d2 hrt
      rw [hRM] at hrt
      have HRM := Lib.hid hRM
      obtain ⟨BKK, hBKK⟩ : ∃ y, BK * 16384 = y := ⟨_, rfl⟩
      have hBKK0 : BKK < 20000000000 := by omega
      have hBKK1 : 0 ≤ BKK := by omega
      have hpart : (RM = -1) ∨ (0 ≤ RM ∧ RM < SZ ∧ 40960 ≤ a ∧ a < 49152) := by omega
      have HPart := Lib.hid hpart
      clear hr5 hBK hSZ hRM hrt hpart HR HP
      go_wp2_with fail
      (with_reducible refine (pram_any w5 p S a HPr.out HOr.out ha0 ha1).mono ?_)
      rintro e w6 ⟨rfl, n1, rfl⟩
      rw [HRM.out]
      by_cases hlo : 32768 ≤ a
      · have hrom : romOf S a = -1 := by unfold romOf; rw [if_pos hlo]
        have hbnk : bankOf S a = -1 := by unfold bankOf; rw [if_pos hlo]
        have HRo := Lib.hid hrom
        have HBn := Lib.hid hbnk
        clear hrom hbnk
        rcases HPart.out with rfl | ⟨g1, g2, g3, g4⟩
        all_goals
          go_wp2_with fail
          (with_reducible refine (prom_any _ p S a (HPn.out _) HOr.out ha0 ha1).mono ?_)
          rintro e w6 ⟨rfl, n2, rfl⟩
          rw [HRo.out, World.drewN_drewN]
          go_wp2_with fail
          (with_reducible refine (pbank_any _ p S a (HPn.out _) HOr.out ha0 ha1).mono ?_)
          rintro e w6 ⟨rfl, n3, rfl⟩
          rw [HBn.out, World.drewN_drewN]
          go_wp2
          go_ret
          exact ⟨by simp, (HFw.out.drewN _).below (by simp; exact HG.out) (Nat.le_refl _)⟩
      · have hlt : a < 32768 := by omega
        obtain ⟨hb0, hb1⟩ := HBd.out hlt
        obtain ⟨ST, hST⟩ : ∃ y, a / 16384 * 16384 = y := ⟨_, rfl⟩
        have hand := andNot14 a HA.out
        have hbs := bank_start S a ha0 hlt
        have hro : romOf S a = bankOf S a * 16384 + a % 16384 := by unfold romOf; rw [if_neg hlo]
        have hrs : romOf S ST = bankOf S ST * 16384 + ST % 16384 := by unfold romOf; rw [if_neg (by omega)]
        rw [hST] at hand hbs
        rw [hbs] at hrs
        obtain ⟨BV, hBV⟩ : ∃ y, bankOf S a = y := ⟨_, rfl⟩
        rw [hBV] at hb0 hb1 hbs hro hrs
        obtain ⟨PB, hPB⟩ : ∃ y, BV * 16384 = y := ⟨_, rfl⟩
        obtain ⟨RR, hRR⟩ : ∃ y, a % 16384 = y := ⟨_, rfl⟩
        rw [hPB, hRR] at hro
        rw [hPB, show ST % 16384 = 0 from by omega, Int.add_zero] at hrs
        obtain ⟨P, hP⟩ : ∃ y, PB + RR = y := ⟨_, rfl⟩
        rw [hP] at hro
        have hsub : a - ST = RR := by omega
        have hP0 : 0 ≤ P := by omega
        have hP1 : P < BKK := by omega
        have hPB0 : 0 ≤ PB := by omega
        have hPB1 : PB < 20000000000 := by omega
        have hR0 : 0 ≤ RR := by omega
        have hR1 : RR < 16384 := by omega
        have hS0 : 0 ≤ ST := by omega
        have hS1 : ST < 65536 := by omega
        have HBV := Lib.hid hBV
        have HBS := Lib.hid hbs
        have HRO := Lib.hid hro
        have HRS := Lib.hid hrs
        obtain rfl : RM = -1 := by
          rcases HPart.out with g | g
          · exact g
          · omega
        clear hBV hbs hro hrs hST hRR hb0 hb1 hbk HBd HPart
        go_wp2_with fail
        (with_reducible refine (prom_any _ p S a (HPn.out _) HOr.out ha0 ha1).mono ?_)
        rintro e w6 ⟨rfl, n2, rfl⟩
        rw [HRO.out, World.drewN_drewN]
        go_wp2_with fail
        (with_reducible refine (prom_any _ p S ST (HPn.out _) HOr.out hS0 hS1).mono ?_)
        rintro e w6 ⟨rfl, n3, rfl⟩
        rw [HRS.out, World.drewN_drewN]
        go_wp2_with fail
        (with_reducible refine (pbank_any _ p S a (HPn.out _) HOr.out ha0 ha1).mono ?_)
        rintro e w6 ⟨rfl, n4, rfl⟩
        rw [HBV.out, World.drewN_drewN]
        go_wp2_with fail
        (with_reducible refine (prom_any _ p S ST (HPn.out _) HOr.out hS0 hS1).mono ?_)
        rintro e w6 ⟨rfl, n5, rfl⟩
        rw [HRS.out, World.drewN_drewN]
        go_wp2_with fail
        (with_reducible refine (pbank_any _ p S ST (HPn.out _) HOr.out hS0 hS1).mono ?_)
        rintro e w6 ⟨rfl, n6, rfl⟩
        rw [HBS.out, World.drewN_drewN]
        go_wp2_with fail
        (with_reducible refine (pbank_any _ p S a (HPn.out _) HOr.out ha0 ha1).mono ?_)
        rintro e w6 ⟨rfl, n7, rfl⟩
        rw [HBV.out, World.drewN_drewN]
        go_wp2
        go_ret
        exact ⟨by simp, (HFw.out.drewN _).below (by simp; exact HG.out) (Nat.le_refl _)⟩

end Gm
end Go.Proofs.Ytglnpgdigdfjiaa
