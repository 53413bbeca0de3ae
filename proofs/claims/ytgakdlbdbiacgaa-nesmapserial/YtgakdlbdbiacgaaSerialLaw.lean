/-
  picklocklaw11.NesmapSerial returns true for every input. No condition.
-/
import Derived.Test.YtgakdlbdbiacgaaNmShown
import Derived.Test.YtgakdlbdbiacgaaNmArgs
import Derived.Test.YtgakdlbdbiacgaaNmGather
namespace Go.Proofs.Ytgakdlbdbiacgaa
open Go.RowKit
namespace Nm

theorem and126 : ∀ y, byte y → 0 ≤ bits .and .u8 y 126 ∧ bits .and .u8 y 126 ≤ 126 ∧ bits .and .u8 y 126 % 2 = 0 := of_byte _ (by decide +kernel)
theorem orEven (m : Int) (hm : byte m) (he : m % 2 = 0) (e : Int) (h : e = 0 ∨ e = 1) : bits .or .u8 m e = m + e := by
  have := of_byte (fun m => m % 2 = 0 → bits .or .u8 m 0 = m + 0 ∧ bits .or .u8 m 1 = m + 1) (by decide +kernel) m hm he
  rcases h with rfl | rfl
  · exact this.1
  · exact this.2
theorem or128 : ∀ n, byte n → 128 ≤ bits .or .u8 128 n ∧ bits .or .u8 128 n < 256 := of_byte _ (by decide +kernel)
theorem and3_bd (n : Int) : 0 ≤ bits .and .i64 n 3 ∧ bits .and .i64 n 3 ≤ 3 := by
  have h : (BitVec.ofInt 64 3).toNat = 2 ^ 2 - 1 := by decide
  have key : (BitVec.ofInt 64 n &&& BitVec.ofInt 64 3).toNat = (n % ((2 ^ 64 : Nat) : Int)).toNat % 2 ^ 2 := by
    rw [BitVec.toNat_and, BitVec.toNat_ofInt, h, Nat.and_two_pow_sub_one_eq_mod]
  have e : bits .and .i64 n 3 = IntKind.i64.wrap ((BitVec.ofInt 64 n &&& BitVec.ofInt 64 3).toNat : Nat) := rfl
  rw [e, key, IntKind.wrap_i64]
  omega

/-- What is written: a bit of the number below others. -/
theorem put_bit (y x : Int) (hy : byte y) (hx : byte x) : ∃ V, bits .or .u8 (bits .and .u8 y 126) (bits .and .u8 x 1) = V ∧ byte V ∧ V < 128 ∧ V % 2 = x % 2 := by
  obtain ⟨m0, m1, m2⟩ := and126 y hy
  rw [and1 x hx]
  rw [orEven _ ⟨m0, by omega⟩ m2 (x % 2) (by omega)]
  exact ⟨_, rfl, ⟨by omega, by omega⟩, by omega, by omega⟩

set_option maxRecDepth 100000 in
set_option maxHeartbeats 4000000 in
theorem serial_walk (mp mir pg un ah n y0 y1 y2 y3 y4 : Int) (w : World) (hn : byte n) (hy0 : byte y0) (hy1 : byte y1) (hy2 : byte y2) (hy3 : byte y3) (hy4 : byte y4) :
    Calls Try.prog 6 #[.agg #[.int .i64 mp, .int .i64 mir, .int .i64 pg, .int .i64 un, .int .i64 ah, .int .u8 n, .int .u8 y0, .int .u8 y1, .int .u8 y2, .int .u8 y3, .int .u8 y4]] w fun e w' => e = .returned (.bool true) ∧ Below w.heap.size w w' := by
  have HN := Lib.hid hn
  have HY : Hid (byte y0 ∧ byte y1 ∧ byte y2 ∧ byte y3 ∧ byte y4) := Lib.hid ⟨hy0, hy1, hy2, hy3, hy4⟩
  obtain ⟨hn0, hn1⟩ := hn
  obtain ⟨E, hE⟩ : ∃ y, bits .and .i64 ah 3 = y := ⟨_, rfl⟩
  have hE2 := and3_bd ah
  rw [hE] at hE2
  obtain ⟨hE0, hE1⟩ := hE2
  obtain ⟨V0, hV0⟩ : ∃ y, bits .or .u8 128 n = y := ⟨_, rfl⟩
  have hV1 := or128 n HN.out
  rw [hV0] at hV1
  have HV0 := Lib.hid hV1
  clear hV1 hy0 hy1 hy2 hy3 hy4
  obtain ⟨z, hzz⟩ : ∃ z, w.heap.size = z := ⟨_, rfl⟩
  have hbx := Blk.fresh w 51 #[.int .i64 mp, .int .i64 mir, .int .i64 pg, .int .i64 un, .int .i64 ah, .int .u8 n, .int .u8 y0, .int .u8 y1, .int .u8 y2, .int .u8 y3, .int .u8 y4]
  have hfx : Fr [] w (w.alloc (.cells #[.int .i64 mp, .int .i64 mir, .int .i64 pg, .int .i64 un, .int .i64 ah, .int .u8 n, .int .u8 y0, .int .u8 y1, .int .u8 y2, .int .u8 y3, .int .u8 y4] 51)) := (Fr.refl [] w).alloc _
  rw [hzz] at hbx
  have HB := Lib.hid hbx
  have HF := Lib.hid hfx
  have HZ := Lib.hid (Nat.le_of_eq hzz)
  clear hbx hfx
  go_enter Try.func6, Try.ntmps6
  go_upto_region 1 with fail
  clear hzz
  generalize w.alloc _ = w0 at *
  go_wp2_with fail
  (with_reducible refine (shown11 w0).mono ?_)
  rintro e wa ⟨rfl, hf1⟩
  have hb1 := HB.out.fr hf1 (by simp)
  have hb1' : Blk (wa.setCell ⟨z, 0, none⟩ (.int .i64 1)) z 51 #[.int .i64 1, .int .i64 mir, .int .i64 pg, .int .i64 un, .int .i64 ah, .int .u8 n, .int .u8 y0, .int .u8 y1, .int .u8 y2, .int .u8 y3, .int .u8 y4] := hb1.put 0 _
  have HB1 := Lib.hid hb1'
  have HF1 : Hid (Fr [] w (wa.setCell ⟨z, 0, none⟩ (.int .i64 1))) := Lib.hid ((HF.out.tr hf1).setCell (.inr HZ.out) _)
  have c0 := hb1.cell 0
  have c5 := hb1.cell 5
  have f0 := hb1.frozen 0
  simp at c0 c5
  clear hf1 hb1 hb1' HF HB
  go_upto_region 4 with fail
  generalize wa.setCell _ _ = w1 at *
  have c0 := HB1.out.cell 0
  have c1 := HB1.out.cell 1
  have c2 := HB1.out.cell 2
  have c3 := HB1.out.cell 3
  simp at c0 c1 c2 c3
  go_wp2_with fail
  (with_reducible refine (made_any w1 1 mir pg un).mono ?_)
  rintro e w2 ⟨p, g, q, rfl, hp, hr, hf2, hg1, hg2, hg3⟩
  have hO := cartS_ok 1 mir pg un
  have hm1 : (cartS 1 mir pg un).mp = 1 := by
    change low16 1 % 5 = 1
    decide
  generalize cartS 1 mir pg un = S0 at *
  have hzlt := HB1.out.lt
  have HBx : Hid (∀ W, Fr [g] w2 W → Blk W z 51 #[.int .i64 1, .int .i64 mir, .int .i64 pg, .int .i64 un, .int .i64 ah, .int .u8 n, .int .u8 y0, .int .u8 y1, .int .u8 y2, .int .u8 y3, .int .u8 y4]) := Lib.hid fun W hW => (HB1.out.fr hf2 (by simp)).fr hW (by simp; omega)
  have HP := Lib.hid hp
  have HR := Lib.hid hr
  have HO := Lib.hid hO
  have HM := Lib.hid hm1
  have HF2 : Hid (Fr [] w w2) := Lib.hid (HF1.out.tr hf2)
  have HG : Hid (w.heap.size ≤ g) := Lib.hid (Nat.le_trans HF1.out.size hg2)
  have HNe : Hid (p ≠ q ∧ g ≠ q) := Lib.hid (hp.other hr)
  clear hp hr hO hm1 hf2 hg1 hg2 hg3 hzlt c0 c1 c2 c3 HB1 HF1
  go_wp2_with fail
  go_loopw [7] (fun s7 wr => ∃ (k : Nat) (S : St), s7 = .int .i64 (k : Int) ∧ (k : Int) ≤ E ∧ ProgAt wr p g S ∧ Ok S ∧ Like S0 S ∧ Fr [g] w2 wr) (fun s7 _ => 4 - (intOf s7).toNat)
  case atStart => exact ⟨0, S0, rfl, hE0, HP.out, HO.out, Like.refl _, Fr.refl _ _⟩
  case round =>
    obtain ⟨k, S, rfl, hk, hp, hO, hlk, hf⟩ := hrel
    have c4 := (HBx.out wr hf).cell 4
    simp at c4
    have HPr := Lib.hid hp
    have HOr := Lib.hid hO
    have HLr := Lib.hid hlk
    have HFr := Lib.hid hf
    have hk0 : (0 : Int) ≤ k := by omega
    clear hp hO hlk hf
    by_cases hlt : (k : Int) < E
    · have HK := Lib.hid hlt
      have hk4 : (k : Int) < 4 := by omega
      go_wp2_with fail
      (with_reducible refine (pwrite_all wr p g S 65535 1 HPr.out HOr.out (by decide) (by decide) (by unfold byte; decide)).mono ?_)
      rintro e w5 ⟨rfl, hp5, hf5⟩
      have HP5 := Lib.hid hp5
      have HF5 := Lib.hid (HFr.out.tr hf5)
      clear hp5 hf5
      go_wp2
      go_roundw
      case rel => exact ⟨k + 1, _, by go_num, by have := HK.out; omega, HP5.out, ok_wr _ _ _ HOr.out (by unfold byte; decide), HLr.out.trans (like_wr _ _ _), HF5.out⟩
      case measure => simp [intOf]; have := HK.out; omega
    · obtain ⟨w5, rfl⟩ : ∃ x, x = wr := ⟨_, rfl⟩
      go_wp2_with fail
      (with_reducible refine (pwrite_all w5 p g S 32768 V0 HPr.out HOr.out (by decide) (by decide) (by have := HV0.out; unfold byte; omega)).mono ?_)
      rintro e w6 ⟨rfl, hp6, hf6⟩
      have hks : Ks (Nm.wr S 32768 V0) n 0 := Ks.begin HOr.out (HLr.out.2.2.trans HM.out) (by decide) HV0.out.1 (by have := HV0.out; unfold byte; omega)
      have hl6 := HLr.out.trans (like_wr S 32768 V0)
      generalize Nm.wr S 32768 V0 = S6 at *
      have HP6 := Lib.hid hp6
      have HK6 := Lib.hid hks
      have HL6 := Lib.hid hl6
      have HF6 := Lib.hid (HFr.out.tr hf6)
      clear hp6 hf6 hks hl6 HPr HOr HLr HFr HP HO HM
      go_wp2_with fail
      go_loopw [8] (fun s8 wx => ∃ (i : Int) (T : St), s8 = .int .i64 i ∧ 0 ≤ i ∧ i ≤ 5 ∧ ProgAt wx p g T ∧ Like S0 T ∧ (i < 5 → Ks T n i) ∧ (i = 5 → Kl T n) ∧ Fr [g] w2 wx) (fun s8 _ => 5 - (intOf s8).toNat)
      case atStart => exact ⟨0, S6, rfl, by omega, by omega, HP6.out, HL6.out, fun _ => HK6.out, fun h => by omega, HF6.out⟩
      case round =>
        obtain ⟨i, T, rfl, hi0, hi5, hp, hlk, hks, hkl, hf⟩ := hrel
        have hbb := HBx.out wr hf
        have HPr := Lib.hid hp
        have HKs := Lib.hid hks
        have HKl := Lib.hid hkl
        have HLr := Lib.hid hlk
        have HFr := Lib.hid hf
        clear hp hlk hks hkl hf HP6 HK6 HL6 HF6
        obtain rfl | rfl | rfl | rfl | rfl | rfl : i = 0 ∨ i = 1 ∨ i = 2 ∨ i = 3 ∨ i = 4 ∨ i = 5 := by omega
        · have c6 : wr.cell? ⟨z, 6, none⟩ = some (.int .u8 y0) := hbb.cell 6
          obtain ⟨V, hVe, hVb, hVl, hVm⟩ := put_bit y0 n HY.out.1 (by unfold byte; omega)
          have HV := Lib.hid hVe
          have HVb := Lib.hid hVb
          have HVl := Lib.hid hVl
          have HVm := Lib.hid hVm
          clear hbb hVe hVb hVl hVm
          go_wp2_with fail
          rw [HV.out]
          (with_reducible refine (pwrite_all wr p g T 32768 V HPr.out (HKs.out (by decide)).ok (by decide) (by decide) HVb.out).mono ?_)
          rintro e w7 ⟨rfl, hp7, hf7⟩
          have hks : Ks (Nm.wr T 32768 V) n (0 + 1) := (HKs.out (by decide)).step (by decide) (by decide) (by decide) HVl.out HVb.out (by rw [HVm.out]; change n % 2 = n / 1 % 2; omega) hn0
          have hl7 := HLr.out.trans (like_wr T 32768 V)
          generalize Nm.wr T 32768 V = U at *
          have HP7 := Lib.hid hp7
          have HK7 := Lib.hid hks
          have HL7 := Lib.hid hl7
          have HF7 := Lib.hid (HFr.out.tr hf7)
          clear hp7 hf7 hks hl7
          go_wp2
          go_roundw
          case rel => exact ⟨1, U, by simp, by omega, by omega, HP7.out, HL7.out, fun _ => HK7.out, fun h => by omega, HF7.out⟩
          case measure => simp [intOf]
        · have c6 : wr.cell? ⟨z, 7, none⟩ = some (.int .u8 y1) := hbb.cell 7
          obtain ⟨V, hVe, hVb, hVl, hVm⟩ := put_bit y1 (n / 2) HY.out.2.1 (by unfold byte; omega)
          have HV := Lib.hid hVe
          have HVb := Lib.hid hVb
          have HVl := Lib.hid hVl
          have HVm := Lib.hid hVm
          clear hbb hVe hVb hVl hVm
          go_wp2_with fail
          rw [HV.out]
          (with_reducible refine (pwrite_all wr p g T 32768 V HPr.out (HKs.out (by decide)).ok (by decide) (by decide) HVb.out).mono ?_)
          rintro e w7 ⟨rfl, hp7, hf7⟩
          have hks : Ks (Nm.wr T 32768 V) n (1 + 1) := (HKs.out (by decide)).step (by decide) (by decide) (by decide) HVl.out HVb.out (by rw [HVm.out]; change (n / 2) % 2 = n / 2 % 2; omega) hn0
          have hl7 := HLr.out.trans (like_wr T 32768 V)
          generalize Nm.wr T 32768 V = U at *
          have HP7 := Lib.hid hp7
          have HK7 := Lib.hid hks
          have HL7 := Lib.hid hl7
          have HF7 := Lib.hid (HFr.out.tr hf7)
          clear hp7 hf7 hks hl7
          go_wp2
          go_roundw
          case rel => exact ⟨2, U, by simp, by omega, by omega, HP7.out, HL7.out, fun _ => HK7.out, fun h => by omega, HF7.out⟩
          case measure => simp [intOf]
        · have c6 : wr.cell? ⟨z, 8, none⟩ = some (.int .u8 y2) := hbb.cell 8
          obtain ⟨V, hVe, hVb, hVl, hVm⟩ := put_bit y2 (n / 4) HY.out.2.2.1 (by unfold byte; omega)
          have HV := Lib.hid hVe
          have HVb := Lib.hid hVb
          have HVl := Lib.hid hVl
          have HVm := Lib.hid hVm
          clear hbb hVe hVb hVl hVm
          go_wp2_with fail
          rw [HV.out]
          (with_reducible refine (pwrite_all wr p g T 32768 V HPr.out (HKs.out (by decide)).ok (by decide) (by decide) HVb.out).mono ?_)
          rintro e w7 ⟨rfl, hp7, hf7⟩
          have hks : Ks (Nm.wr T 32768 V) n (2 + 1) := (HKs.out (by decide)).step (by decide) (by decide) (by decide) HVl.out HVb.out (by rw [HVm.out]; change (n / 4) % 2 = n / 4 % 2; omega) hn0
          have hl7 := HLr.out.trans (like_wr T 32768 V)
          generalize Nm.wr T 32768 V = U at *
          have HP7 := Lib.hid hp7
          have HK7 := Lib.hid hks
          have HL7 := Lib.hid hl7
          have HF7 := Lib.hid (HFr.out.tr hf7)
          clear hp7 hf7 hks hl7
          go_wp2
          go_roundw
          case rel => exact ⟨3, U, by simp, by omega, by omega, HP7.out, HL7.out, fun _ => HK7.out, fun h => by omega, HF7.out⟩
          case measure => simp [intOf]
        · have c6 : wr.cell? ⟨z, 9, none⟩ = some (.int .u8 y3) := hbb.cell 9
          obtain ⟨V, hVe, hVb, hVl, hVm⟩ := put_bit y3 (n / 8) HY.out.2.2.2.1 (by unfold byte; omega)
          have HV := Lib.hid hVe
          have HVb := Lib.hid hVb
          have HVl := Lib.hid hVl
          have HVm := Lib.hid hVm
          clear hbb hVe hVb hVl hVm
          go_wp2_with fail
          rw [HV.out]
          (with_reducible refine (pwrite_all wr p g T 32768 V HPr.out (HKs.out (by decide)).ok (by decide) (by decide) HVb.out).mono ?_)
          rintro e w7 ⟨rfl, hp7, hf7⟩
          have hks : Ks (Nm.wr T 32768 V) n (3 + 1) := (HKs.out (by decide)).step (by decide) (by decide) (by decide) HVl.out HVb.out (by rw [HVm.out]; change (n / 8) % 2 = n / 8 % 2; omega) hn0
          have hl7 := HLr.out.trans (like_wr T 32768 V)
          generalize Nm.wr T 32768 V = U at *
          have HP7 := Lib.hid hp7
          have HK7 := Lib.hid hks
          have HL7 := Lib.hid hl7
          have HF7 := Lib.hid (HFr.out.tr hf7)
          clear hp7 hf7 hks hl7
          go_wp2
          go_roundw
          case rel => exact ⟨4, U, by simp, by omega, by omega, HP7.out, HL7.out, fun _ => HK7.out, fun h => by omega, HF7.out⟩
          case measure => simp [intOf]
        · have c6 : wr.cell? ⟨z, 10, none⟩ = some (.int .u8 y4) := hbb.cell 10
          obtain ⟨V, hVe, hVb, hVl, hVm⟩ := put_bit y4 (n / 16) HY.out.2.2.2.2 (by unfold byte; omega)
          have HV := Lib.hid hVe
          have HVb := Lib.hid hVb
          have HVl := Lib.hid hVl
          have HVm := Lib.hid hVm
          clear hbb hVe hVb hVl hVm
          go_wp2_with fail
          rw [HV.out]
          (with_reducible refine (pwrite_all wr p g T 57344 V HPr.out (HKs.out (by decide)).ok (by decide) (by decide) HVb.out).mono ?_)
          rintro e w7 ⟨rfl, hp7, hf7⟩
          have hkl : Kl (Nm.wr T 57344 V) n := (HKs.out (by decide)).last HVl.out HVb.out (by rw [HVm.out]) hn0
          have hl7 := HLr.out.trans (like_wr T 57344 V)
          generalize Nm.wr T 57344 V = U at *
          have HP7 := Lib.hid hp7
          have HK7 := Lib.hid hkl
          have HL7 := Lib.hid hl7
          have HF7 := Lib.hid (HFr.out.tr hf7)
          clear hp7 hf7 hkl hl7
          go_wp2
          go_roundw
          case rel => exact ⟨5, U, by simp, by omega, by omega, HP7.out, HL7.out, fun h => by omega, fun _ => HK7.out, HF7.out⟩
          case measure => simp [intOf]
        · obtain ⟨w7, rfl⟩ : ∃ x, x = wr := ⟨_, rfl⟩
          have HL5 := Lib.hid (HKl.out rfl)
          obtain ⟨e1, e2, e3, e4⟩ := HL5.out.pages hn0
          have hr7 : RefAt w7 q S0 := HR.out.fr HFr.out (by simp; exact fun e => HNe.out.2 e.symm)
          have d0 : w7.cell? ⟨q, 0, none⟩ = some (.int .i64 S0.pg) := Blk.cell hr7 0
          rw [← HLr.out.1] at d0
          have hpg := HL5.out.ok.pg
          have HP1 := Lib.hid fun k => ppage_all (w7.drewN k) p g T 32768 (HPr.out.fr ((Fr.refl [] w7).drewN k) (by simp) (by simp)) HL5.out.ok (by decide) (by decide)
          have HP2 := Lib.hid fun k => ppage_all (w7.drewN k) p g T 40960 (HPr.out.fr ((Fr.refl [] w7).drewN k) (by simp) (by simp)) HL5.out.ok (by decide) (by decide)
          have HP3 := Lib.hid fun k => ppage_all (w7.drewN k) p g T 49152 (HPr.out.fr ((Fr.refl [] w7).drewN k) (by simp) (by simp)) HL5.out.ok (by decide) (by decide)
          have HP4 := Lib.hid fun k => ppage_all (w7.drewN k) p g T 57344 (HPr.out.fr ((Fr.refl [] w7).drewN k) (by simp) (by simp)) HL5.out.ok (by decide) (by decide)
          rw [e1] at HP1
          rw [e2] at HP2
          rw [e3] at HP3
          rw [e4] at HP4
          have HFw : Hid (Fr [g] w w7) := Lib.hid (HF2.out.nil.tr HFr.out)
          obtain ⟨PG, hPG⟩ : ∃ y, T.pg = y := ⟨_, rfl⟩
          rw [hPG] at HP1 HP2 HP3 HP4 d0 hpg
          obtain ⟨g0, g1⟩ := hpg
          obtain ⟨B, hB⟩ : ∃ y, n % 16 = y := ⟨_, rfl⟩
          have hB' : n.tmod 16 = B := by rw [Int.tmod_eq_emod_of_nonneg hn0]; exact hB
          obtain ⟨X1, hX1⟩ : ∃ y, B * 2 = y := ⟨_, rfl⟩
          obtain ⟨X2, hX2⟩ : ∃ y, X1 + 1 = y := ⟨_, rfl⟩
          rw [hB, hX1] at HP1
          rw [hB, hX1, hX2] at HP2
          obtain ⟨v1, hv1⟩ : ∃ y, X1 % PG = y := ⟨_, rfl⟩
          obtain ⟨v2, hv2⟩ : ∃ y, X2 % PG = y := ⟨_, rfl⟩
          rw [hv1] at HP1
          rw [hv2] at HP2
          have hX10 : 0 ≤ X1 := by omega
          have hX11 : X1 < 32 := by omega
          have hv1' : X1.tmod PG = v1 := by rw [Int.tmod_eq_emod_of_nonneg hX10]; exact hv1
          have hv2' : X2.tmod PG = v2 := by rw [Int.tmod_eq_emod_of_nonneg (by omega)]; exact hv2
          obtain ⟨G2, hG2⟩ : ∃ y, PG - 2 = y := ⟨_, rfl⟩
          obtain ⟨G1, hG1⟩ : ∃ y, PG - 1 = y := ⟨_, rfl⟩
          rw [hG2] at HP3
          rw [hG1] at HP4
          have hgz : ¬ PG = 0 := by omega
          have hgz' : (PG == 0) = false := by rw [beq_eq_false_iff_ne]; exact hgz
          have hB0 : 0 ≤ B := by omega
          have hB1 : B < 16 := by omega
          clear e1 e2 e3 e4 hr7 hPG hbb HPr HKs HKl HLr HFr HR HL5 hB hv1 hv2
          go_upto_region 20 with fail
          go_quiet (first
            | (go_at_call 18; with_reducible exact Calls.quiet_of (HP1.out _))
            | (go_at_call 18; with_reducible exact Calls.quiet_of (HP2.out _))
            | (go_at_call 18; with_reducible exact Calls.quiet_of (HP3.out _))
            | (go_at_call 18; with_reducible exact Calls.quiet_of (HP4.out _)))
          go_wp2
          go_ret
          exact ⟨by simp, (HFw.out.drewN _).below (by simp; exact HG.out) (Nat.le_refl _)⟩

end Nm
end Go.Proofs.Ytgakdlbdbiacgaa
