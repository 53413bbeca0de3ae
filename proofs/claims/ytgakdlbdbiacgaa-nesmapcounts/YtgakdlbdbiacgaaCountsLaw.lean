/-
  picklocklaw11.NesmapCounts returns true for every input. No condition.
-/
import Derived.Test.YtgakdlbdbiacgaaNmShown
import Derived.Test.YtgakdlbdbiacgaaNmArgs
import Derived.Test.YtgakdlbdbiacgaaNmCount
namespace Go.Proofs.Ytgakdlbdbiacgaa
open Go.RowKit
namespace Nm

set_option maxRecDepth 100000 in
set_option maxHeartbeats 4000000 in
theorem counts_walk (mp mir pg un n : Int) (w : World) (hn : byte n) :
    Calls Try.prog 7 #[.agg #[.int .i64 mp, .int .i64 mir, .int .i64 pg, .int .i64 un], .int .u8 n] w fun e w' => e = .returned (.bool true) ∧ Below w.heap.size w w' := by
  have HN := Lib.hid hn
  obtain ⟨hn0, hn1⟩ := hn
  obtain ⟨z, hzz⟩ : ∃ z, w.heap.size = z := ⟨_, rfl⟩
  have hbx := Blk.fresh w 23 #[.int .i64 mp, .int .i64 mir, .int .i64 pg, .int .i64 un]
  have hfx : Fr [] w (w.alloc (.cells #[.int .i64 mp, .int .i64 mir, .int .i64 pg, .int .i64 un] 23)) := (Fr.refl [] w).alloc _
  rw [hzz] at hbx
  have HB := Lib.hid hbx
  have HF := Lib.hid hfx
  have HZ := Lib.hid (Nat.le_of_eq hzz)
  clear hbx hfx
  go_enter Try.func7, Try.ntmps7
  go_upto_region 1 with fail
  clear hzz
  generalize w.alloc _ = w0 at *
  go_wp2_with fail
  (with_reducible refine (shown11 w0).mono ?_)
  rintro e wa ⟨rfl, hf1⟩
  have hb1 := HB.out.fr hf1 (by simp)
  have hb1' : Blk (wa.setCell ⟨z, 0, none⟩ (.int .i64 4)) z 23 #[.int .i64 4, .int .i64 mir, .int .i64 pg, .int .i64 un] := hb1.put 0 _
  have HB1 := Lib.hid hb1'
  have HF1 : Hid (Fr [] w (wa.setCell ⟨z, 0, none⟩ (.int .i64 4))) := Lib.hid ((HF.out.tr hf1).setCell (.inr HZ.out) _)
  have c0 := hb1.cell 0
  have f0 := hb1.frozen 0
  simp at c0
  clear hf1 hb1 hb1' HF HB
  go_upto_region 3 with fail
  generalize wa.setCell _ _ = w1 at *
  have c0 := HB1.out.cell 0
  have c1 := HB1.out.cell 1
  have c2 := HB1.out.cell 2
  have c3 := HB1.out.cell 3
  simp at c0 c1 c2 c3
  go_wp2_with fail
  (with_reducible refine (made_any w1 4 mir pg un).mono ?_)
  rintro e w2 ⟨p, g, q, rfl, hp, hr, hf2, hg1, hg2, hg3⟩
  have HB2 := Lib.hid (HB1.out.fr hf2 (by simp))
  have HP := Lib.hid hp
  have HF2 : Hid (Fr [] w w2) := Lib.hid (HF1.out.tr hf2)
  have hs1 := HF1.out.size
  have hlt := hp.lt
  clear hp hr hf2 HB1 c0 c1 c2 c3
  have c0 := HB2.out.cell 0
  have c1 := HB2.out.cell 1
  have c2 := HB2.out.cell 2
  have c3 := HB2.out.cell 3
  simp at c0 c1 c2 c3
  go_wp2_with fail
  (with_reducible refine (made_any w2 4 mir pg un).mono ?_)
  rintro e w3 ⟨p', g', q', rfl, hp', hr', hf3, hg1', hg2', hg3'⟩
  have hO := cartS_ok 4 mir pg un
  have hm4 : (cartS 4 mir pg un).mp = 4 := by
    change low16 4 % 5 = 4
    decide
  have hal : (cartS 4 mir pg un).al = false := rfl
  have hak : (cartS 4 mir pg un).ask = false := rfl
  generalize cartS 4 mir pg un = S0 at *
  have HKn := Lib.hid (set0_kn S0 n hO hm4 HN.out hal hak)
  have HP3 := Lib.hid (HP.out.fr hf3 (by simp) (by simp))
  have HQ3 := Lib.hid hp'
  have HO := Lib.hid hO
  have HF3 : Hid (Fr [] w w3) := Lib.hid (HF2.out.tr hf3)
  have HD : Hid (p ≠ g' ∧ g ≠ g' ∧ p' ≠ g ∧ g' ≠ g) := Lib.hid ⟨by omega, by omega, by omega, by omega⟩
  have HG : Hid (w.heap.size ≤ g ∧ w.heap.size ≤ g') := Lib.hid ⟨Nat.le_trans hs1 hg2, Nat.le_trans HF2.out.size hg2'⟩
  clear hp' hr' hO hm4 hal hak hf3 hg1 hg2 hg3 hg1' hg2' hg3' hs1 hlt c0 c1 c2 c3 HB2 HF1 HF2 HP
  go_wp2_with fail
  go_loopw [10] (fun s10 wr => (s10 = .int .i64 0 ∧ ProgAt wr p g S0 ∧ ProgAt wr p' g' S0 ∧ Fr [g, g'] w3 wr) ∨ (s10 = .int .i64 1 ∧ ProgAt wr p g (set0 S0 n) ∧ ProgAt wr p' g' S0 ∧ Fr [g, g'] w3 wr) ∨ (s10 = .int .i64 2 ∧ ProgAt wr p g (set0 S0 n) ∧ ProgAt wr p' g' (set0 S0 n) ∧ Fr [g, g'] w3 wr)) (fun s10 _ => 2 - (intOf s10).toNat)
  case atStart => exact .inl ⟨rfl, HP3.out, HQ3.out, Fr.refl _ _⟩
  case round =>
    rcases hrel with ⟨rfl, hp, hq, hf⟩ | ⟨rfl, hp, hq, hf⟩ | ⟨rfl, hp, hq, hf⟩
    · have HPr := Lib.hid hp
      have HQr := Lib.hid hq
      have HFr := Lib.hid hf
      clear hp hq hf
      go_wp2_with fail
      (with_reducible refine (pwrite_all wr p g S0 49152 n HPr.out HO.out (by decide) (by decide) HN.out).mono ?_)
      rintro e w5 ⟨rfl, hp5, hf5⟩
      have HP5 := Lib.hid hp5
      have HQ5 := Lib.hid (HQr.out.fr hf5 (by simp; exact HD.out.2.2.1) (by simp; exact HD.out.2.2.2))
      have HF5 : Hid (Fr [g, g'] w3 w5) := Lib.hid (HFr.out.tr (hf5.sub (by simp)))
      clear hp5 hf5
      go_wp2_with fail
      (with_reducible refine (pwrite_all w5 p g _ 49153 0 HP5.out (ok_wr _ _ _ HO.out HN.out) (by decide) (by decide) byte0).mono ?_)
      rintro e w6 ⟨rfl, hp6, hf6⟩
      have HP6 := Lib.hid hp6
      have HQ6 := Lib.hid (HQ5.out.fr hf6 (by simp; exact HD.out.2.2.1) (by simp; exact HD.out.2.2.2))
      have HF6 : Hid (Fr [g, g'] w3 w6) := Lib.hid (HF5.out.tr (hf6.sub (by simp)))
      clear hp6 hf6
      go_wp2
      go_roundw
      case rel => exact .inr (.inl ⟨by simp, HP6.out, HQ6.out, HF6.out⟩)
      case measure => simp [intOf]
    · have HPr := Lib.hid hp
      have HQr := Lib.hid hq
      have HFr := Lib.hid hf
      clear hp hq hf
      go_wp2_with fail
      (with_reducible refine (pwrite_all wr p' g' S0 49152 n HQr.out HO.out (by decide) (by decide) HN.out).mono ?_)
      rintro e w5 ⟨rfl, hp5, hf5⟩
      have HQ5 := Lib.hid hp5
      have HP5 := Lib.hid (HPr.out.fr hf5 (by simp; exact HD.out.1) (by simp; exact HD.out.2.1))
      have HF5 : Hid (Fr [g, g'] w3 w5) := Lib.hid (HFr.out.tr (hf5.sub (by simp)))
      clear hp5 hf5
      go_wp2_with fail
      (with_reducible refine (pwrite_all w5 p' g' _ 49153 0 HQ5.out (ok_wr _ _ _ HO.out HN.out) (by decide) (by decide) byte0).mono ?_)
      rintro e w6 ⟨rfl, hp6, hf6⟩
      have HQ6 := Lib.hid hp6
      have HP6 := Lib.hid (HP5.out.fr hf6 (by simp; exact HD.out.1) (by simp; exact HD.out.2.1))
      have HF6 : Hid (Fr [g, g'] w3 w6) := Lib.hid (HF5.out.tr (hf6.sub (by simp)))
      clear hp6 hf6
      go_wp2
      go_roundw
      case rel => exact .inr (.inr ⟨by simp, HP6.out, HQ6.out, HF6.out⟩)
      case measure => simp [intOf]
    · have HPr := Lib.hid hp
      have HQr := Lib.hid hq
      have HFr := Lib.hid hf
      clear hp hq hf HP3 HQ3 HO
      obtain ⟨kb, ka⟩ := HKn.out
      have HKa := Lib.hid ka
      have HKb := Lib.hid kb
      clear ka kb HKn
      generalize set0 S0 n = S1 at *
      obtain ⟨w5, rfl⟩ : ∃ x, x = wr := ⟨_, rfl⟩
      go_wp2_with fail
      (with_reducible refine (pwrite_all w5 p g S1 57345 0 HPr.out HKb.out.ok (by decide) (by decide) byte0).mono ?_)
      rintro e w6 ⟨rfl, hp6, hf6⟩
      have HP6 := Lib.hid hp6
      have HQ6 := Lib.hid (HQr.out.fr hf6 (by simp; exact HD.out.2.2.1) (by simp; exact HD.out.2.2.2))
      have HF6 : Hid (Fr [g, g'] w3 w6) := Lib.hid (HFr.out.tr (hf6.sub (by simp)))
      clear hp6 hf6 HPr HQr HFr
      go_wp2_with fail
      go_loopw [12] (fun s12 wx => ∃ (t : Nat) (Sa Sb : St), s12 = .int .i64 (t : Int) ∧ t ≤ 2 ∧ ProgAt wx p g Sa ∧ ProgAt wx p' g' Sb ∧ Kn Sa n 0 true ∧ Kn Sb n 0 false ∧ Fr [g, g'] w3 wx) (fun s12 _ => 2 - (intOf s12).toNat)
      case atStart => exact ⟨0, _, _, rfl, by omega, HP6.out, HQ6.out, HKa.out, HKb.out, HF6.out⟩
      case round =>
        obtain ⟨t, Sa, Sb, rfl, ht2, hp, hq, hka, hkb, hf⟩ := hrel
        have HPr := Lib.hid hp
        have HQr := Lib.hid hq
        have HFr := Lib.hid hf
        have HKr := Lib.hid hka
        have HLr := Lib.hid hkb
        have ht0 : (0 : Int) ≤ t := by omega
        clear hp hq hf hka hkb HP6 HQ6 HF6 HKa HKb
        by_cases ht : t < 2
        · have ht' : (t : Int) < 2 := by omega
          have HT := Lib.hid ht
          go_wp2_with fail
          go_loopw [13] (fun s13 wx => ∃ (k : Nat) (Ta Tb : St), s13 = .int .i64 (k : Int) ∧ (k : Int) ≤ n ∧ ProgAt wx p g Ta ∧ ProgAt wx p' g' Tb ∧ Kn Ta n k true ∧ Kn Tb n k false ∧ Fr [g, g'] w3 wx) (fun s13 _ => 256 - (intOf s13).toNat)
          case atStart => exact ⟨0, Sa, Sb, rfl, hn0, HPr.out, HQr.out, HKr.out, HLr.out, HFr.out⟩
          case round =>
            obtain ⟨k, Ta, Tb, rfl, hkn, hp, hq, hka, hkb, hf⟩ := hrel
            clear HPr HQr HFr HKr HLr
            have HPr := Lib.hid hp
            have HQr := Lib.hid hq
            have HFr := Lib.hid hf
            have HKr := Lib.hid hka
            have HLr := Lib.hid hkb
            have hk0 : (0 : Int) ≤ k := by omega
            clear hp hq hf hka hkb
            by_cases hk : (k : Int) < n
            · have HK := Lib.hid hk
              have hka := HKr.out.clock hk0 hk
              have hkb := HLr.out.clock hk0 hk
              have hask1 := hka.ask
              have hask2 := hkb.ask
              go_wp2_with fail
              (with_reducible refine (pclock_any wr p g Ta HPr.out HKr.out.ok).mono ?_)
              rintro e w7 ⟨rfl, hp7, hf7⟩
              generalize clk Ta = Ua at *
              have HP7 := Lib.hid hp7
              have HQ7 := Lib.hid (HQr.out.fr hf7 (by simp; exact HD.out.2.2.1) (by simp; exact HD.out.2.2.2))
              have HF7 : Hid (Fr [g, g'] w3 w7) := Lib.hid (HFr.out.tr (hf7.sub (by simp)))
              have HUa := Lib.hid hka
              have HAa := Lib.hid hask1
              have HUb := Lib.hid hkb
              have HAb := Lib.hid hask2
              clear hp7 hf7 hka hkb hask1 hask2
              go_wp2_with fail
              (with_reducible refine (pclock_any w7 p' g' Tb HQ7.out HLr.out.ok).mono ?_)
              rintro e w8 ⟨rfl, hp8, hf8⟩
              generalize clk Tb = Ub at *
              have HQ8 := Lib.hid hp8
              have HP8 := Lib.hid (HP7.out.fr hf8 (by simp; exact HD.out.1) (by simp; exact HD.out.2.1))
              have HF8 : Hid (Fr [g, g'] w3 w8) := Lib.hid (HF7.out.tr (hf8.sub (by simp)))
              clear hp8 hf8
              go_wp2_with fail
              (with_reducible refine (pirq_any w8 p g Ua HP8.out HUa.out.ok).mono ?_)
              rintro e w9 ⟨rfl, rfl⟩
              rw [HAa.out]
              go_wp2_with fail
              (with_reducible refine (pirq_any w8 p' g' Ub HQ8.out HUb.out.ok).mono ?_)
              rintro e w9 ⟨rfl, rfl⟩
              rw [HAb.out]
              go_wp2
              go_roundw
              case rel => exact ⟨k + 1, Ua, Ub, by go_num, by have := HK.out; omega, HP8.out, HQ8.out, HUa.out, HUb.out, HF8.out⟩
              case measure => simp [intOf]; have := HK.out; omega
            · have hkn' : (k : Int) = n := by omega
              have HKa : Hid (Kn Ta n n true) := Lib.hid (by have := HKr.out; rwa [hkn'] at this)
              have HKb : Hid (Kn Tb n n false) := Lib.hid (by have := HLr.out; rwa [hkn'] at this)
              clear HKr HLr
              obtain ⟨w6, rfl⟩ : ∃ x, x = wr := ⟨_, rfl⟩
              have ha1 := (HKa.out.last hn0).2.2.2.2.1
              have hb1 := (HKb.out.last hn0).2.2.2.2.1
              have HOa := Lib.hid (HKa.out.last hn0).1
              have HOb := Lib.hid (HKb.out.last hn0).1
              have HQb := Lib.hid (HKb.out.quiet hn0)
              have hag := HKa.out.again hn0
              go_wp2_with fail
              (with_reducible refine (pclock_any w6 p g Ta HPr.out HKa.out.ok).mono ?_)
              rintro e w7 ⟨rfl, hp7, hf7⟩
              generalize clk Ta = Ua at *
              have HP7 := Lib.hid hp7
              have HQ7 := Lib.hid (HQr.out.fr hf7 (by simp; exact HD.out.2.2.1) (by simp; exact HD.out.2.2.2))
              have HF7 : Hid (Fr [g, g'] w3 w7) := Lib.hid (HFr.out.tr (hf7.sub (by simp)))
              have HAa := Lib.hid ha1
              have HAb := Lib.hid hb1
              have HAg := Lib.hid hag
              clear hp7 hf7 ha1 hb1 hag
              go_wp2_with fail
              (with_reducible refine (pclock_any w7 p' g' Tb HQ7.out HKb.out.ok).mono ?_)
              rintro e w8 ⟨rfl, hp8, hf8⟩
              generalize clk Tb = Ub at *
              have HQ8 := Lib.hid hp8
              have HP8 := Lib.hid (HP7.out.fr hf8 (by simp; exact HD.out.1) (by simp; exact HD.out.2.1))
              have HF8 : Hid (Fr [g, g'] w3 w8) := Lib.hid (HF7.out.tr (hf8.sub (by simp)))
              clear hp8 hf8
              go_wp2_with fail
              (with_reducible refine (pirq_any w8 p g Ua HP8.out HOa.out).mono ?_)
              rintro e w9 ⟨rfl, rfl⟩
              rw [HAa.out]
              go_wp2_with fail
              (with_reducible refine (pirq_any w8 p' g' Ub HQ8.out HOb.out).mono ?_)
              rintro e w9 ⟨rfl, rfl⟩
              rw [HAb.out]
              go_wp2_with fail
              (with_reducible refine (pwrite_all w8 p g Ua 57344 0 HP8.out HOa.out (by decide) (by decide) byte0).mono ?_)
              rintro e w9 ⟨rfl, hp9, hf9⟩
              have hOx := ok_wr Ua 57344 0 HOa.out byte0
              generalize Nm.wr Ua 57344 0 = Va at *
              have HP9 := Lib.hid hp9
              have HOx := Lib.hid hOx
              have HQ9 := Lib.hid (HQ8.out.fr hf9 (by simp; exact HD.out.2.2.1) (by simp; exact HD.out.2.2.2))
              have HF9 : Hid (Fr [g, g'] w3 w9) := Lib.hid (HF8.out.tr (hf9.sub (by simp)))
              clear hp9 hf9 hOx
              go_wp2_with fail
              (with_reducible refine (pirq_any w9 p g Va HP9.out HOx.out).mono ?_)
              rintro e w10 ⟨rfl, rfl⟩
              rw [HAg.out.1]
              go_wp2_with fail
              (with_reducible refine (pwrite_all w9 p g Va 57345 0 HP9.out HOx.out (by decide) (by decide) byte0).mono ?_)
              rintro e w10 ⟨rfl, hp10, hf10⟩
              have HP10 := Lib.hid hp10
              have HQ10 := Lib.hid (HQ9.out.fr hf10 (by simp; exact HD.out.2.2.1) (by simp; exact HD.out.2.2.2))
              have HF10 : Hid (Fr [g, g'] w3 w10) := Lib.hid (HF9.out.tr (hf10.sub (by simp)))
              clear hp10 hf10
              go_wp2
              go_roundw
              case rel => exact ⟨t + 1, _, Ub, by go_num, by have := HT.out; omega, HP10.out, HQ10.out, HAg.out.2, HQb.out, HF10.out⟩
              case measure => simp [intOf]; have := HT.out; omega
        · have ht' : ¬ (t : Int) < 2 := by omega
          go_wp2
          go_ret
          exact ⟨by simp, (HF3.out.nil.tr HFr.out).below (by simp; exact HG.out) (Nat.le_refl _)⟩

end Nm
end Go.Proofs.Ytgakdlbdbiacgaa
