/-
  picklocklaw06.UpsSpoilt returns true for every input: a patch of which at most four bytes next to each other were changed is refused, and so is what is too short. No condition.
-/
import Derived.Test.YtpbjbmmnncohfaaUpsSpoilMath
import Derived.Test.YtpbjbmmnncohfaaUpsBackLaw
import Derived.Deep.DeepCutAuto
import Derived.StillTailTactics
namespace Go.Proofs.Ytpbjbmmnncohfaa
open Go.RowKit
namespace Ups

theorem byte_u (d : BitVec 32) (k : Nat) : Crc.u d / 2 ^ (8 * k) % 256 = ((Crc.byteAt d k).toNat : Int) := byte_at d.toNat k

set_option maxRecDepth 100000 in
set_option maxHeartbeats 2000000 in
theorem spoilt_walk (a0 : Option Addr) (cap0 : Nat) (l : List UInt8) (z0 z1 : Int) (B : BitVec 32) (w : World) (hr : Rd w a0 l) (hc : a0 = none → cap0 = 0) (hlc : l.length ≤ cap0) (_hcm : cap0 ≤ maxLen) :
    Calls Try.prog 6 #[.slice a0 l.length cap0, .agg #[.int .i64 z0, .int .i64 z1], .int .u32 (Crc.u B)] w fun e w' => e = .returned (.bool true) ∧ Below w.heap.size w w' := by
  obtain ⟨i0, hi, hz0, hz1, hz2⟩ := info_parts info5
  have HR := Lib.hid hr
  have HC := Lib.hid hc
  have HL := Lib.hid (take_len l 500 (by omega))
  have hcnt : (min (l.length : Int) 500).toNat ≤ 500 := by omega
  unfold maxLen at _hcm
  obtain ⟨s, hs⟩ : ∃ s, w.heap.size = s := ⟨_, rfl⟩
  have HS := Lib.hid hs
  obtain ⟨w0, hw0⟩ : ∃ w0, w0 = w.alloc (.cells #[.int .i64 z0, .int .i64 z1] 32) := ⟨_, rfl⟩
  have HF0 : Hid (Fr [] w w0) := Lib.hid (by rw [hw0]; exact (Fr.refl [] w).alloc _)
  have HB0 : Hid (Blk w0 s 32 #[.int .i64 z0, .int .i64 z1]) := Lib.hid (by rw [hw0, ← hs]; exact Blk.fresh _ _ _)
  have HW0 := Lib.hid hw0
  clear hr hc hw0
  go_enter Try.func6, Try.ntmps6
  go_wp2_with fail
  rw [← HW0.out]
  refine (shown6 w0).mono ?_
  rintro e w1 ⟨rfl, hf1⟩
  have HF1 : Hid (Fr [] w w1) := Lib.hid (HF0.out.tr hf1)
  have HB1 := Lib.hid (HB0.out.fr hf1 (by simp))
  have hs1 : s ≤ w1.heap.size := by rw [← hs]; exact HF1.out.size
  clear hf1 HF0 HB0 HW0
  go_wp2_with (at_builtin; refine wpList_app _ rfl (.tmp 19) (.tmp 24) 22 rfl w1.heap.size i0 Try.underlying22 hi hz0 hz1 hz2 (.slice (some ⟨w1.heap.size, 0, none⟩) 0 0) [] rfl (Own.empty w1 _ (Nat.le_refl _)) a0 _ cap0 (l.take (min (l.length : Int) 500).toNat) rfl HL.out (rd_take (HR.out.later (HF1.out.alloc _) (by simp)) _) HC.out (by simp; omega) (by simp) ?_)
  intro A1 c1 w2 ho2 hf2 hlies
  obtain ⟨ga, rfl⟩ := ho2.some_ hlies
  have HF2' : Hid (Fr [] w1 w2) := Lib.hid (((Fr.refl [] w1).alloc _).trans hf2 (by simp [Value.ownBlock]))
  have HF2 : Hid (Fr [] w w2) := Lib.hid (HF1.out.tr HF2'.out)
  have HB2 := Lib.hid (HB1.out.fr HF2'.out (by simp))
  have HM1 : Hid ((l.take (min (l.length : Int) 500).toNat).length = (min (l.length : Int) 500).toNat) := HL.out
  have HX : Hid (Rd w2 (some ⟨ga, 0, none⟩) (l.take (min (l.length : Int) 500).toNat)) := Lib.hid ho2.rd
  obtain ⟨hcp, hcm⟩ := ho2.caps
  have hs2 : s ≤ w2.heap.size := by rw [← hs]; exact HF2.out.size
  clear ho2 hf2 HR HC HL hlc hs1 hlies HB1 HF2'
  generalize (min (l.length : Int) 500).toNat = n at *
  generalize l.take n = t at *
  obtain ⟨h, hh⟩ : ∃ h, n / 2 = h := ⟨_, rfl⟩
  have hh1 : (n : Int).tdiv 2 = (h : Int) := by rw [Int.tdiv_eq_ediv_of_nonneg (by omega)]; omega
  have hh2 : (n : Int) / 2 = (h : Int) := by omega
  have hh3 : h ≤ n := by omega
  have hh4 : (h : Int) ≤ c1 := by omega
  have hh5 : h ≤ c1 := by omega
  have hh6 : (0 : Int) ≤ h := by omega
  have hh7 : (h : Int) ≤ n := by omega
  obtain ⟨r, hr⟩ : ∃ r, n - h = r := ⟨_, rfl⟩
  generalize hA2 : (if c1 = h then some (⟨ga, 0, none⟩ : Addr) else some ⟨ga, h, none⟩) = A2
  have HLx : Hid ((t.take h).length = h) := Lib.hid (by rw [List.length_take, HM1.out]; omega)
  have HLy : Hid ((t.drop h).length = r) := Lib.hid (by rw [List.length_drop, HM1.out]; omega)
  have HRx : Hid (∀ W, Fr [] w2 W → Rd W (some ⟨ga, 0, none⟩) (t.take h)) := Lib.hid fun W hW => (rd_take HX.out h).later hW (by simp)
  have HRy : Hid (Rd w2 A2 (t.drop h)) := Lib.hid (by
    have h1 := cut_rd (c := c1) (k := h) (n := r) HX.out (by rw [HM1.out]; omega) (by rw [HM1.out]; omega)
    rw [hA2, List.take_of_length_le (by rw [HLy.out]; exact Nat.le_refl _)] at h1
    exact h1)
  generalize t.take h = x at *
  generalize t.drop h = y at *
  have hps := patch_small x y (by rw [HLx.out]; omega) (by rw [HLy.out]; omega)
  have hpl := patch_long x y
  obtain ⟨L, hL⟩ : ∃ L, (patch x y).length = L := ⟨_, rfl⟩
  rw [hL] at hps hpl
  have HLp := Lib.hid hL
  have CC : Hid (Calls Try.prog 8 #[.slice (some ⟨ga, 0, none⟩) h c1, .slice A2 r (c1 - h)] w2.drew fun e w' => ∃ gp, e = .returned (.tuple #[.slice (some ⟨gp, 0, none⟩) L L, .int .i64 0]) ∧ w2.heap.size ≤ gp ∧ Blk w' gp 5 (bv (patch x y)).toArray ∧ Fr [] w2 w') := Lib.hid (by
    refine (create_any w2.drew (some ⟨ga, 0, none⟩) A2 h c1 r (c1 - h) x y HLx.out HLy.out (HRx.out _ (Fr.refl [] w2).drew) (HRy.out.later (S := []) (Fr.refl [] w2).drew (by simp)) (by omega) (by omega)).mono ?_
    rintro e w' ⟨gp, rfl, h1, h2, h3⟩
    rw [hL]
    exact ⟨gp, rfl, h1, h2, (Fr.refl [] w2).drew.tr h3⟩)
  clear hL
  go_upto_region 4 with fail
  go_cut [9, 10] (fun s9 s10 wx => ∃ gp, s9 = .slice (some ⟨gp, 0, none⟩) L L ∧ s10 = .int .i64 0 ∧ w2.heap.size ≤ gp ∧ Blk wx gp 5 (bv (patch x y)).toArray ∧ Fr [] w2 wx)
  case first =>
    go_region_law (go_simp; go_at_call 8; (with_reducible refine CC.out.mono ?_); rintro e w3 ⟨gp, rfl, hg3, hb3, hf3⟩; have HB3 := Lib.hid hb3; have HF3 := Lib.hid hf3; clear hb3 hf3)
    all_goals
      go_wp2_with fail
      go_meet
      exact ⟨gp, rfl, rfl, hg3, HB3.out, HF3.out⟩
  case rest =>
    obtain ⟨gp, rfl, rfl, hgp, hbp, hf3⟩ := hcut
    have HBp := Lib.hid hbp
    have HF3 := Lib.hid hf3
    have hs3 : s ≤ wc.heap.size := Nat.le_trans hs2 hf3.size
    have hgpl : gp < wc.heap.size := hbp.lt
    have e18 : ¬ (L : Int) < 18 := by omega
    clear hbp hf3 CC
    go_wp2_with (at_builtin; refine wpList_app _ rfl (.tmp 46) (.tmp 47) 22 rfl wc.heap.size i0 Try.underlying22 hi hz0 hz1 hz2 (.slice (some ⟨wc.heap.size, 0, none⟩) 0 0) [] rfl (Own.empty wc _ (Nat.le_refl _)) (some ⟨gp, 0, none⟩) L L (patch x y) rfl HLp.out ((rd_blk HBp.out).later (S := []) ((Fr.refl [] wc).alloc _) (by simp)) (by simp) (by simp; omega) (by simp) ?_)
    intro Aq cq w4 ho4 hf4 hlies
    obtain ⟨gq, rfl⟩ := ho4.some_ hlies
    have HF4' : Hid (Fr [] wc w4) := Lib.hid (((Fr.refl [] wc).alloc _).trans hf4 (by simp [Value.ownBlock]))
    have HF4 : Hid (Fr [] w2 w4) := Lib.hid (HF3.out.tr HF4'.out)
    have HO4 : Hid (Own w4 wc.heap.size (.slice (some ⟨gq, 0, none⟩) L cq) (patch x y)) := Lib.hid (by simpa using ho4)
    have hgq := (HO4.out.lt gq rfl).1
    obtain ⟨hcq, hcq2⟩ := HO4.out.caps
    have HB4 := Lib.hid (HB2.out.fr HF4.out (by simp))
    have HBp4 := Lib.hid (HBp.out.fr HF4'.out (by simp))
    have k0 : w4.cell? ⟨s, 0, none⟩ = some (.int .i64 z0) := by simpa using HB4.out.cell 0
    clear ho4 hf4 hlies HB2 HBp
    obtain ⟨p, hp1, hp2⟩ := place_of z0 ((L : Int) - 4) (by omega)
    rw [show (L : Int) - 4 + 1 = (L : Int) - 3 by omega] at hp1
    have hp3 : p + 4 ≤ L := by omega
    have hL3 : ¬ (L : Int) - 3 = 0 := by omega
    go_wp2_with fail
    clear k0 hp1
    go_loopw [13] (fun i wr => ∃ j : Nat, j ≤ 4 ∧ i = .int .i64 (j : Int) ∧ Own wr wc.heap.size (.slice (some ⟨gq, 0, none⟩) L cq) (spoil (patch x y) p B j) ∧ Fr [gq] w4 wr) (fun i _ => 4 - (intOf i).toNat)
    case atStart => exact ⟨0, by omega, rfl, HO4.out, Fr.refl _ _⟩
    case round =>
      obtain ⟨j, hj, rfl, ho, hf⟩ := hrel
      have HO := Lib.hid ho
      have HFj := Lib.hid hf
      by_cases hlt : j < 4
      · have hlt' : (j : Int) < 4 := by omega
        obtain ⟨e, he⟩ : ∃ e, p + j = e := ⟨_, rfl⟩
        have he' : (p : Int) + (j : Int) = (e : Int) := by omega
        have heL : (e : Int) < L := by omega
        have he0 : (0 : Int) ≤ e := by omega
        obtain ⟨bq, oq, v, hA, hv, cv⟩ := ho.rd.at e (by rw [spoil_length, HLp.out]; omega)
        cases hA
        have hv2 := spoil_at (patch x y) p B j (by rw [HLp.out]; omega)
        rw [he, hv] at hv2
        injection hv2 with hv2
        obtain ⟨gq', hgq', -, -, hfz, hset⟩ := ho.head (by omega)
        cases hgq'
        have zv := hfz e
        have HSet := Lib.hid (hset e (v ^^^ Crc.byteAt B j))
        have HSp : Hid (spoil (patch x y) p B (j + 1) = (spoil (patch x y) p B j).set e (v ^^^ Crc.byteAt B j)) := Lib.hid (by rw [spoil, he, hv2])
        have hv8 := v.toNat_lt
        rw [Nat.zero_add] at cv
        have HBy := Lib.hid (Crc.u_bounds B)
        clear ho hf hv hv2 hset hfz
        have HXr : Hid (bits .xor .u8 (v.toNat : Int) (Crc.u B / 2 ^ (8 * j) % 256) = ((v ^^^ Crc.byteAt B j).toNat : Int)) := Lib.hid (by rw [byte_u, xor_byte])
        go_wp2
        rw [HXr.out]
        refine ⟨⟨j + 1, by omega, by go_num, ?_, HFj.out.setCell (by simp) _⟩, by simp [intOf]; omega⟩
        rw [HSp.out]
        exact HSet.out
      · obtain rfl : j = 4 := by omega
        have HRq := Lib.hid ho.rd
        have hfw : Fr [] w2 wr := HF4.out.trans hf (by simp; omega)
        have HFw := Lib.hid hfw
        have hfw0 : Fr [] w wr := HF2.out.tr hfw
        have HBw := Lib.hid ((HB4.out.fr hf (by simp; omega)))
        have HBpw := Lib.hid ((HBp4.out.fr hf (by simp; omega)))
        clear ho hf hfw HO HFj HO4 HB4 HBp4
        obtain ⟨k, hk1, hk2⟩ := place_of z1 17 (by decide)
        have hk1' : (bits .and .i64 z1 65535).tmod 18 = (k : Int) := hk1
        have hkL : (k : Int) ≤ L := by omega
        have hk0 : (0 : Int) ≤ k := by omega
        have hkL' : k ≤ L := by omega
        have CS : Hid (∀ W, Calls Try.prog 11 #[.slice (some ⟨gp, 0, none⟩) k L, .slice (some ⟨ga, 0, none⟩) h c1] W (Nothing W 3)) := Lib.hid fun W => apply_short W (some ⟨gp, 0, none⟩) (some ⟨ga, 0, none⟩) k L h c1 (by omega) (by omega)
        clear hk1
        by_cases hB : B = 0#32
        · subst hB
          have hu0 : Crc.u 0#32 = 0 := by decide
          rw [spoil_none (patch x y) p (by rw [HLp.out]; exact hp3)] at HRq
          have HAp := Lib.hid (apply_in wr (some ⟨gq, 0, none⟩) (some ⟨ga, 0, none⟩) L cq h c1 x y HLp.out HRq.out hcq (by unfold maxLen; omega) (by omega) (by rw [HLy.out]; omega) HLx.out (HRx.out wr HFw.out) (by omega))
          go_wp2_with fail
          refine HAp.out.mono ?_
          rintro e w6 ⟨g6, rfl, -, hf6⟩
          have HF6 : Hid (Fr [] w w6) := Lib.hid (hfw0.tr hf6)
          have k1 : w6.cell? ⟨s, 1, none⟩ = some (.int .i64 z1) := by simpa using (HBw.out.fr hf6 (by simp)).cell 1
          clear hf6 HAp hfw0
          go_upto_region 16 with fail
          go_cut [16, 17] (fun s16 s17 wx => s16 = .slice none 0 0 ∧ s17 = .int .i64 3 ∧ Fr [] w6 wx)
          case first =>
            go_region_law (go_simp; go_at_call 11; (with_reducible refine (CS.out w6.drew).mono ?_); rintro e w7 ⟨rfl, hf7⟩; have HF7 : Hid (Fr [] w6 w7) := Lib.hid ((Fr.refl [] w6).drew.tr hf7); clear hf7)
            all_goals
              go_wp2_with fail
              go_meet
              exact ⟨rfl, rfl, HF7.out⟩
          case rest =>
            obtain ⟨rfl, rfl, hf7⟩ := hcut
            have HB7 := Lib.hid ((HF6.out.tr hf7).below (B := w.heap.size) (by simp) (Nat.le_refl _))
            clear hf7
            go_wp2
            go_ret
            exact ⟨rfl, HB7.out⟩
        · have hu0 : (Crc.u B != 0) = true := by simp; intro h; exact hB (Crc.u_inj (by rw [h]; decide))
          have hu1 : (Crc.u B == 0) = false := by simp; intro h; exact hB (Crc.u_inj (by rw [h]; decide))
          have HAp := Lib.hid (apply_spoilt wr (some ⟨gq, 0, none⟩) (some ⟨ga, 0, none⟩) L cq h c1 p x y B HLp.out HRq.out hcq (by unfold maxLen; omega) (by omega) hp3 (by omega) hB)
          go_wp2_with fail
          refine HAp.out.mono ?_
          rintro e w6 ⟨z, hz, rfl, hf6⟩
          have HF6 : Hid (Fr [] w w6) := Lib.hid (hfw0.tr hf6)
          have k1 : w6.cell? ⟨s, 1, none⟩ = some (.int .i64 z1) := by simpa using (HBw.out.fr hf6 (by simp)).cell 1
          clear hf6 HAp hfw0
          rcases hz with rfl | rfl
          · go_upto_region 16 with fail
            go_cut [16, 17] (fun s16 s17 wx => s16 = .slice none 0 0 ∧ s17 = .int .i64 3 ∧ Fr [] w6 wx)
            case first =>
              go_region_law (go_simp; go_at_call 11; (with_reducible refine (CS.out w6.drew).mono ?_); rintro e w7 ⟨rfl, hf7⟩; have HF7 : Hid (Fr [] w6 w7) := Lib.hid ((Fr.refl [] w6).drew.tr hf7); clear hf7)
              all_goals
                go_wp2_with fail
                go_meet
                exact ⟨rfl, rfl, HF7.out⟩
            case rest =>
              obtain ⟨rfl, rfl, hf7⟩ := hcut
              have HB7 := Lib.hid ((HF6.out.tr hf7).below (B := w.heap.size) (by simp) (Nat.le_refl _))
              clear hf7
              go_wp2
              go_ret
              exact ⟨rfl, HB7.out⟩
          · go_upto_region 16 with fail
            go_cut [16, 17] (fun s16 s17 wx => s16 = .slice none 0 0 ∧ s17 = .int .i64 3 ∧ Fr [] w6 wx)
            case first =>
              go_region_law (go_simp; go_at_call 11; (with_reducible refine (CS.out w6.drew).mono ?_); rintro e w7 ⟨rfl, hf7⟩; have HF7 : Hid (Fr [] w6 w7) := Lib.hid ((Fr.refl [] w6).drew.tr hf7); clear hf7)
              all_goals
                go_wp2_with fail
                go_meet
                exact ⟨rfl, rfl, HF7.out⟩
            case rest =>
              obtain ⟨rfl, rfl, hf7⟩ := hcut
              have HB7 := Lib.hid ((HF6.out.tr hf7).below (B := w.heap.size) (by simp) (Nat.le_refl _))
              clear hf7
              go_wp2
              go_ret
              exact ⟨rfl, HB7.out⟩

end Ups
end Go.Proofs.Ytpbjbmmnncohfaa
