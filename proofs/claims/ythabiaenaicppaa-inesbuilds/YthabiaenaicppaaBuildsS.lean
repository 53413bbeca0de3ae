/-
  picklocklaw09.InesBuilds returns true: CHR is RAM, and made anew.
-/
import Derived.Test.YthabiaenaicppaaIneLow
import Derived.Deep.RegionHeld3
import Derived.Deep.DeepCutAuto
namespace Go.Proofs.Ythabiaenaicppaa
open Go.RowKit
namespace Ine

set_option maxRecDepth 100000 in
set_option maxHeartbeats 16000000 in
theorem builds_s (m r : Int) (xa xb xc xd : UInt8) (w : World) (hless : xd.toNat < 16) :
    Calls Try.prog 5 #[.int .i64 m, .int .i64 r, .agg #[.int .u8 (xa.toNat : Int), .int .u8 (xb.toNat : Int), .int .u8 (xc.toNat : Int), .int .u8 (xd.toNat : Int), .bool true]] w fun e w' => e = .returned (.bool true) ∧ Below w.heap.size w w' := by
  obtain ⟨b, hbv⟩ : ∃ b, b = true := ⟨_, rfl⟩
  rw [← hbv]
  have HBv := Lib.hid hbv
  clear hbv
  obtain ⟨u, hu⟩ : ∃ u, w.heap.size = u := ⟨_, rfl⟩
  have hbu := Blk.fresh w 43 #[.int .u8 (xa.toNat : Int), .int .u8 (xb.toNat : Int), .int .u8 (xc.toNat : Int), .int .u8 (xd.toNat : Int), .bool b]
  rw [hu] at hbu
  have HU0 := Lib.hid hbu
  have HF0 := Lib.hid ((Fr.refl [] w).alloc (.cells #[.int .u8 (xa.toNat : Int), .int .u8 (xb.toNat : Int), .int .u8 (xc.toNat : Int), .int .u8 (xd.toNat : Int), .bool b] 43))
  clear hbu
  obtain ⟨p, hp, hp5⟩ : ∃ p : Nat, (xa.toNat : Int) % 6 = (p : Int) ∧ p ≤ 5 := ⟨xa.toNat % 6, by omega, by omega⟩
  obtain ⟨q, hq, hq4⟩ : ∃ p : Nat, (xb.toNat : Int) % 5 = (p : Int) ∧ p ≤ 4 := ⟨xb.toNat % 5, by omega, by omega⟩
  obtain ⟨e1, he1, he13⟩ : ∃ d : Nat, bits .and .u8 (xd.toNat : Int) 3 = (d : Int) ∧ d ≤ 3 := ⟨xd.toNat % 4, low3 xd, by omega⟩
  obtain ⟨e2, he2, he23⟩ : ∃ d : Nat, bits .and .u8 ((xd.toNat : Int) / 4) 3 = (d : Int) ∧ d ≤ 3 := ⟨xd.toNat / 4 % 4, mid3 xd, by omega⟩
  obtain ⟨K1, hK1⟩ : ∃ K, p * 16384 - e1 = K := ⟨_, rfl⟩
  obtain ⟨K2, hK2⟩ : ∃ K, q * 8192 - e2 = K := ⟨_, rfl⟩
  have HT1 : Hid (toldB K1 16384 = decide (0 < p ∧ e1 = 0)) := Lib.hid (by rw [← hK1]; exact told_prg p e1 hp5 he13)
  have HT2 : Hid (toldB K2 8192 = decide (0 < q ∧ e2 = 0)) := Lib.hid (by rw [← hK2]; exact told_chr q e2 hq4 he23)
  have hK1b : K1 ≤ 100000 := by omega
  have hK2b : K2 ≤ 100000 := by omega
  obtain ⟨s1, hs1⟩ : ∃ s : Int, (p : Int) * 16384 = s := ⟨_, rfl⟩
  obtain ⟨s2, hs2⟩ : ∃ s : Int, (q : Int) * 8192 = s := ⟨_, rfl⟩
  obtain ⟨v1, hv1⟩ : ∃ s : Int, s1 - (e1 : Int) = s := ⟨_, rfl⟩
  obtain ⟨v2, hv2⟩ : ∃ s : Int, s2 - (e2 : Int) = s := ⟨_, rfl⟩
  have kx1 : max 0 v1 = (K1 : Int) := by omega
  have kx2 : max 0 v2 = (K2 : Int) := by omega
  have kp : IntKind.i64.wrap (p : Int) = p := by rw [IntKind.wrap_i64]; omega
  have kq : IntKind.i64.wrap (q : Int) = q := by rw [IntKind.wrap_i64]; omega
  have ke1 : IntKind.i64.wrap (e1 : Int) = e1 := by rw [IntKind.wrap_i64]; omega
  have ke2 : IntKind.i64.wrap (e2 : Int) = e2 := by rw [IntKind.wrap_i64]; omega
  have ks1 : IntKind.i64.wrap s1 = s1 := by rw [IntKind.wrap_i64]; omega
  have ks2 : IntKind.i64.wrap s2 = s2 := by rw [IntKind.wrap_i64]; omega
  have kv1 : IntKind.i64.wrap v1 = v1 := by rw [IntKind.wrap_i64]; omega
  have kv2 : IntKind.i64.wrap v2 = v2 := by rw [IntKind.wrap_i64]; omega
  clear hK1 hK2
  go_enter Try.func5, Try.ntmps5
  go_wp2_with fail
  generalize w.alloc _ = w0 at *
  refine (shown9 w0).mono ?_
  rintro e w3 ⟨rfl, hf1⟩
  have HU3 := Lib.hid (HU0.out.fr hf1 (by simp))
  have HF3 := Lib.hid (HF0.out.tr hf1)
  clear hf1 HU0 HF0
  obtain ⟨d0, d1, d2, d3, d4⟩ := blk5 HU3.out
  have hu3 := HU3.out.lt
  have HK1 : Hid (∀ W, Calls Try.prog 9 #[.int .i64 (K1 : Int), .int .u8 (xc.toNat : Int)] W fun e w' => ∃ g L, e = .returned (.slice (some ⟨g, 0, none⟩) K1 K1) ∧ L.length = K1 ∧ W.heap.size ≤ g ∧ Blk w' g 5 (bv L).toArray ∧ Fr [] W w') := Lib.hid fun W => (fill_any W K1 xc (by omega)).mono fun e w' ⟨L, h1, h2, h3, h4⟩ => ⟨_, L, h2, h1, Nat.le_refl _, h3, h4⟩
  have HK2 : Hid (∀ W, Calls Try.prog 9 #[.int .i64 (K2 : Int), .int .u8 (xc.toNat : Int)] W fun e w' => ∃ g L, e = .returned (.slice (some ⟨g, 0, none⟩) K2 K2) ∧ L.length = K2 ∧ W.heap.size ≤ g ∧ Blk w' g 5 (bv L).toArray ∧ Fr [] W w') := Lib.hid fun W => (fill_any W K2 xc (by omega)).mono fun e w' ⟨L, h1, h2, h3, h4⟩ => ⟨_, L, h2, h1, Nat.le_refl _, h3, h4⟩
  have hcu : Hid (∀ W, Fr [] w3 W → W.cell? ⟨u, 0, none⟩ = some (.int .u8 (xa.toNat : Int)) ∧ W.cell? ⟨u, 1, none⟩ = some (.int .u8 (xb.toNat : Int)) ∧ W.cell? ⟨u, 2, none⟩ = some (.int .u8 (xc.toNat : Int)) ∧ W.cell? ⟨u, 3, none⟩ = some (.int .u8 (xd.toNat : Int)) ∧ W.cell? ⟨u, 4, none⟩ = some (.bool b)) := Lib.hid fun W hW => blk5 (HU3.out.fr hW (by simp))
  go_upto_region 4 with fail
  go_cut [10] (fun s10 wx => ∃ (uc g1 g2 : Nat) (L1 L2 : List UInt8), s10 = .pointer (some ⟨uc, 0, none⟩) ∧ L1.length = K1 ∧ L2.length = K2 ∧ Blk wx uc 32 #[.int .i64 m, .int .i64 r, .slice (some ⟨g1, 0, none⟩) K1 K1, .slice (some ⟨g2, 0, none⟩) K2 K2, .bool b] ∧ Blk wx g1 5 (bv L1).toArray ∧ Blk wx g2 5 (bv L2).toArray ∧ Fr [] w3 wx ∧ w3.heap.size ≤ uc)
  case first =>
    as_aux_lemma =>
    go_region_held3 (fun w' => w'.cell? ⟨u, 2, none⟩ = some (.int .u8 (xc.toNat : Int)) ∧ w'.cell? ⟨u, 3, none⟩ = some (.int .u8 (xd.toNat : Int)) ∧ w'.cell? ⟨u, 4, none⟩ = some (.bool b)) (first | with_reducible exact ⟨d2, d3, d4⟩ | with_reducible exact ⟨(blk5 HUa.out).2.2.1, (blk5 HUa.out).2.2.2.1, (blk5 HUa.out).2.2.2.2⟩ | with_reducible exact ⟨(blk5 HUb.out).2.2.1, (blk5 HUb.out).2.2.2.1, (blk5 HUb.out).2.2.2.2⟩ | go_keep | with_reducible exact ⟨(HUc.out _).1, (HUc.out _).2.1, (HUc.out _).2.2⟩ | with_reducible exact ⟨(HUd.out _ _ _ _ _ _ (by omega)).1, (HUd.out _ _ _ _ _ _ (by omega)).2.1, (HUd.out _ _ _ _ _ _ (by omega)).2.2⟩) (first
      | (go_at_call_of 9 (Value.int IntKind.i64 (K2 : Int)); (with_reducible refine (HK2.out _).mono ?_); rintro e wb ⟨g2, L2, rfl, hL2, hg2, hb2, hf2⟩; have HUb := Lib.hid ((HUa.out.fr (by first | with_reducible exact (Fr.refl [] _) | with_reducible exact (Fr.refl [] _).alloc _) (by simp)).fr hf2 (by simp)); have HFb : Hid (Fr [] wa wb) := Lib.hid ((by first | with_reducible exact (Fr.refl [] _) | with_reducible exact (Fr.refl [] _).alloc _ : Fr [] wa _).tr hf2); have HGb := Lib.hid hb2; have HUc : Hid (∀ o, (wb.alloc o).cell? ⟨u, 2, none⟩ = some (.int .u8 (xc.toNat : Int)) ∧ (wb.alloc o).cell? ⟨u, 3, none⟩ = some (.int .u8 (xd.toNat : Int)) ∧ (wb.alloc o).cell? ⟨u, 4, none⟩ = some (.bool b)) := Lib.hid (fun o => ⟨(blk5 (HUb.out.fr ((Fr.refl [] wb).alloc o) (by simp))).2.2.1, (blk5 (HUb.out.fr ((Fr.refl [] wb).alloc o) (by simp))).2.2.2.1, (blk5 (HUb.out.fr ((Fr.refl [] wb).alloc o) (by simp))).2.2.2.2⟩); have HUd : Hid (∀ s y0 y1 y2 y3 y4, s ≠ u → (((((wb.setCell ⟨s, 0, none⟩ y0).setCell ⟨s, 1, none⟩ y1).setCell ⟨s, 2, none⟩ y2).setCell ⟨s, 3, none⟩ y3).setCell ⟨s, 4, none⟩ y4).cell? ⟨u, 2, none⟩ = some (.int .u8 (xc.toNat : Int)) ∧ (((((wb.setCell ⟨s, 0, none⟩ y0).setCell ⟨s, 1, none⟩ y1).setCell ⟨s, 2, none⟩ y2).setCell ⟨s, 3, none⟩ y3).setCell ⟨s, 4, none⟩ y4).cell? ⟨u, 3, none⟩ = some (.int .u8 (xd.toNat : Int)) ∧ (((((wb.setCell ⟨s, 0, none⟩ y0).setCell ⟨s, 1, none⟩ y1).setCell ⟨s, 2, none⟩ y2).setCell ⟨s, 3, none⟩ y3).setCell ⟨s, 4, none⟩ y4).cell? ⟨u, 4, none⟩ = some (.bool b)) := Lib.hid (fun s y0 y1 y2 y3 y4 hs => ⟨(blk5 (HUb.out.fr (five_fr wb s y0 y1 y2 y3 y4) (by simpa using hs.symm))).2.2.1, (blk5 (HUb.out.fr (five_fr wb s y0 y1 y2 y3 y4) (by simpa using hs.symm))).2.2.2.1, (blk5 (HUb.out.fr (five_fr wb s y0 y1 y2 y3 y4) (by simpa using hs.symm))).2.2.2.2⟩); (try (have HZb : Hid (Blk wb w3.heap.size 32 #[.int .i64 0, .int .i64 0, .slice none 0 0, .slice none 0 0, .bool false]) := Lib.hid (by with_reducible exact HZa.out.fr hf2 (by simp)); have zbc := blk5 HZb.out; have zb0 := zbc.1; have zb1 := zbc.2.1; have zb2 := zbc.2.2.1; have zb3 := zbc.2.2.2.1; have zb4 := zbc.2.2.2.2; clear zbc; have zbf0 := HZb.out.frozen 0; have zbf1 := HZb.out.frozen 1; have zbf2 := HZb.out.frozen 2; have zbf3 := HZb.out.frozen 3; have zbf4 := HZb.out.frozen 4)); (try (have HZb : Hid (Blk wb wa.heap.size 32 #[.int .i64 0, .int .i64 0, .slice none 0 0, .slice none 0 0, .bool false]) := Lib.hid (by with_reducible exact (Blk.fresh wa 32 #[.int .i64 0, .int .i64 0, .slice none 0 0, .slice none 0 0, .bool false]).fr hf2 (by simp)); have zbc := blk5 HZb.out; have zb0 := zbc.1; have zb1 := zbc.2.1; have zb2 := zbc.2.2.1; have zb3 := zbc.2.2.2.1; have zb4 := zbc.2.2.2.2; clear zbc; have zbf0 := HZb.out.frozen 0; have zbf1 := HZb.out.frozen 1; have zbf2 := HZb.out.frozen 2; have zbf3 := HZb.out.frozen 3; have zbf4 := HZb.out.frozen 4)); clear hf2 hb2)
      | (go_at_call_of 9 (Value.int IntKind.i64 (K1 : Int)); (with_reducible refine (HK1.out _).mono ?_); rintro e wa ⟨g1, L1, rfl, hL1, hg1, hb1, hf1⟩; have HUa := Lib.hid ((HU3.out.fr (by first | with_reducible exact (Fr.refl [] _).drew | with_reducible exact ((Fr.refl [] _).alloc _).drew) (by simp)).fr hf1 (by simp)); have HFa : Hid (Fr [] w3 wa) := Lib.hid ((by first | with_reducible exact (Fr.refl [] _).drew | with_reducible exact ((Fr.refl [] _).alloc _).drew : Fr [] w3 _).tr hf1); have hsa := HFa.out.size; have HGa := Lib.hid hb1; (try (have HZa : Hid (Blk wa w3.heap.size 32 #[.int .i64 0, .int .i64 0, .slice none 0 0, .slice none 0 0, .bool false]) := Lib.hid (by with_reducible exact ((Blk.fresh w3 32 #[.int .i64 0, .int .i64 0, .slice none 0 0, .slice none 0 0, .bool false]).fr (Fr.refl [] (w3.alloc (.cells #[.int .i64 0, .int .i64 0, .slice none 0 0, .slice none 0 0, .bool false] 32))).drew (by simp)).fr hf1 (by simp)); have zac := blk5 HZa.out; have za0 := zac.1; have za1 := zac.2.1; have za2 := zac.2.2.1; have za3 := zac.2.2.2.1; have za4 := zac.2.2.2.2; clear zac; have zaf0 := HZa.out.frozen 0; have zaf1 := HZa.out.frozen 1; have zaf2 := HZa.out.frozen 2; have zaf3 := HZa.out.frozen 3; have zaf4 := HZa.out.frozen 4)); clear hf1 hb1))
    all_goals
      go_wp2_with fail
      go_meet
      have hG1 := HGa.out.fr HFb.out (by simp)
      have hsb := HFb.out.size
      first
        | with_reducible exact ⟨wb.heap.size, g1, g2, L1, L2, rfl, hL1, hL2, Blk.fresh wb _ _, hG1.fr ((Fr.refl [] wb).alloc _) (by simp), HGb.out.fr ((Fr.refl [] wb).alloc _) (by simp), (HFa.out.tr HFb.out).alloc _, by omega⟩
        | with_reducible exact ⟨_, g1, g2, L1, L2, rfl, hL1, hL2, five_put HZb.out _ _ _ _ _, hG1.fr (five_fr wb _ _ _ _ _ _) (by have := hG1.other HZb.out (by decide); simpa using this), HGb.out.fr (five_fr wb _ _ _ _ _ _) (by have := HGb.out.other HZb.out (by decide); simpa using this), (HFa.out.tr HFb.out).trans (five_fr wb _ _ _ _ _ _) (by simp; try omega), by omega⟩
  case rest =>
    as_aux_lemma =>
    obtain ⟨uc, g1, g2, L1, L2, rfl, hL1, hL2, hbc, hb1, hb2, hf4, huc⟩ := hcut
    generalize wc = w4 at *
    have HL1 := Lib.hid hL1
    have HL2 := Lib.hid hL2
    have HE4 := Lib.hid hbc
    have HG1 := Lib.hid hb1
    have HG2 := Lib.hid hb2
    have HF4 := Lib.hid hf4
    have HU4 := Lib.hid (HU3.out.fr hf4 (by simp))
    have huu : u ≠ uc := by omega
    clear hL1 hL2 hbc hb1 hb2 hf4 HU3 HK1 HK2 hcu d0 d1 d2 d3 d4 kx1 kx2 kv1 kv2 ks1 ks2 hv1 hv2 hs1 hs2 kp kq hp hq
    obtain ⟨-, -, -, d3, d4⟩ := blk5 HU4.out
    obtain ⟨B1, hB1⟩ : ∃ B1, decide ((0 ≤ m ∧ m ≤ 4) ∧ (r = 0 ∨ r = 1) ∧ 0 < p ∧ e1 = 0) = B1 := ⟨_, rfl⟩
    have HB1 : Hid (B1 = decide ((0 ≤ m ∧ m ≤ 4) ∧ (r = 0 ∨ r = 1) ∧ 0 < p ∧ e1 = 0)) := Lib.hid hB1.symm
    have hr3 : r = 0 ∨ r = 1 ∨ (¬ r = 0 ∧ ¬ r = 1) := by omega
    clear hB1
    obtain rfl := HBv.out
    have hl16 : (xd.toNat : Int) < 16 := by omega
    obtain ⟨KC, hN⟩ : ∃ N, blank.length = N := ⟨_, rfl⟩
    have hmk := make_blankN KC hN
    have hKCb : KC = 8192 := by rw [← hN]; exact blank_length
    have hK2b' : KC ≤ 100000 := by omega
    have hucl := HE4.out.lt
    have hne : ¬ uc = w4.heap.size := by omega
    obtain ⟨gc, hgc⟩ : ∃ g, w4.heap.size = g := ⟨_, rfl⟩
    have HGc := Lib.hid hgc
    have HNb := Lib.hid hN
    have c3 := (blk5 HE4.out).2.2.2.1
    have j3 := HE4.out.frozen 3
    clear hgc hN hKCb
    go_upto_region 7 with fail
    have hgc := HGc.out
    rw [hgc]
    have hst : Fr [uc] w4 (w4.setCell ⟨uc, 3, none⟩ (.slice (some ⟨gc, 0, none⟩) KC KC)) := (Fr.refl [uc] _).setCell (by simp) _
    have hal : Fr [] (w4.setCell ⟨uc, 3, none⟩ (.slice (some ⟨gc, 0, none⟩) KC KC)) ((w4.setCell ⟨uc, 3, none⟩ (.slice (some ⟨gc, 0, none⟩) KC KC)).alloc (.cells (bv blank).toArray 5)) := (Fr.refl [] _).alloc _
    have HE5 := Lib.hid ((put5 HE4.out (.slice (some ⟨gc, 0, none⟩) KC KC)).2.fr hal (by simp))
    have HG5 := Lib.hid ((HG1.out.fr hst (by have := HG1.out.other HE4.out (by decide); simpa using this)).fr hal (by simp))
    have HU5 := Lib.hid ((HU4.out.fr hst (by simpa using huu)).fr hal (by simp))
    have hfr := Blk.fresh (w4.setCell ⟨uc, 3, none⟩ (.slice (some ⟨gc, 0, none⟩) KC KC)) 5 (bv blank).toArray
    have hsz : (w4.setCell ⟨uc, 3, none⟩ (.slice (some ⟨gc, 0, none⟩) KC KC)).heap.size = gc := by simp [World.setCell, hgc]
    rw [hsz] at hfr
    have HC5 := Lib.hid hfr
    have HF5 : Hid (Fr [] w3 ((w4.setCell ⟨uc, 3, none⟩ (.slice (some ⟨gc, 0, none⟩) KC KC)).alloc (.cells (bv blank).toArray 5))) := Lib.hid ((HF4.out.trans hst (by simp; exact huc)).tr hal)
    clear hst hal hfr hsz hgc
    generalize (w4.setCell ⟨uc, 3, none⟩ (.slice (some ⟨gc, 0, none⟩) KC KC)).alloc (.cells (bv blank).toArray 5) = w5 at *
    have HCL : Hid (blank.length = KC) := HNb
    generalize blank = CL at *
    clear hucl c3 j3 HE4 HG1 HG2 HL2 HF4 HU4 hmk hne d3 d4 hl16 HT2 hK2b
    obtain ⟨-, -, -, d3, d4⟩ := blk5 HU5.out
    obtain ⟨NB, hNB⟩ : ∃ NB, CL.all (· == 0) = NB := ⟨_, rfl⟩
    have HNB := Lib.hid hNB
    have HMay : Hid (((B1 && (decide (KC = 8192) && NB)) = true → May m r K1 KC CL true) ∧ ((B1 && (decide (KC = 8192) && NB)) = false → ¬ May m r K1 KC CL true)) := Lib.hid (by
      have hb := HB1.out
      unfold May
      have h1 := HT1.out
      have hbl : blankB CL = (decide (KC = 8192) && NB) := by unfold blankB; rw [HCL.out, HNB.out]
      rw [h1, hbl, hb]
      simp only [Bool.and_eq_true, Bool.and_eq_false_iff, decide_eq_true_eq, decide_eq_false_iff_not]
      refine ⟨fun h => ?_, fun h hm => ?_⟩
      · obtain ⟨⟨h3, h4, h5⟩, h6, h7⟩ := h
        exact ⟨h3, h4, h5, (fun h => absurd h (by decide)), fun _ => ⟨h6, h7⟩⟩
      · obtain ⟨h3, h4, h5, -, h6⟩ := hm
        rcases h with h | h | h
        · exact h ⟨h3, h4, h5⟩
        · exact h (h6 trivial).1
        · have := (h6 trivial).2
          rw [h] at this
          cases this)
    obtain ⟨e0, e1', e2', e3', e4'⟩ := blk5 HE5.out
    clear hNB
    go_wp2_with fail
    go_loopw [11, 12] (fun s11 s12 wr => ∃ i : Nat, s11 = .bool ((CL.take i).all (· == 0)) ∧ s12 = .int .i64 (i : Int) ∧ i ≤ KC ∧ w5 = wr) (fun _ s12 _ => KC - (intOf s12).toNat)
    case atStart => exact ⟨0, rfl, rfl, Nat.zero_le _, by first | rfl | trivial⟩
    case round =>
      as_aux_lemma =>
      obtain ⟨i, rfl, rfl, hi, rfl⟩ := hrel
      obtain ⟨Bi, hBi⟩ : ∃ Bi, (CL.take i).all (· == 0) = Bi := ⟨_, rfl⟩
      rw [hBi]
      by_cases hlt : i < KC
      · have hlt2 : i < CL.length := by rw [HCL.out]; exact hlt
        obtain ⟨x, hx⟩ : ∃ x, CL[i] = x := ⟨_, rfl⟩
        have hsn : (CL.take (i + 1)).all (· == 0) = (Bi && (x == 0)) := by rw [take_snoc CL i hlt2, List.all_append, hBi, hx]; simp
        have HSn := Lib.hid hsn
        have hcx : w5.cell? ⟨gc, i, none⟩ = some (.int .u8 (x.toNat : Int)) := by rw [HC5.out.cell i, List.getElem?_toArray, bv_get CL i hlt2, hx]
        have hxe : (x == 0) = ((x.toNat : Int) == 0) := by
          rw [Bool.eq_iff_iff]
          simp [← UInt8.toNat_inj]
        obtain ⟨xi, hxi⟩ : ∃ xi, (x.toNat : Int) = xi := ⟨_, rfl⟩
        rw [hxi] at hcx hxe
        have HXe := Lib.hid hxe
        have hi1 : (i : Int) < KC := by omega
        have hi0 : (0 : Int) ≤ i := by omega
        clear hsn hBi hx hxi hxe hlt2
        cases Bi
        · go_wp2
          go_roundw
          case rel => exact ⟨i + 1, by rw [HSn.out]; rfl, by go_num, by omega, by first | rfl | trivial⟩
          case measure => simp [intOf]; omega
        · go_wp2
          go_roundw
          case rel => exact ⟨i + 1, by rw [HSn.out, HXe.out]; simp, by go_num, by omega, by first | rfl | trivial⟩
          case measure => simp [intOf]; omega
      · obtain rfl : KC = i := by omega
        have hBN : NB = Bi := by rw [← hBi, List.take_of_length_le (by rw [HCL.out]; exact Nat.le_refl _)]; exact HNB.out.symm
        subst hBN
        clear hBi hlt
        go_upto_region 12 with fail
        go_cut [13] (fun s13 wx => s13 = .bool B1 ∧ w5 = wx)
        case first =>
          as_aux_lemma =>
          by_cases a1 : 0 ≤ m
          · by_cases a2 : m ≤ 4
            · rcases hr3 with hr0 | hr1 | ⟨hr0, hr1⟩
              · by_cases a3 : 0 < p
                · have a3' : (0 : Int) < p := by omega
                  go_wp2_with fail
                  go_meet
                  exact ⟨by rw [HB1.out]; simp [a1, a2, hr0, a3, int_dec e1], by first | rfl | trivial⟩
                · have a3' : p = 0 := by omega
                  subst a3'
                  go_wp2_with fail
                  go_meet
                  exact ⟨by rw [HB1.out]; simp, by first | rfl | trivial⟩
              · by_cases a3 : 0 < p
                · have a3' : (0 : Int) < p := by omega
                  go_wp2_with fail
                  go_meet
                  exact ⟨by rw [HB1.out]; simp [a1, a2, hr1, a3, int_dec e1], by first | rfl | trivial⟩
                · have a3' : p = 0 := by omega
                  subst a3'
                  go_wp2_with fail
                  go_meet
                  exact ⟨by rw [HB1.out]; simp, by first | rfl | trivial⟩
              · have hr0' : (r == 0) = false := by simpa using hr0
                have hr1' : (r == 1) = false := by simpa using hr1
                go_wp2_with fail
                go_meet
                exact ⟨by rw [HB1.out]; simp [hr0, hr1], by first | rfl | trivial⟩
            · go_wp2_with fail
              go_meet
              exact ⟨by rw [HB1.out]; exact congrArg Value.bool (decide_eq_false (by omega)).symm, by first | rfl | trivial⟩
          · go_wp2_with fail
            go_meet
            exact ⟨by rw [HB1.out]; exact congrArg Value.bool (decide_eq_false (by omega)).symm, by first | rfl | trivial⟩
        case rest =>
          as_aux_lemma =>
          obtain ⟨rfl, rfl⟩ := hcut
          go_upto_region 14 with fail
          go_cut [13] (fun s13 wx => s13 = .bool (B1 && (decide (KC = 8192) && NB)) ∧ w5 = wx)
          case first =>
            as_aux_lemma =>
            cases B1
            · go_wp2_with fail
              go_meet
              exact ⟨by simp, by first | rfl | trivial⟩
            · obtain ⟨kI, hkI⟩ : ∃ k : Int, (KC : Int) = k := ⟨_, rfl⟩
              by_cases a4 : KC = 8192
              · have a4' : kI = 8192 := by omega
                subst a4'
                go_wp2_with fail
                go_meet
                exact ⟨by simp [a4], by first | rfl | trivial⟩
              · have a4' : (kI == 8192) = false := by have : ¬ kI = 8192 := by omega
                                                      simpa using this
                go_wp2_with fail
                go_meet
                exact ⟨by simp [a4], by first | rfl | trivial⟩
          case rest =>
            as_aux_lemma =>
            obtain ⟨rfl, rfl⟩ := hcut
            obtain ⟨B2, hB2⟩ : ∃ B2, (B1 && (decide (KC = 8192) && NB)) = B2 := ⟨_, rfl⟩
            rw [hB2] at HMay ⊢
            have HFw := Lib.hid (HF3.out.tr HF5.out)
            clear hB2
            cases B2
            · have HBd := Lib.hid (build_bad w5 m r (some ⟨g1, 0, none⟩) K1 K1 (some ⟨gc, 0, none⟩) KC KC true CL (by omega) (by omega) HCL.out (rd_blk HC5.out) (HMay.out.2 rfl))
              unfold cV at HBd
              clear HMay
              go_wp2_with fail
              (with_reducible refine HBd.out.mono ?_)
              rintro e w6 ⟨rfl, hf6⟩
              have HF6 := Lib.hid (HFw.out.tr hf6)
              clear hf6 HBd
              go_wp2
              go_ret
              exact ⟨by rfl, HF6.out.below (by simp) (Nat.le_refl _)⟩
            · have hmay := HMay.out.1 rfl
              obtain ⟨x1, x2, x3, m', r', hm', hr', hx1, hx2, hx3, hcart, hfault, hlenF⟩ := may_cart m r K1 KC L1 CL true HL1.out HCL.out hmay
              have HBld : Hid (∀ W ga gd, Blk W ga 5 (bv L1).toArray → Blk W gd 5 (bv CL).toArray → Calls Try.prog 13 #[.agg #[.int .i64 m, .int .i64 r, .slice (some ⟨ga, 0, none⟩) K1 K1, .slice (some ⟨gd, 0, none⟩) KC KC, .bool true]] W (Built W (fileOf x1 x2 x3 L1 (if true = true then [] else CL)))) := Lib.hid fun W ga gd k1 k2 => build_ok W m r (some ⟨ga, 0, none⟩) K1 K1 (some ⟨gd, 0, none⟩) KC KC true L1 CL x1 x2 x3 HL1.out HCL.out (rd_blk k1) (rd_blk k2) (by simp) (by simp) hmay (by omega) (by omega) hx1 hx2 hx3
              generalize fileOf x1 x2 x3 L1 (if true = true then [] else CL) = F at *
              obtain ⟨nF, hnF⟩ : ∃ n, F.length = n := ⟨_, rfl⟩
              have HNF := Lib.hid hnF
              have HBu := Lib.hid (HBld.out w5 g1 gc HG5.out HC5.out)
              have HPc : Hid (∀ W gF, Blk W gF 5 (bv F).toArray → Calls Try.prog 10 #[.slice (some ⟨gF, 0, none⟩) nF nF] W (Carted W m r L1 CL K1 KC true)) := Lib.hid fun W gF hB => parse_ct W (some ⟨gF, 0, none⟩) nF nF F ⟨m', r', L1, CL, true⟩ hnF (Nat.le_refl _) (rd_blk hB) hfault hcart m r K1 KC hm' hr' HL1.out HCL.out
              have HS2 : Hid (∀ W ga gb gd ge, Blk W ga 5 (bv L1).toArray → Blk W gb 5 (bv CL).toArray → Blk W gd 5 (bv L1).toArray → Blk W ge 5 (bv CL).toArray → Calls Try.prog 12 #[.agg #[.int .i64 m, .int .i64 r, .slice (some ⟨ga, 0, none⟩) K1 K1, .slice (some ⟨gb, 0, none⟩) KC KC, .bool true], .agg #[.int .i64 m, .int .i64 r, .slice (some ⟨gd, 0, none⟩) K1 K1, .slice (some ⟨ge, 0, none⟩) KC KC, .bool true]] W fun e w' => e = .returned (.bool true) ∧ Fr [] W w') := Lib.hid fun W ga gb gd ge b1 b2 b3 b4 => same_two W m r L1 CL K1 KC true ga gb gd ge m' r' hm'.symm hr'.symm HL1.out HCL.out b1 b2 b3 b4
              clear hm' hr' hx1 hx2 hx3 hcart hfault hlenF hnF hmay HMay
              go_wp2_with fail
              (with_reducible refine HBu.out.mono ?_)
              rintro e w6 ⟨gF, n6, hn6, rfl, hgF, hbF, hf6⟩
              rw [HNF.out] at hn6
              subst hn6
              have HBF := Lib.hid hbF
              have HE6 := Lib.hid (HE5.out.fr hf6 (by simp))
              have HG6 := Lib.hid (HG5.out.fr hf6 (by simp))
              have HC6 := Lib.hid (HC5.out.fr hf6 (by simp))
              have HF6 := Lib.hid (HFw.out.tr hf6)
              have HPd := Lib.hid (HPc.out w6 gF hbF)
              clear hbF hf6 HBu HFw HE5 HG5 HC5 HF5 HPc e0 e1' e2' e3' e4'
              go_wp2_with fail
              (with_reducible refine HPd.out.mono ?_)
              rintro e w7 ⟨g3, g4, rfl, hg3, hg4, hd3, hd4, hf7⟩
              have HD3 := Lib.hid hd3
              have HD4 := Lib.hid hd4
              have HBF7 := Lib.hid (HBF.out.fr hf7 (by simp))
              have HE7 := Lib.hid (HE6.out.fr hf7 (by simp))
              have HG7 := Lib.hid (HG6.out.fr hf7 (by simp))
              have HC7 := Lib.hid (HC6.out.fr hf7 (by simp))
              have HF7 := Lib.hid (HF6.out.tr hf7)
              clear hd3 hd4 hf7 HBF HE6 HG6 HC6 HF6 HPd
              go_upto_region 20 with fail
              obtain ⟨u2, hu2⟩ : ∃ u, w7.heap.size = u := ⟨_, rfl⟩
              have hbu2 := Blk.fresh w7 32 #[.int .i64 m, .int .i64 r, .slice (some ⟨g3, 0, none⟩) K1 K1, .slice (some ⟨g4, 0, none⟩) KC KC, .bool true]
              have hal : Fr [] w7 (w7.alloc (.cells #[.int .i64 m, .int .i64 r, .slice (some ⟨g3, 0, none⟩) K1 K1, .slice (some ⟨g4, 0, none⟩) KC KC, .bool true] 32)) := (Fr.refl [] w7).alloc _
              rw [hu2] at hbu2 ⊢
              have HQ8 := Lib.hid hbu2
              have HD38 := Lib.hid (HD3.out.fr hal (by simp))
              have HD48 := Lib.hid (HD4.out.fr hal (by simp))
              have HBF8 := Lib.hid (HBF7.out.fr hal (by simp))
              have HE8 := Lib.hid (HE7.out.fr hal (by simp))
              have HG8 := Lib.hid (HG7.out.fr hal (by simp))
              have HC8 := Lib.hid (HC7.out.fr hal (by simp))
              have HF8 := Lib.hid (HF7.out.tr hal)
              clear hbu2 hal HD3 HD4 HBF7 HE7 HG7 HC7 HF7
              generalize w7.alloc _ = w8 at *
              obtain ⟨y0, y1, y2, y3, y4⟩ := blk5 HQ8.out
              have HBu8 := Lib.hid (HBld.out w8 g3 g4 HD38.out HD48.out)
              clear HBld
              go_wp2_with fail
              (with_reducible refine HBu8.out.mono ?_)
              rintro e w9 ⟨gH, n9, hn9, rfl, hgH, hbH, hf9⟩
              rw [HNF.out] at hn9
              subst hn9
              have HBH := Lib.hid hbH
              have HBF9 := Lib.hid (HBF8.out.fr hf9 (by simp))
              have hE9 := HE8.out.fr hf9 (by simp)
              have hQ9 := HQ8.out.fr hf9 (by simp)
              have HSm := Lib.hid (HS2.out w9 g3 g4 g1 gc (HD38.out.fr hf9 (by simp)) (HD48.out.fr hf9 (by simp)) (HG8.out.fr hf9 (by simp)) (HC8.out.fr hf9 (by simp)))
              have HF9 := Lib.hid (HF8.out.tr hf9)
              clear y0 y1 y2 y3 y4
              obtain ⟨y0, y1, y2, y3, y4⟩ := blk5 hQ9
              obtain ⟨z0, z1, z2, z3, z4⟩ := blk5 hE9
              clear hbH hf9 hE9 hQ9 HBF8 HE8 HQ8 HD38 HD48 HG8 HC8 HF8 HS2 HBu8
              go_wp2_with fail
              (with_reducible refine HSm.out.mono ?_)
              rintro e w10 ⟨rfl, hf10⟩
              have HS1 := Lib.hid (same_eq w10 (some ⟨gH, 0, none⟩) (some ⟨gF, 0, none⟩) n9 n9 n9 n9 F HNF.out HNF.out (rd_blk (HBH.out.fr hf10 (by simp))) (rd_blk (HBF9.out.fr hf10 (by simp))))
              have HF10 := Lib.hid (HF9.out.tr hf10)
              clear hf10 HSm HBH HBF9 HF9 y0 y1 y2 y3 y4 z0 z1 z2 z3 z4
              go_wp2_with fail
              (with_reducible refine HS1.out.mono ?_)
              rintro e w11 ⟨rfl, rfl⟩
              go_wp2
              go_ret
              exact ⟨by rfl, HF10.out.below (by simp) (Nat.le_refl _)⟩

end Ine
end Go.Proofs.Ythabiaenaicppaa
