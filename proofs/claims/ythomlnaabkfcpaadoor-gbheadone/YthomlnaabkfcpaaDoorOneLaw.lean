/-
  picklocklaw10.GbheadOne returns true for every input. Condition: the table of RAM's sizes holds what its text lays.
-/
import Derived.Test.YthomlnaabkfcpaaDoorGbShown
namespace Go.Proofs.YthomlnaabkfcpaaDoor
open Go.RowKit
namespace Gb

theorem place25 (z : Int) : ∃ q : Nat, (bits .and .i64 z 65535).tmod 25 = (q : Int) ∧ q < 25 := by
  have h := and65535 z
  rw [Int.tmod_eq_emod_of_nonneg h.1]
  have h1 := Int.emod_nonneg (bits .and .i64 z 65535) (show (25 : Int) ≠ 0 by decide)
  have h2 := Int.emod_lt_of_pos (bits .and .i64 z 65535) (show (0 : Int) < 25 by decide)
  exact ⟨((bits .and .i64 z 65535) % 25).toNat, by omega, by omega⟩
theorem file_one (w : World) (f : UInt8) : Calls Tryd.prog 9 #[.int .i64 32768, .int .u8 (f.toNat : Int), .agg #[.int .u8 0, .int .u8 0, .int .u8 0]] w (Filed w 32768 0 0 0) := file_any w 32768 f 0 0 0 (by decide)

theorem one_ok (l : List UInt8) (hl : l.length = 32768) (h : bt l 327 = (0 : UInt8).toNat ∧ bt l 328 = (0 : UInt8).toNat ∧ bt l 329 = (0 : UInt8).toNat ∧ bt l 333 = gsum l) : fault l = 0 := by
  obtain ⟨h1, h2, h3, h4⟩ := h
  have h1 : bt l 327 = 0 := h1
  have h2 : bt l 328 = 0 := h2
  have h3 : bt l 329 = 0 := h3
  unfold fault
  rw [hl, h1, h2, h3, h4]
  have : ¬ unfit (kindN 0) 0 0 := by unfold unfit kindN; decide
  rw [if_neg (by decide), if_neg (by decide), if_neg (by simp), if_neg (by decide), if_neg this, if_neg (by decide)]
theorem bad_sum (l : List UInt8) (hl : l.length = 32768) (h : bt l 333 ≠ gsum l) : fault l = 4 := by
  unfold fault
  rw [hl, if_neg (by decide), if_neg (by decide), if_pos h]
theorem one_x (l : List UInt8) (hl : l.length = 32768) (hs : bt l 333 = gsum l) (q : Nat) (hq : q < 25) (x : UInt8) (hx : x.toNat ≠ bt l (308 + q)) : fault (l.set (308 + q) x) = 4 := by
  apply bad_sum _ (by rw [List.length_set]; exact hl)
  rw [bt_set _ _ _ _ (by omega), if_neg (by omega), hs]
  intro e
  exact hx ((gsum_one l q x hq (by omega)).1 e.symm)
theorem set_same (l : List UInt8) (k : Nat) (h : k < l.length) (y : UInt8) (hy : y.toNat = bt l k) : l.set k y = l := by
  have e : y = l[k] := by
    apply UInt8.toNat_inj.1
    rw [hy, bt_get l k h]
  rw [e, List.set_getElem_self]
theorem one_more (l : List UInt8) (hl : l.length = 32768) (u : UInt8) (hu : (u.toNat : Int) = ((gsum l : Int) + 1) % 256) : fault (l.set 333 u) = 4 := by
  apply bad_sum _ (by rw [List.length_set]; exact hl)
  rw [bt_set _ _ _ _ (by omega), if_pos rfl, gsum_same (l.set 333 u) l fun i hi => by rw [bt_set _ _ _ _ (by omega), if_neg (by omega)]]
  have := gsum_lt l
  omega

set_option maxRecDepth 100000 in
set_option maxHeartbeats 4000000 in
theorem one_walk (fl : UInt8) (z0 : Int) (x : UInt8) (w : World) (hT : Tab w) :
    Calls Tryd.prog 6 #[.int .u8 (fl.toNat : Int), .int .i64 z0, .int .u8 (x.toNat : Int)] w fun e w' => e = .returned (.bool true) ∧ Below w.heap.size w w' := by
  have HT := Lib.hid hT
  obtain ⟨q, hq, hq2⟩ := place25 z0
  obtain ⟨p, hp⟩ : ∃ p, 308 + q = p := ⟨_, rfl⟩
  have k3 : wrap64 ((308 : Int) + q) = (p : Int) := by unfold wrap64; omega
  have k4 : p < 333 := by omega
  have k5 : (p : Int) < 32768 := by omega
  have k6 : (0 : Int) ≤ p := by omega
  have HQ2 := Lib.hid hq2
  have HP := Lib.hid hp
  clear hT hq2 hp
  go_enter Tryd.func6, Tryd.ntmps6
  go_wp2_with fail
  (with_reducible refine (shown10 w HT.out).mono ?_)
  rintro e w1 ⟨rfl, hf1⟩
  go_wp2_with fail
  (with_reducible refine (file_one w1 fl).mono ?_)
  rintro e w2 ⟨g, l, hg, rfl, hb2, hl2, hh2, hf2⟩
  have hwg : w.heap.size ≤ g := by have := hf1.size; omega
  have hh := hh2 (by decide)
  have hok := one_ok l hl2 hh
  obtain ⟨y, hy⟩ : ∃ y : UInt8, y.toNat = bt l p := ⟨UInt8.ofNat (bt l p), by have := bt_lt l p; simp; omega⟩
  have HX4 : Hid (x ≠ y → fault (l.set p x) = 4) := Lib.hid fun hne => by
    rw [← HP.out]
    exact one_x l hl2 hh.2.2.2 q HQ2.out x (by rw [HP.out, ← hy]; exact fun e => hne (UInt8.toNat_inj.1 e))
  have HX0 : Hid (l.set p y = l) := Lib.hid (set_same l p (by omega) y hy)
  obtain ⟨u, hu⟩ : ∃ u : UInt8, (u.toNat : Int) = ((gsum l : Int) + 1) % 256 := ⟨UInt8.ofNat ((gsum l + 1) % 256), by simp⟩
  have HX5 := Lib.hid (one_more l hl2 u hu)
  rw [← hh.2.2.2] at hu
  have HU := Lib.hid hu
  have HOK := Lib.hid hok
  have HY := Lib.hid hy
  have HL2 := Lib.hid hl2
  have HB2 := Lib.hid hb2
  have HF2 := Lib.hid (hf1.tr hf2)
  clear hf1 hf2 hb2 hl2 hh2 hh hok hy hu hg HQ2 HP
  have c2 := blk_at HB2.out p (by rw [HL2.out]; omega)
  rw [← HY.out] at c2
  go_wp2_with fail
  (with_reducible refine (parse_any w2 (some ⟨g, 0, none⟩) 32768 32768 l (HT.out.later HF2.out) HL2.out (Nat.le_refl _) (rd_blk HB2.out)).mono ?_)
  rintro e wp2 ⟨v, rfl, hin, hfp⟩
  rw [HOK.out]
  obtain ⟨P2, cp2, rfl, -, -⟩ := hin
  generalize (ctOf l) = ct at *
  obtain ⟨m2, pl, r2⟩ := ct
  simp only
  generalize pl.length = p2 at *
  clear pl
  have HBp := Lib.hid (HB2.out.fr hfp (by simp))
  have HFp := Lib.hid (HF2.out.tr hfp)
  clear hfp HB2 HF2
  go_upto_region 6 with fail
  have hal : Fr [] wp2 (wp2.alloc (.cells #[.int .i64 (m2 : Int), .slice P2 p2 cp2, .int .i64 (r2 : Int)] 30)) := (Fr.refl [] wp2).alloc _
  have HB3 := Lib.hid (HBp.out.fr hal (by simp))
  have HF3 := Lib.hid (HFp.out.tr hal)
  clear hal HBp HFp
  generalize wp2.alloc _ = w3 at *
  have c3 := blk_at HB3.out p (by rw [HL2.out]; omega)
  have f3 := HB3.out.frozen p
  have HB4 := Lib.hid (blk_put HB3.out p x)
  have HF4 := Lib.hid (HF3.out.setCell (p := ⟨g, p, none⟩) (.inr hwg) (.int .u8 (x.toNat : Int)))
  have HL4 : Hid ((l.set p x).length = 32768) := Lib.hid (by rw [List.length_set]; exact HL2.out)
  have HX0' : Hid ((l.set p x).set p y = l) := Lib.hid (by rw [List.set_set]; exact HX0.out)
  clear c2
  go_upto_region 7 with fail
  generalize w3.setCell ⟨g, p, none⟩ _ = w4 at *
  obtain ⟨F, hF⟩ : ∃ F, fault (l.set p x) = F := ⟨_, rfl⟩
  have HFx : Hid ((x = y ∧ F = 0) ∨ (x ≠ y ∧ F = 4)) := Lib.hid (by
    by_cases e : x = y
    · refine .inl ⟨e, ?_⟩
      rw [← hF, e, HX0.out, HOK.out]
    · exact .inr ⟨e, by rw [← hF]; exact HX4.out e⟩)
  have HFF := Lib.hid hF
  clear hF c3 f3 HX4 HB3 HF3
  generalize l.set p x = l4 at *
  go_wp2_with fail
  (with_reducible refine (parse_any w4 (some ⟨g, 0, none⟩) 32768 32768 l4 (HT.out.later HF4.out) HL4.out (Nat.le_refl _) (rd_blk HB4.out)).mono ?_)
  rintro e wp4 ⟨v, rfl, hin, hfp⟩
  rw [HFF.out]
  obtain ⟨P4, cp4, rfl, -, -⟩ := hin
  generalize (ctOf l4) = ct at *
  obtain ⟨m4, pl, r4⟩ := ct
  simp only
  generalize pl.length = p4 at *
  clear pl
  have HBp := Lib.hid (HB4.out.fr hfp (by simp))
  have HFp := Lib.hid (HF4.out.tr hfp)
  clear hfp HB4 HF4
  go_upto_region 8 with fail
  have hal : Fr [] wp4 (wp4.alloc (.cells #[.int .i64 (m4 : Int), .slice P4 p4 cp4, .int .i64 (r4 : Int)] 30)) := (Fr.refl [] wp4).alloc _
  have HB5 := Lib.hid (HBp.out.fr hal (by simp))
  have HF5 := Lib.hid (HFp.out.tr hal)
  clear hal HBp HFp
  generalize wp4.alloc _ = w5 at *
  have c5 := blk_at HB5.out p (by rw [HL4.out]; omega)
  have f5 := HB5.out.frozen p
  have hb6 := blk_put HB5.out p y
  rw [HX0'.out] at hb6
  have HB6 := Lib.hid hb6
  have HF6 := Lib.hid (HF5.out.setCell (p := ⟨g, p, none⟩) (.inr hwg) (.int .u8 (y.toNat : Int)))
  clear hb6
  go_upto_region 9 with fail
  generalize w5.setCell ⟨g, p, none⟩ _ = w6 at *
  clear c5 f5 HB5 HF5
  have c6 := blk_at HB6.out 333 (by rw [HL2.out]; decide)
  have f6 := HB6.out.frozen 333
  have HB7 := Lib.hid (blk_put HB6.out 333 u)
  have HF7 := Lib.hid (HF6.out.setCell (p := ⟨g, 333, none⟩) (.inr hwg) (.int .u8 (u.toNat : Int)))
  have HL7 : Hid ((l.set 333 u).length = 32768) := Lib.hid (by rw [List.length_set]; exact HL2.out)
  rw [HU.out] at HB7 HF7
  go_upto_region 10 with fail
  generalize w6.setCell ⟨g, 333, none⟩ _ = w7 at *
  clear c6 f6 HB6 HF6
  generalize l.set 333 u = l7 at *
  go_wp2_with fail
  (with_reducible refine (parse_any w7 (some ⟨g, 0, none⟩) 32768 32768 l7 (HT.out.later HF7.out) HL7.out (Nat.le_refl _) (rd_blk HB7.out)).mono ?_)
  rintro e wp7 ⟨v, rfl, hin, hfp⟩
  rw [HX5.out]
  obtain ⟨P7, cp7, rfl, -, -⟩ := hin
  generalize (ctOf l7) = ct at *
  obtain ⟨m7, pl, r7⟩ := ct
  simp only
  generalize pl.length = p7 at *
  clear pl
  have HBp := Lib.hid (HB7.out.fr hfp (by simp))
  have HFp := Lib.hid (HF7.out.tr hfp)
  clear hfp HB7 HF7
  go_upto_region 11 with fail
  have hal : Fr [] wp7 (wp7.alloc (.cells #[.int .i64 (m7 : Int), .slice P7 p7 cp7, .int .i64 (r7 : Int)] 30)) := (Fr.refl [] wp7).alloc _
  have HB8 := Lib.hid (HBp.out.fr hal (by simp))
  have HF8 := Lib.hid (HFp.out.tr hal)
  clear hal HBp HFp
  generalize wp7.alloc _ = w8 at *
  rcases HFx.out with ⟨rfl, rfl⟩ | ⟨hne, rfl⟩
  · go_wp2
    go_ret
    exact ⟨by simp, HF8.out.below (by simp) (Nat.le_refl _)⟩
  · obtain ⟨X, hX⟩ : ∃ X : Int, (x.toNat : Int) = X := ⟨_, rfl⟩
    obtain ⟨Y, hY⟩ : ∃ Y : Int, (y.toNat : Int) = Y := ⟨_, rfl⟩
    have h1 : (X != Y) = true := by
      rw [bne_iff_ne]
      intro e
      exact hne (UInt8.toNat_inj.1 (by omega))
    rw [hX, hY]
    clear hX hY hne
    go_wp2
    go_ret
    exact ⟨by simp, HF8.out.below (by simp) (Nat.le_refl _)⟩

end Gb
end Go.Proofs.YthomlnaabkfcpaaDoor
