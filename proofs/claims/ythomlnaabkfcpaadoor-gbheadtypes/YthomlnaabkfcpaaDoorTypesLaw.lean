/-
  picklocklaw10.GbheadTypes returns true for every input. Condition: the table of RAM's sizes holds what its text lays.
-/
import Derived.Test.YthomlnaabkfcpaaDoorGbShown
namespace Go.Proofs.YthomlnaabkfcpaaDoor
open Go.RowKit
namespace Gb

theorem file_types (w : World) (a b c : UInt8) : Calls Tryd.prog 9 #[.int .i64 131072, .int .u8 9, .agg #[.int .u8 (a.toNat : Int), .int .u8 (b.toNat : Int), .int .u8 (c.toNat : Int)]] w (Filed w 131072 a b c) := file_any w 131072 9 a b c (by decide)

set_option maxRecDepth 100000 in
set_option maxHeartbeats 2000000 in
theorem types_walk (a b c : UInt8) (w : World) (hT : Tab w) :
    Calls Tryd.prog 4 #[.agg #[.int .u8 (a.toNat : Int), .int .u8 (b.toNat : Int), .int .u8 (c.toNat : Int)]] w fun e w' => e = .returned (.bool true) ∧ Below w.heap.size w w' := by
  have HT := Lib.hid hT
  have HFl := Lib.hid (fun W => file_types W a b c)
  obtain ⟨z, hz⟩ : ∃ z, w.heap.size = z := ⟨_, rfl⟩
  have hb0 := Blk.fresh w 22 #[.int .u8 (a.toNat : Int), .int .u8 (b.toNat : Int), .int .u8 (c.toNat : Int)]
  have hal : Fr [] w (w.alloc (.cells #[.int .u8 (a.toNat : Int), .int .u8 (b.toNat : Int), .int .u8 (c.toNat : Int)] 22)) := (Fr.refl [] w).alloc _
  rw [hz] at hb0
  have HZ0 := Lib.hid hb0
  have HF0 := Lib.hid hal
  clear hb0 hT hal
  go_enter Tryd.func4, Tryd.ntmps4
  go_upto_region 1 with fail

  generalize w.alloc _ = w0 at *
  go_wp2_with fail
  (with_reducible refine (shown10 w0 (HT.out.later HF0.out)).mono ?_)
  rintro e w1 ⟨rfl, hf1⟩
  have hb1 := HZ0.out.fr hf1 (by simp)
  have HF1 := Lib.hid (HF0.out.tr hf1)
  obtain ⟨q0, q1, q2⟩ := blk3 hb1
  clear hf1 hb1 HZ0 HF0
  go_wp2_with fail
  (with_reducible refine (HFl.out w1).mono ?_)
  rintro e w2 ⟨g, l, -, rfl, hb2, hl2, -, hf2⟩
  have HF2 := Lib.hid (HF1.out.tr hf2)
  have HR2 := Lib.hid (rd_blk hb2)
  have HL2 := Lib.hid hl2
  clear hb2 hl2 hf2 HF1 HFl q0 q1 q2
  have HPa := Lib.hid (parse_any w2 (some ⟨g, 0, none⟩) 131072 131072 l (HT.out.later HF2.out) HL2.out (Nat.le_refl _) HR2.out)
  have HRa : Hid (∀ W, Fr [] w2 W → Calls Tryd.prog 12 #[.slice (some ⟨g, 0, none⟩) 131072 131072] W (Outcome W l)) := Lib.hid fun W hW => rparse_any W (some ⟨g, 0, none⟩) 131072 131072 l HL2.out (Nat.le_refl _) (HR2.out.later hW (by simp))
  unfold Outcome at HPa HRa
  generalize (fault l : Int) = ft at *
  generalize ctOf l = ct at *
  go_wp2_with fail
  (with_reducible refine HPa.out.mono ?_)
  rintro e w4 ⟨v, rfl, hin, hf4⟩
  obtain ⟨P, cp, rfl, hP, -⟩ := hin
  obtain ⟨m, pl, r⟩ := ct
  simp only at hP ⊢
  obtain ⟨p1, hp1⟩ : ∃ p, pl.length = p := ⟨_, rfl⟩
  rw [hp1]
  have HP1 := Lib.hid hp1
  have HPP := Lib.hid hP
  have HF4 := Lib.hid hf4
  clear hf4 hP hp1 HPa
  go_upto_region 4 with fail
  obtain ⟨u1, hu1⟩ : ∃ u, w4.heap.size = u := ⟨_, rfl⟩
  have hb5 := Blk.fresh w4 30 #[.int .i64 (m : Int), .slice P p1 cp, .int .i64 (r : Int)]
  have hal : Fr [] w4 (w4.alloc (.cells #[.int .i64 (m : Int), .slice P p1 cp, .int .i64 (r : Int)] 30)) := (Fr.refl [] w4).alloc _
  rw [hu1] at hb5 ⊢
  have HB5 := Lib.hid hb5
  have HF5 := Lib.hid (HF4.out.tr hal)
  have HP5 := Lib.hid (HPP.out.later hal (by simp))
  clear hb5 hal HF4 HPP
  generalize w4.alloc _ = w5 at *
  have HRb := Lib.hid (HRa.out w5 HF5.out)
  clear HRa
  go_wp2_with fail
  (with_reducible refine HRb.out.mono ?_)
  rintro e w6 ⟨v, rfl, hin, hf6⟩
  obtain ⟨P', cp', rfl, hP', -⟩ := hin
  simp only at hP' ⊢
  rw [HP1.out]
  have HF6 := Lib.hid (HF5.out.tr hf6)
  have HB6 := Lib.hid (HB5.out.fr hf6 (by simp))
  have HP6 := Lib.hid (HP5.out.later hf6 (by simp))
  have HPP := Lib.hid hP'
  clear hf6 hP' HF5 HB5 HP5 HRb
  go_upto_region 5 with fail
  obtain ⟨u2, hu2⟩ : ∃ u, w6.heap.size = u := ⟨_, rfl⟩
  have hb7 := Blk.fresh w6 34 #[.int .i64 (m : Int), .slice P' p1 cp', .int .i64 (r : Int)]
  have hal : Fr [] w6 (w6.alloc (.cells #[.int .i64 (m : Int), .slice P' p1 cp', .int .i64 (r : Int)] 34)) := (Fr.refl [] w6).alloc _
  rw [hu2] at hb7 ⊢
  have hb5 := HB6.out.fr hal (by simp)
  have HF7 := Lib.hid (HF6.out.tr hal)
  have HK := Lib.hid (HP6.out.later hal (by simp))
  have HK3 := Lib.hid (HPP.out.later hal (by simp))
  clear hal HF6 HB6 HP6 HPP
  generalize w6.alloc _ = w7 at *
  obtain ⟨d0, d1, d2⟩ := blk3 hb5
  obtain ⟨e0, e1, e2⟩ := blk3 hb7
  have HS := Lib.hid (same_cart 0 0 w7 (.agg #[.int .i64 (m : Int), .slice P p1 cp, .int .i64 (r : Int)]) (.agg #[.int .i64 (m : Int), .slice P' p1 cp', .int .i64 (r : Int)]) ⟨m, pl, r⟩ ⟨P, cp, by rw [← HP1.out], HK.out, fun _ _ => Nat.zero_le _⟩ ⟨P', cp', by rw [← HP1.out], HK3.out, fun _ _ => Nat.zero_le _⟩)
  clear hb5 hb7 HK HK3
  go_wp2_with fail
  (with_reducible refine HS.out.mono ?_)
  rintro e w8 ⟨rfl, hf8⟩
  have HF8 : Hid (Fr [] w w8) := Lib.hid (HF2.out.tr (HF7.out.tr hf8))
  clear hf8 d0 d1 d2 e0 e1 e2
  go_wp2
  go_ret
  exact ⟨by rfl, HF8.out.below (by simp) (Nat.le_refl _)⟩

end Gb
end Go.Proofs.YthomlnaabkfcpaaDoor
