/-
  picklocklaw10.shown returns true, and turns nothing that was there. Condition: the table of RAM's sizes holds what its text lays.
-/
import Derived.Test.YthomlnaabkfcpaaDoorGbBoth
import Derived.Test.YthomlnaabkfcpaaDoorGbFile
namespace Go.Proofs.YthomlnaabkfcpaaDoor
open Go.RowKit
namespace Gb

def z400 : List UInt8 := List.replicate 400 0
theorem z400_length : z400.length = 400 := List.length_replicate
theorem bt_rep (n i : Nat) : bt (List.replicate n 0) i = 0 := by
  unfold bt List.getD
  rw [List.getElem?_replicate]
  split <;> rfl
theorem sum_z400 : gsum z400 = 231 := by
  unfold gsum z400
  simp only [sumK, bt_rep]
theorem at_z400 : bt (signed z400) 333 = 231 := by rw [at_signed _ (by rw [z400_length]; decide), sum_z400]

theorem sh_ok (l : List UInt8) (hl : l.length = 65536) (h : bt l 327 = (19 : UInt8).toNat ∧ bt l 328 = (1 : UInt8).toNat ∧ bt l 329 = (3 : UInt8).toNat ∧ bt l 333 = gsum l) :
    fault l = 0 ∧ ctOf l = ⟨3, l, 32768⟩ := by
  obtain ⟨h1, h2, h3, h4⟩ := h
  have h1 : bt l 327 = 19 := h1
  have h2 : bt l 328 = 1 := h2
  have h3 : bt l 329 = 3 := h3
  have hf : fault l = 0 := by
    unfold fault
    rw [hl, h1, h2, h3, h4]
    have : ¬ unfit (kindN 19) 1 3 := by unfold unfit kindN; decide
    rw [if_neg (by decide), if_neg (by decide), if_neg (by simp), if_neg (by decide), if_neg this, if_neg (by decide)]
  refine ⟨hf, ?_⟩
  unfold ctOf cartOf
  rw [if_pos hf, h1, h2, h3, List.take_of_length_le (by rw [hl]; decide)]
  rfl
theorem sh_bad (l : List UInt8) (hl : l.length = 65535) (h : bt l 327 = (19 : UInt8).toNat ∧ bt l 328 = (1 : UInt8).toNat ∧ bt l 329 = (3 : UInt8).toNat ∧ bt l 333 = gsum l) :
    fault l = 2 ∧ ctOf l = ⟨0, [], 0⟩ := by
  obtain ⟨h1, h2, h3, h4⟩ := h
  have h1 : bt l 327 = 19 := h1
  have h2 : bt l 328 = 1 := h2
  have h3 : bt l 329 = 3 := h3
  have hf : fault l = 2 := by
    unfold fault
    rw [hl, h1, h2, h3, h4]
    have : ¬ unfit (kindN 19) 1 3 := by unfold unfit kindN; decide
    rw [if_neg (by decide), if_neg (by decide), if_neg (by simp), if_neg (by decide), if_neg this, if_pos (by decide)]
  refine ⟨hf, ?_⟩
  unfold ctOf
  rw [if_neg (by rw [hf]; decide)]

theorem file_65536 (w : World) : Calls Tryd.prog 9 #[.int .i64 65536, .int .u8 5, .agg #[.int .u8 19, .int .u8 1, .int .u8 3]] w (Filed w 65536 19 1 3) := file_any w 65536 5 19 1 3 (by decide)
theorem file_65535 (w : World) : Calls Tryd.prog 9 #[.int .i64 65535, .int .u8 5, .agg #[.int .u8 19, .int .u8 1, .int .u8 3]] w (Filed w 65535 19 1 3) := file_any w 65535 5 19 1 3 (by decide)
theorem make_400 (w : World) : (Instr.makeSlice 26 (.int .i64 400) (.int .i64 400)).run Tryd.prog w = .ok (.slice (some ⟨w.heap.size, 0, none⟩) 400 400) (w.alloc (.cells (bv z400).toArray 5)) := Mi.make_i64 400 (by decide) w

set_option maxRecDepth 100000 in
set_option maxHeartbeats 2000000 in
theorem shown10 (w : World) (hT : Tab w) : Calls Tryd.prog 8 #[] w fun e w' => e = .returned (.bool true) ∧ Fr [] w w' := by
  have HT := Lib.hid hT
  clear hT
  go_enter Tryd.func8, Tryd.ntmps8
  go_wp2_with fail
  (with_reducible refine (file_65536 w).mono ?_)
  rintro e w1 ⟨g1, l1, hg1, rfl, hb1, hl1, hh1, hf1⟩
  have HS1 := Lib.hid (sh_ok l1 hl1 (hh1 (by decide)))
  have HL1 := Lib.hid hl1
  have HB1 := Lib.hid hb1
  have HF1 := Lib.hid hf1
  clear hb1 hl1 hh1 hf1
  go_wp2_with fail
  (with_reducible refine (parse_any w1 (some ⟨g1, 0, none⟩) 65536 65536 l1 (HT.out.later HF1.out) HL1.out (Nat.le_refl _) (rd_blk HB1.out)).mono ?_)
  rintro e w2 ⟨v, rfl, hc2, hf2⟩
  rw [HS1.out.1, HS1.out.2] at *
  obtain ⟨A1, c1, rfl, -, -⟩ := hc2
  simp only
  rw [HL1.out]
  have HF2 := Lib.hid (HF1.out.tr hf2)
  clear hf2 HF1 HB1 HL1 HS1 hg1
  go_upto_region 2 with fail
  obtain ⟨u, hu⟩ : ∃ u, w2.heap.size = u := ⟨_, rfl⟩
  have hbu := Blk.fresh w2 30 #[.int .i64 3, .slice A1 65536 c1, .int .i64 32768]
  have hal : Fr [] w2 (w2.alloc (.cells #[.int .i64 3, .slice A1 65536 c1, .int .i64 32768] 30)) := (Fr.refl [] w2).alloc _
  rw [hu] at hbu ⊢
  have HU3 := Lib.hid hbu
  have HF3 := Lib.hid (HF2.out.tr hal)
  clear hbu hal HF2
  generalize w2.alloc _ = w3 at *
  go_wp2_with fail
  (with_reducible refine (file_65535 w3).mono ?_)
  rintro e w4 ⟨g2, l2, -, rfl, hb2, hl2, hh2, hf4⟩
  have HS2 := Lib.hid (sh_bad l2 hl2 (hh2 (by decide)))
  have HL2 := Lib.hid hl2
  have HB2 := Lib.hid hb2
  have HF4 := Lib.hid (HF3.out.tr hf4)
  have HU4 := Lib.hid (HU3.out.fr hf4 (by simp))
  clear hb2 hl2 hh2 hf4 HF3 HU3
  go_wp2_with fail
  (with_reducible refine (parse_any w4 (some ⟨g2, 0, none⟩) 65535 65535 l2 (HT.out.later HF4.out) HL2.out (Nat.le_refl _) (rd_blk HB2.out)).mono ?_)
  rintro e w5 ⟨v, rfl, hc5, hf5⟩
  rw [HS2.out.1, HS2.out.2] at *
  obtain ⟨A2, c2, rfl, -, -⟩ := hc5
  simp only [List.length_nil]
  have HF5 := Lib.hid (HF4.out.tr hf5)
  have HU5 := Lib.hid (HU4.out.fr hf5 (by simp))
  clear hf5 HF4 HU4 HB2 HL2 HS2
  go_upto_region 3 with fail
  have hal : Fr [] w5 (w5.alloc (.cells #[.int .i64 0, .slice A2 0 c2, .int .i64 0] 30)) := (Fr.refl [] w5).alloc _
  have HU6 := Lib.hid (HU5.out.fr hal (by simp))
  have HF6 := Lib.hid (HF5.out.tr hal)
  clear hal HF5 HU5
  generalize w5.alloc _ = w6 at *
  have hmk := make_400 w6
  obtain ⟨g, hg⟩ : ∃ g, w6.heap.size = g := ⟨_, rfl⟩
  have hb7 := Blk.fresh w6 5 (bv z400).toArray
  have hal : Fr [] w6 (w6.alloc (.cells (bv z400).toArray 5)) := (Fr.refl [] w6).alloc _
  rw [hg] at hb7 hmk
  have HB7 := Lib.hid hb7
  have HU7 := Lib.hid (HU6.out.fr hal (by simp))
  have HF7 := Lib.hid (HF6.out.tr hal)
  clear hb7 hal HF6 HU6
  go_wp2_with fail
  generalize w6.alloc _ = w7 at *
  (with_reducible refine (sign_any w7 (some ⟨g, 0, none⟩) 400 400 z400 z400_length (by decide) (by decide) (rd_blk HB7.out)).mono ?_)
  rintro e w8 ⟨A8, c8, rfl, ho8, hf8⟩
  obtain ⟨b8, o8, rfl, hcell⟩ := ho8.rd (by rw [signed_length, z400_length]; decide)
  have hc8 := ho8.caps.1
  have k8 := hcell 333 (by rw [signed_length, z400_length]; decide)
  rw [← bt_get, at_z400] at k8
  have HU8 := Lib.hid (HU7.out.fr hf8 (by simp))
  have HF8 := Lib.hid (HF7.out.tr hf8)
  clear ho8 hf8 hcell HF7 HU7 HB7 hmk hg
  obtain ⟨d0, d1, d2⟩ := blk3 HU8.out
  go_wp2
  go_ret
  exact ⟨by simp, HF8.out⟩

end Gb
end Go.Proofs.YthomlnaabkfcpaaDoor
