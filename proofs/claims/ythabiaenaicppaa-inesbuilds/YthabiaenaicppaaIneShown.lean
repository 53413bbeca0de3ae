/-
  picklocklaw09.shown returns true, and turns nothing that was there.
-/
import Derived.Test.YthabiaenaicppaaIneBoth
import Derived.Test.YthabiaenaicppaaIneBuild2
namespace Go.Proofs.Ythabiaenaicppaa
open Go.RowKit
namespace Ine

def zs : List UInt8 := List.replicate 16384 0
theorem zs_length : zs.length = 16384 := List.length_replicate
def shL : List UInt8 := fileOf 1 0 33 zs []
theorem shL_length : shL.length = 16400 := by unfold shL fileOf; simp only [List.length_append, head8_length, zs_length, List.length_replicate, List.length_nil]
theorem sh_file : cartOf shL = ⟨2, 1, zs, blank, true⟩ ∧ fault shL = 0 := by
  have h := parts 1 0 33 0 (List.replicate 8 0) [] zs [] [] List.length_replicate rfl (by rw [zs_length]; rfl) rfl
  refine ⟨h.1, h.2 (by decide) (by decide) (by decide) (by decide) ?_⟩
  rw [zs_length]
  decide
theorem sh_end : endAt shL = 16400 := by
  obtain ⟨-, -, -, -, -, h⟩ := fault_cases shL sh_file.2
  have h1 := (cart_lens shL h).1
  rw [sh_file.1] at h1
  have h1 : zs.length = prgB shL := h1
  have b := bt_head 1 0 33 0 (List.replicate 8 0 ++ ([] ++ (zs ++ ([] ++ []))))
  obtain ⟨-, b4, b5, b6, b7⟩ := b
  have c5 : bt shL 5 = 0 := b5
  have c6 : bt shL 6 = 33 := b6
  unfold endAt start chrB
  rw [c5, c6, ← h1, zs_length]
  decide
theorem sh_cut : fault (shL.take 16399) = 2 := fault_take shL 16399 (by decide) (by rw [sh_end]; decide) (by rw [shL_length]; decide) sh_file.2
theorem sh_head : headL 1 0 33 0 ++ zs = shL := by simp [headL, shL, fileOf, List.append_assoc]
theorem all_zero (n : Nat) : (List.replicate n (0 : UInt8)).all (· == 0) = true := by
  induction n with
  | zero => rfl
  | succ n ih => rw [List.replicate_succ, List.all_cons, ih]; rfl
theorem blank_blank : blankB blank = true := by
  unfold blankB
  rw [blank_length]
  have : blank.all (· == 0) = true := all_zero 8192
  rw [this]
  rfl

theorem head_lit (w : World) : Calls Try.prog 8 #[.int .u8 1, .int .u8 0, .int .u8 33, .int .u8 0] w (Headed w 1 0 33 0) := head_any w 1 0 33 0
theorem sh_may : May 2 1 16384 8192 blank true := ⟨by omega, .inr rfl, by decide, (fun h => absurd h (by decide)), fun _ => blank_blank⟩
theorem sh_build (w : World) (g1 g2 : Nat) (h1 : Blk w g1 5 (bv zs).toArray) (h2 : Blk w g2 5 (bv blank).toArray) : Calls Try.prog 13 #[cV 2 1 (some ⟨g1, 0, none⟩) 16384 16384 (some ⟨g2, 0, none⟩) 8192 8192 true] w (Built w shL) :=
  build_ok w 2 1 (some ⟨g1, 0, none⟩) 16384 16384 (some ⟨g2, 0, none⟩) 8192 8192 true zs blank 1 0 33 zs_length blank_length (rd_blk h1) (rd_blk h2) (by simp) (by simp) sh_may (by decide) (by decide) rfl rfl rfl

set_option maxRecDepth 100000 in
set_option maxHeartbeats 2000000 in
theorem shown9 (w : World) : Calls Try.prog 7 #[] w fun e w' => e = .returned (.bool true) ∧ Fr [] w w' := by
  obtain ⟨i0, hi, hz0, hz1, hz2⟩ := info_parts info5
  have HL1 := Lib.hid shL_length
  have HF := Lib.hid sh_file
  have HCut := Lib.hid sh_cut
  have HB := Lib.hid sh_build
  have HHd : Hid (headL 1 0 33 0 ++ zs = shL) := Lib.hid sh_head
  generalize shL = l0 at *
  go_enter Try.func7, Try.ntmps7
  go_wp2_with fail
  (with_reducible refine (head_lit w).mono ?_)
  rintro e w1 ⟨A1, c1, rfl, ho1, hf1⟩
  have HO1 := Lib.hid ho1
  have HF1 := Lib.hid hf1
  clear ho1 hf1
  go_wp2_with (at_builtin; refine Az.wpList_appZZ _ rfl _ _ 27 3 rfl w.heap.size i0 Try.underlying27 Try.underlying3 hi hz0 hz1 hz2 (.slice A1 16 c1) (headL 1 0 33 0) zs rfl HO1.out 16384 rfl rfl (by decide) 16400 (by rw [headL_length]) (by decide) HF1.out.size ?_)
  intro A2 c2 w2 ho2 hf2 _
  rw [HHd.out] at ho2
  have HO2 := Lib.hid ho2
  have HF2 : Hid (Fr [] w w2) := Lib.hid (HF1.out.trans hf2 (fun k hk => .inr (HO1.out.lt k (by simpa using hk)).1))
  obtain ⟨hc2, hc3⟩ := ho2.caps
  clear ho2 hf2 HO1 HF1 HHd
  go_wp2_with fail
  (with_reducible refine (parse_ok w2 A2 16400 c2 l0 HL1.out hc2 HO2.out.rd HF.out.2).mono ?_)
  rintro e w3 ⟨v, rfl, ht⟩
  rw [HF.out.1] at ht
  obtain ⟨g1, g2, rfl, hg1, hg2, hne, hd1, hd2, hf3⟩ := ht
  simp only [ctV] at hd1 hd2 ⊢
  rw [zs_length, blank_length]
  have HD1 := Lib.hid hd1
  have HD2 := Lib.hid hd2
  have HO3 := Lib.hid (HO2.out.fr hf3 (by simp))
  have HF3 := Lib.hid (HF2.out.tr hf3)
  clear hd1 hd2 hf3 HO2 HF2
  go_upto_region 3 with fail
  obtain ⟨u, hu⟩ : ∃ u, w3.heap.size = u := ⟨_, rfl⟩
  have hbu := Blk.fresh w3 32 #[.int .i64 2, .int .i64 1, .slice (some ⟨g1, 0, none⟩) 16384 16384, .slice (some ⟨g2, 0, none⟩) 8192 8192, .bool true]
  have hal : Fr [] w3 (w3.alloc (.cells #[.int .i64 2, .int .i64 1, .slice (some ⟨g1, 0, none⟩) 16384 16384, .slice (some ⟨g2, 0, none⟩) 8192 8192, .bool true] 32)) := (Fr.refl [] w3).alloc _
  rw [hu] at hbu ⊢
  have HU4 := Lib.hid hbu
  have HD1' := Lib.hid (HD1.out.fr hal (by simp))
  have HD2' := Lib.hid (HD2.out.fr hal (by simp))
  have HO4 := Lib.hid (HO3.out.fr hal (by simp))
  have HF4 := Lib.hid (HF3.out.tr hal)
  clear hbu hal HD1 HD2 HO3 HF3
  generalize w3.alloc _ = w4 at *
  have h99 : (16399 : Int) ≤ c2 := by omega
  have h99' : 16399 ≤ c2 := by omega
  go_wp2_with fail
  (with_reducible refine (parse_bad w4 A2 16399 c2 (l0.take 16399) (by rw [List.length_take, HL1.out]; decide) (by omega) (rd_take HO4.out.rd 16399) (by rw [HCut.out]; decide)).mono ?_)
  rintro e w5 hx5
  rw [HCut.out] at hx5
  obtain ⟨rfl, hf5⟩ := hx5
  have HU5 := Lib.hid (HU4.out.fr hf5 (by simp))
  have HD15 := Lib.hid (HD1'.out.fr hf5 (by simp))
  have HD25 := Lib.hid (HD2'.out.fr hf5 (by simp))
  have HO5 := Lib.hid (HO4.out.fr hf5 (by simp))
  have HF5 := Lib.hid (HF4.out.tr hf5)
  clear hf5 HU4 HD1' HD2' HO4 HF4
  unfold zeroCt
  go_upto_region 4 with fail
  have hal : Fr [] w5 (w5.alloc (.cells #[.int .i64 0, .int .i64 0, .slice none 0 0, .slice none 0 0, .bool false] 32)) := (Fr.refl [] w5).alloc _
  have hU6 := HU5.out.fr hal (by simp)
  have HD16 := Lib.hid (HD15.out.fr hal (by simp))
  have HD26 := Lib.hid (HD25.out.fr hal (by simp))
  have HO6 := Lib.hid (HO5.out.fr hal (by simp))
  have HF6 := Lib.hid (HF5.out.tr hal)
  clear hal HU5 HD15 HD25 HO5 HF5
  generalize w5.alloc _ = w6 at *
  obtain ⟨d0, d1, d2, d3, d4⟩ := blk5 hU6
  have HU6 := Lib.hid hU6
  have HBu := Lib.hid (HB.out w6 g1 g2 HD16.out HD26.out)
  unfold cV at HBu
  clear hU6 HB
  go_wp2_with fail
  (with_reducible refine HBu.out.mono ?_)
  rintro e w7 ⟨g7, n7, hn7, rfl, hg7, hb7, hf7⟩
  rw [HL1.out] at hn7
  subst hn7
  have hU7 := HU6.out.fr hf7 (by simp)
  have HF7 := Lib.hid (HF6.out.tr hf7)
  have k1 := run_str (P := Try.prog) (w := w7) 27 9 5 (cap := c2) Try.underlying27 Try.underlying5 Try.underlying9 (HO6.out.fr hf7 (by simp)).rd
  have k2 := run_str (P := Try.prog) (w := w7) 27 9 5 (cap := 16400) Try.underlying27 Try.underlying5 Try.underlying9 (rd_blk hb7)
  rw [HL1.out] at k1 k2
  clear d0 d1 d2 d3 d4
  obtain ⟨d0, d1, d2, d3, d4⟩ := blk5 hU7
  clear hb7 hf7 hU7 HU6 HD16 HD26 HO6 HF6 HBu HL1 HF HCut
  go_wp2
  go_ret
  exact ⟨by simp, HF7.out⟩

end Ine
end Go.Proofs.Ythabiaenaicppaa
