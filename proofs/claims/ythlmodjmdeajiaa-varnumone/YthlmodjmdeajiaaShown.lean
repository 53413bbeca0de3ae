/-
  picklocklaw03.shown returns true, and turns nothing that was there.
-/
import Derived.Test.YthlmodjmdeajiaaVarPut2
import Derived.Test.YthlmodjmdeajiaaVarTake
import Derived.Test.YthlmodjmdeajiaaVarTurn
namespace Go.Proofs.Ythlmodjmdeajiaa
open Go.RowKit
namespace Var

theorem put0 : putV 0 = [128] := by rw [putV_last (by decide)]; rfl
theorem put128 : putV 128 = [0, 128] := by rw [putV_more (by decide)]; show _ :: putV 0 = _; rw [put0]; rfl

theorem putZ (w : World) (z : Int) (u : Nat) (R : List UInt8) (n : Nat) (hz : z = (u : Int)) (hR : putV u = R) (hn : R.length = n) (hu : u ≤ most) :
    Calls Try.prog 13 #[.int .u64 z] w fun e w' => ∃ g, e = .returned (.slice (some ⟨g, 0, none⟩) n n) ∧ w.heap.size ≤ g ∧ Blk w' g 5 (bv R).toArray ∧ Fr [] w w' := by
  subst hz hR hn
  exact put_any w u hu
theorem putZ_none (w : World) (z : Int) (u : Nat) (hz : z = (u : Int)) (hu : most < u) :
    Calls Try.prog 13 #[.int .u64 z] w fun e w' => e = .returned (.slice none 0 0) ∧ w = w' := by
  subst hz
  exact put_none w u hu

set_option maxRecDepth 100000 in
set_option maxHeartbeats 2000000 in
theorem shown_any (w : World) : Calls Try.prog 8 #[] w fun e w' => e = .returned (.bool true) ∧ Fr [] w w' := by
  go_enter Try.func8, Try.ntmps8
  go_wp2_with fail
  have hb1 : Blk (w.alloc (.cells #[.int .u8 0, .int .u8 128, .int .u8 255, .int .u8 1] 5)) w.heap.size 5 (bv [0, 128, 255, 1]).toArray := Blk.fresh _ _ _
  refine (newReader_any _ 4 4 [0, 128, 255, 1] _ rfl (rd_blk hb1) (by decide)).mono ?_
  rintro e w1 ⟨p, rfl, h1, hp1, hf1⟩
  obtain ⟨g, hg⟩ : ∃ g, (w.alloc (.cells #[.int .u8 0, .int .u8 128, .int .u8 255, .int .u8 1] 5)).heap.size = g := ⟨_, rfl⟩
  rw [hg] at h1 hp1
  have hp : w.heap.size ≤ p := by simp at hg; omega
  have HF1 : Hid (Fr [] w w1) := ((Fr.refl [] w).alloc _).tr hf1
  have H1 := Lib.hid h1
  clear hb1 h1 hp1 hf1 hg
  go_wp2_with fail
  refine (take_any _ p g 0 _ H1.out (by decide) (by decide) (128, 2, 0) (by decide)).mono ?_
  rintro e w2 ⟨rfl, h2, hf2⟩
  have HF2 : Hid (Fr [] w w2) := HF1.out.trans hf2 (by simpa using hp)
  have H2 : Hid (Rdr w2 p g [0, 128, 255, 1] 2) := h2
  clear h2 hf2
  go_wp2_with fail
  refine (take_any _ p g 2 _ H2.out (by decide) (by decide) (127, 1, 0) (by decide)).mono ?_
  rintro e w3 ⟨rfl, h3, hf3⟩
  have HF3 : Hid (Fr [] w w3) := HF2.out.trans hf3 (by simpa using hp)
  have H3 : Hid (Rdr w3 p g [0, 128, 255, 1] 3) := h3
  clear h3 hf3
  go_wp2_with fail
  refine (take_any _ p g 3 _ H3.out (by decide) (by decide) (0, 0, 2) (by decide)).mono ?_
  rintro e w4 ⟨rfl, h4, hf4⟩
  have HF4 : Hid (Fr [] w w4) := HF3.out.trans hf4 (by simpa using hp)
  have H4 : Hid (Rdr w4 p g [0, 128, 255, 1] 3) := h4
  clear h4 hf4
  go_wp2_with fail
  refine (putZ _ 128 128 [0, 128] 2 rfl put128 rfl (by decide)).mono ?_
  rintro e w5 ⟨g5, rfl, _, hb5, hf5⟩
  have hconv : Sem.run Try.prog (convert 22 9 (.slice (some ⟨g5, 0, none⟩) 2 2)) w5 = .ok (.string ⟨#[0, 128]⟩) w5 :=
    run_str 22 9 5 (l := [0, 128]) Try.underlying22 Try.underlying5 Try.underlying9 (rd_blk hb5)
  have HF5 : Hid (Fr [] w w5) := HF4.out.tr hf5
  have H5 : Hid (Rdr w5 p g [0, 128, 255, 1] 3) := H4.out.fr hf5 (by simp) (by simp)
  clear hb5 hf5
  go_wp2_with fail
  clear hconv
  refine (putZ _ 0 0 [128] 1 rfl put0 rfl (by decide)).mono ?_
  rintro e w6 ⟨g6, rfl, _, hb6, hf6⟩
  have hconv : Sem.run Try.prog (convert 22 9 (.slice (some ⟨g6, 0, none⟩) 1 1)) w6 = .ok (.string ⟨#[128]⟩) w6 :=
    run_str 22 9 5 (l := [128]) Try.underlying22 Try.underlying5 Try.underlying9 (rd_blk hb6)
  have HF6 : Hid (Fr [] w w6) := HF5.out.tr hf6
  have H6 : Hid (Rdr w6 p g [0, 128, 255, 1] 3) := H5.out.fr hf6 (by simp) (by simp)
  clear hb6 hf6
  go_wp2_with fail
  clear hconv
  refine (putZ_none _ 4294967297 4294967297 rfl (by decide)).mono ?_
  rintro e w7 ⟨rfl, rfl⟩
  go_wp2_with fail
  refine (at_any _ p _ 3 _ H6.out).mono ?_
  rintro e w7 ⟨rfl, rfl⟩
  go_wp2_with fail
  refine (turn_any _ (-3) (by decide) (by decide)).mono ?_
  rintro e w7 ⟨rfl, rfl⟩
  rw [show turnV (-3) = 7 by decide]
  go_wp2_with fail
  refine (back_any _ 7 (by decide) (by decide)).mono ?_
  rintro e w7 ⟨rfl, rfl⟩
  rw [show backV 7 = -3 by decide]
  go_wp2
  go_ret
  exact ⟨rfl, HF6.out⟩

end Var
end Go.Proofs.Ythlmodjmdeajiaa
