/-
  picklocklaw03.VarnumPuts returns true for every input: what is put is what the document says. No condition.
-/
import Derived.Test.YthlmodjmdeajiaaShown
import Derived.Test.YthlmodjmdeajiaaRef
import Derived.Test.YthlmodjmdeajiaaOctSame
namespace Go.Proofs.Ythlmodjmdeajiaa
open Go.RowKit
namespace Var

set_option maxRecDepth 100000 in
set_option maxHeartbeats 2000000 in
theorem puts_walk (u : Nat) (w : World) :
    Calls Try.prog 4 #[.int .u64 (u : Int)] w fun e w' => e = .returned (.bool true) ∧ Below w.heap.size w w' := by
  by_cases hu : u ≤ most
  · have hn : ¬ (4294967296 : Int) < (u : Int) := by unfold most at hu; omega
    go_enter Try.func4, Try.ntmps4
    go_wp2_with fail
    refine (shown_any w).mono ?_
    rintro e w1 ⟨rfl, hf⟩
    have HF := Lib.hid hf
    clear hf
    go_wp2_with fail
    refine (put_any w1 u hu).mono ?_
    rintro e w2 ⟨g, rfl, _, hb2, hf2⟩
    have HB := Lib.hid hb2
    have HF2 : Hid (Fr [] w w2) := HF.out.tr hf2
    clear hb2 hf2
    go_wp2_with fail
    refine (refPut_any w2 u hu).mono ?_
    rintro e w3 ⟨A, c, rfl, ho, hf3⟩
    have HO := Lib.hid ho
    have HF3 : Hid (Fr [] w w3) := HF2.out.tr hf3
    have HB3 := Lib.hid (HB.out.fr hf3 (by simp))
    clear ho hf3
    go_wp2_with fail
    refine (same_eq w3 (some ⟨g, 0, none⟩) A _ _ _ c (putV u) rfl rfl (rd_blk HB3.out) HO.out.rd).mono ?_
    rintro e w4 ⟨rfl, rfl⟩
    go_wp2
    go_ret
    exact ⟨rfl, HF3.out.below (by simp) (Nat.le_refl _)⟩
  · have hn : (4294967296 : Int) < (u : Int) := by unfold most at hu; omega
    go_enter Try.func4, Try.ntmps4
    go_wp2_with fail
    refine (shown_any w).mono ?_
    rintro e w1 ⟨rfl, hf⟩
    have HF := Lib.hid hf
    clear hf
    go_wp2_with fail
    refine (put_none w1 u (by omega)).mono ?_
    rintro e w2 ⟨rfl, rfl⟩
    go_wp2
    go_ret
    exact ⟨rfl, HF.out.below (by simp) (Nat.le_refl _)⟩

end Var
end Go.Proofs.Ythlmodjmdeajiaa
