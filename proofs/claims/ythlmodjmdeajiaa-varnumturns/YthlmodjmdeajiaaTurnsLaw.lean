/-
  picklocklaw03.VarnumTurns returns true for every input: folded numbers are what the document says, and unfolded again they are the same. No condition.
-/
import Derived.Test.YthlmodjmdeajiaaShown
import Derived.Test.YthlmodjmdeajiaaRef
namespace Go.Proofs.Ythlmodjmdeajiaa
open Go.RowKit
namespace Var

set_option maxRecDepth 100000 in
set_option maxHeartbeats 400000 in
theorem turns_walk (n u : Int) (h0 : -9223372036854775808 ≤ n) (h1 : n < 9223372036854775808) (h2 : 0 ≤ u) (h3 : u < 18446744073709551616) (w : World) :
    Calls Try.prog 5 #[.int .i64 n, .int .u64 u] w fun e w' => e = .returned (.bool true) ∧ Below w.heap.size w w' := by
  obtain ⟨ht0, ht1⟩ := turnV_range h0 h1
  by_cases hn : n = -9223372036854775808
  · subst hn
    go_enter Try.func5, Try.ntmps5
    go_wp2_with fail
    refine (shown_any w).mono ?_
    rintro e w1 ⟨rfl, hf⟩
    have HF := Lib.hid hf
    clear hf
    go_wp2_with fail
    refine (turn_any w1 (-9223372036854775808) h0 h1).mono ?_
    rintro e w2 ⟨rfl, rfl⟩
    go_wp2_with fail
    refine (refTurn_any w1 (-9223372036854775808) h0 h1).mono ?_
    rintro e w2 ⟨rfl, rfl⟩
    go_wp2_with fail
    refine (back_any w1 u h2 h3).mono ?_
    rintro e w2 ⟨rfl, rfl⟩
    go_wp2_with fail
    refine (refBack_any w1 u h2 h3).mono ?_
    rintro e w2 ⟨rfl, rfl⟩
    go_wp2
    go_ret
    exact ⟨rfl, HF.out.below (by simp) (Nat.le_refl _)⟩
  · have hb := backV_turnV (n := n) (by omega) h1
    go_enter Try.func5, Try.ntmps5
    go_wp2_with fail
    refine (shown_any w).mono ?_
    rintro e w1 ⟨rfl, hf⟩
    have HF := Lib.hid hf
    clear hf
    go_wp2_with fail
    refine (turn_any w1 n h0 h1).mono ?_
    rintro e w2 ⟨rfl, rfl⟩
    go_wp2_with fail
    refine (back_any w1 (turnV n) ht0 ht1).mono ?_
    rintro e w2 ⟨rfl, rfl⟩
    rw [hb]
    go_wp2_with fail
    refine (refTurn_any w1 n h0 h1).mono ?_
    rintro e w2 ⟨rfl, rfl⟩
    go_wp2_with fail
    refine (back_any w1 u h2 h3).mono ?_
    rintro e w2 ⟨rfl, rfl⟩
    go_wp2_with fail
    refine (refBack_any w1 u h2 h3).mono ?_
    rintro e w2 ⟨rfl, rfl⟩
    go_wp2
    go_ret
    exact ⟨rfl, HF.out.below (by simp) (Nat.le_refl _)⟩

end Var
end Go.Proofs.Ythlmodjmdeajiaa
