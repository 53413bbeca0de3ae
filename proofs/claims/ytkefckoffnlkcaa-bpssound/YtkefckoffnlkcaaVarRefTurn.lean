/-
  Contract of the document's own Turn of layer 3. No condition but that the argument is of its kind.
-/
import Derived.Test.YtkefckoffnlkcaaVarTurn
namespace Go.Proofs.Ytkefckoffnlkcaa
open Go.RowKit
namespace Var

theorem refTurn_spell (n : Int) : IntKind.u64.wrap (IntKind.u64.wrap (2 * (-(n + 1) + 1)) + 1) = (2 * -n + 1) % 18446744073709551616 := by
  simp only [IntKind.wrap_u64]
  omega

set_option maxHeartbeats 400000 in
theorem refTurn_any (w : World) (n : Int) (h0 : -9223372036854775808 ≤ n) (h1 : n < 9223372036854775808) :
    Calls Try.prog 26 #[.int .i64 n] w fun e w' => e = .returned (.int .u64 (turnV n)) ∧ w = w' := by
  by_cases hn : n < 0
  · have e : turnV n = (2 * (-n) + 1) % 18446744073709551616 := by rw [turnV, if_pos hn]
    rw [e]
    clear e
    have hn' : ¬ 0 ≤ n := by omega
    go_enter Try.func26, Try.ntmps26
    go_wp2
    go_ret
    exact ⟨congrArg (fun z => Ending.returned (Value.int .u64 z)) (refTurn_spell n), rfl⟩
  · have e : turnV n = 2 * n := by rw [turnV, if_neg hn]
    rw [e]
    clear e
    go_enter Try.func26, Try.ntmps26
    go_wp2
    go_ret
    exact ⟨rfl, rfl⟩

end Var
end Go.Proofs.Ytkefckoffnlkcaa
