/-
  Contract of the document's Back of layer 3.
-/
import Derived.Test.YtokfcknfkhlmfaaVarTurn
namespace Go.Proofs.Ytokfcknfkhlmfaa
open Go.RowKit
namespace Var

set_option maxHeartbeats 400000 in
theorem refBack_any (w : World) (u : Int) (h0 : 0 ≤ u) (h1 : u < 18446744073709551616) :
    Calls Try.prog 25 #[.int .u64 u] w fun e w' => e = .returned (.int .i64 (backV u)) ∧ w = w' := by
  by_cases hn : u % 2 = 1
  · have e : backV u = -(u / 2) := by rw [backV, if_pos hn]
    rw [e]
    clear e
    go_enter Try.func25, Try.ntmps25
    go_wp2
    go_ret
    exact ⟨rfl, rfl⟩
  · have e : backV u = u / 2 := by rw [backV, if_neg hn]
    rw [e]
    clear e
    go_enter Try.func25, Try.ntmps25
    go_wp2
    go_ret
    exact ⟨rfl, rfl⟩

end Var
end Go.Proofs.Ytokfcknfkhlmfaa
