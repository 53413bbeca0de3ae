/-
  Contracts of varnum.Turn and Back. No condition but that the argument is of its kind.
-/
import Derived.Test.YtokfcknfkhlmfaaVarMath
import Derived.Test.YtokfcknfkhlmfaaApp
namespace Go.Proofs.Ytokfcknfkhlmfaa
open Go.RowKit
namespace Var

theorem turn_spell (n : Int) : IntKind.u64.wrap (IntKind.u64.wrap (2 * IntKind.u64.wrap (-IntKind.u64.wrap n)) + 1) = (2 * -n + 1) % 18446744073709551616 := by
  simp only [IntKind.wrap_u64]
  omega

set_option maxHeartbeats 400000 in
theorem turn_any (w : World) (n : Int) (h0 : -9223372036854775808 ≤ n) (h1 : n < 9223372036854775808) :
    Calls Try.prog 62 #[.int .i64 n] w fun e w' => e = .returned (.int .u64 (turnV n)) ∧ w = w' := by
  by_cases hn : n < 0
  · have e : turnV n = (2 * (-n) + 1) % 18446744073709551616 := by rw [turnV, if_pos hn]
    rw [e]
    clear e
    go_enter Try.func62, Try.ntmps62
    go_wp2
    go_ret
    exact ⟨congrArg (fun z => Ending.returned (Value.int .u64 z)) (turn_spell n), rfl⟩
  · have e : turnV n = 2 * n := by rw [turnV, if_neg hn]
    rw [e]
    clear e
    go_enter Try.func62, Try.ntmps62
    go_wp2
    go_ret
    exact ⟨rfl, rfl⟩

set_option maxHeartbeats 400000 in
theorem back_any (w : World) (u : Int) (h0 : 0 ≤ u) (h1 : u < 18446744073709551616) :
    Calls Try.prog 80 #[.int .u64 u] w fun e w' => e = .returned (.int .i64 (backV u)) ∧ w = w' := by
  by_cases hn : u % 2 = 1
  · have e : backV u = -(u / 2) := by rw [backV, if_pos hn]
    rw [e]
    clear e
    go_enter Try.func80, Try.ntmps80
    go_wp2
    go_ret
    exact ⟨rfl, rfl⟩
  · have e : backV u = u / 2 := by rw [backV, if_neg hn]
    rw [e]
    clear e
    go_enter Try.func80, Try.ntmps80
    go_wp2
    go_ret
    exact ⟨rfl, rfl⟩

end Var
end Go.Proofs.Ytokfcknfkhlmfaa
