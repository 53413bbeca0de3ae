/-
  Contracts of octet's orders, of order.number and (*Reader).number, Big, Little.
-/
import Derived.Test.YthabiaenaicppaaOctRead2
import Derived.Test.YthabiaenaicppaaOctMath
import Derived.WalkLawsBesides
import Derived.WalkSpells
import Derived.Lib.MinMax
import Derived.Laws.EntriesVeiled
namespace Go.Proofs.Ythabiaenaicppaa
open Go.RowKit

/-- An order's value: the function that tells a byte's rank. -/
def ordV (f : Nat) : Value := .agg #[.func (.func f) #[] #[]]

set_option maxHeartbeats 400000 in
theorem highest_any (w : World) : Calls Try.prog 47 #[] w fun e w' => e = .returned (ordV 54) ∧ Fr [] w w' := by
  go_enter Try.func47, Try.ntmps47
  go_wp2
  exact bodyPost_ret (v := .agg #[.func (.func 54) #[] #[]]) (by simp [results, Try.results47, go_sem]) rfl ⟨rfl, (Fr.refl [] _).alloc _⟩


theorem rank33 (i n : Nat) (w : World) (h : i < n) (hn : n ≤ 1000000000) : Calls Try.prog 54 #[.int .i64 (i : Int), .int .i64 (n : Int)] w fun e w' => e = .returned (.int .i64 ((n : Int) - 1 - i)) ∧ w' = w := by
  go_enter Try.func54, Try.ntmps54
  go_wp2
  go_ret
  exact ⟨rfl, rfl⟩
















end Go.Proofs.Ythabiaenaicppaa
