/-
  picklocklaw13.AluSums returns true for every input, and turns nothing. No condition.
-/
import Derived.Test.YtfdhhipjofickaaAlShown
import Derived.Test.YtfdhhipjofickaaAlRef
namespace Go.Proofs.Ytfdhhipjofickaa
open Go.RowKit
namespace Al

set_option maxRecDepth 100000 in
set_option maxHeartbeats 2000000 in
theorem sums_walk (a v : Int) (carry : Bool) (w : World) (ha : byte a) (hv : byte v) :
    Calls Try.prog 3 #[.int .u8 a, .int .u8 v, .bool carry] w fun e w' => e = .returned (.bool true) ∧ Below w.heap.size w w' := by
  have H0 : Hid (∀ W, Calls Try.prog 8 #[] W fun e w' => e = .returned (.bool true) ∧ W = w') := Lib.hid shown13
  have H1 : Hid (∀ W, Calls Try.prog 9 #[.int .u8 a, .int .u8 v, .bool carry] W fun e w' => e = .returned (.tuple #[.int .u8 (addR a v carry), .bool (addC a v carry), .bool (addO a v carry)]) ∧ W = w') := Lib.hid fun W => add_any W a v carry ha hv
  have H2 : Hid (∀ W, Calls Try.prog 10 #[.int .u8 a, .int .u8 v, .bool carry] W fun e w' => e = .returned (.tuple #[.int .u8 (addR a v carry), .bool (addC a v carry), .bool (addO a v carry)]) ∧ W = w') := Lib.hid fun W => radd_any W a v carry ha hv
  have H3 : Hid (∀ W, Calls Try.prog 11 #[.int .u8 a, .int .u8 v, .bool carry] W fun e w' => e = .returned (.tuple #[.int .u8 (subR a v carry), .bool (subC a v carry), .bool (subO a v carry)]) ∧ W = w') := Lib.hid fun W => sub_any W a v carry ha hv
  have H4 : Hid (∀ W, Calls Try.prog 12 #[.int .u8 a, .int .u8 v, .bool carry] W fun e w' => e = .returned (.tuple #[.int .u8 (subR a v carry), .bool (subC a v carry), .bool (subO a v carry)]) ∧ W = w') := Lib.hid fun W => rsub_any W a v carry ha hv
  clear ha hv
  generalize addR a v carry = AR at *
  generalize addC a v carry = AC at *
  generalize addO a v carry = AO at *
  generalize subR a v carry = SR at *
  generalize subC a v carry = SC at *
  generalize subO a v carry = SO at *
  go_enter Try.func3, Try.ntmps3
  go_wp2_with fail
  (with_reducible refine (H0.out _).mono ?_)
  rintro e w1 ⟨rfl, rfl⟩
  go_wp2_with fail
  (with_reducible refine (H1.out _).mono ?_)
  rintro e w1 ⟨rfl, rfl⟩
  go_wp2_with fail
  (with_reducible refine (H2.out _).mono ?_)
  rintro e w1 ⟨rfl, rfl⟩
  go_wp2_with fail
  (with_reducible refine (H3.out _).mono ?_)
  rintro e w1 ⟨rfl, rfl⟩
  go_wp2_with fail
  (with_reducible refine (H4.out _).mono ?_)
  rintro e w1 ⟨rfl, rfl⟩
  go_wp2
  go_ret
  exact ⟨by simp, (Fr.refl [] w).below (by simp) (Nat.le_refl _)⟩

end Al
end Go.Proofs.Ytfdhhipjofickaa
