/-
  picklocklaw13.AluShifts returns true for every input, and turns nothing. No condition.
-/
import Derived.Test.YtfdhhipjofickaaAlShown
import Derived.Test.YtfdhhipjofickaaAlRef
namespace Go.Proofs.Ytfdhhipjofickaa
open Go.RowKit
namespace Al

set_option maxRecDepth 100000 in
set_option maxHeartbeats 2000000 in
theorem shifts_walk (v : Int) (carry : Bool) (w : World) (hv : byte v) :
    Calls Try.prog 5 #[.int .u8 v, .bool carry] w fun e w' => e = .returned (.bool true) ∧ Below w.heap.size w w' := by
  have H0 : Hid (∀ W, Calls Try.prog 8 #[] W fun e w' => e = .returned (.bool true) ∧ W = w') := Lib.hid shown13
  have H1 : Hid (∀ W, Calls Try.prog 17 #[.int .u8 v, .bool carry] W fun e w' => e = .returned (.tuple #[.int .u8 (leftR v carry), .bool (leftC v)]) ∧ W = w') := Lib.hid fun W => left_any W v carry hv
  have H2 : Hid (∀ W, Calls Try.prog 18 #[.int .u8 v, .bool carry] W fun e w' => e = .returned (.tuple #[.int .u8 (leftR v carry), .bool (leftC v)]) ∧ W = w') := Lib.hid fun W => rleft_any W v carry hv
  have H3 : Hid (∀ W, Calls Try.prog 19 #[.int .u8 v, .bool carry] W fun e w' => e = .returned (.tuple #[.int .u8 (rightR v carry), .bool (rightC v)]) ∧ W = w') := Lib.hid fun W => right_any W v carry hv
  have H4 : Hid (∀ W, Calls Try.prog 20 #[.int .u8 v, .bool carry] W fun e w' => e = .returned (.tuple #[.int .u8 (rightR v carry), .bool (rightC v)]) ∧ W = w') := Lib.hid fun W => rright_any W v carry hv
  clear hv
  generalize leftR v carry = L1 at *
  generalize leftC v = L2 at *
  generalize rightR v carry = R1 at *
  generalize rightC v = R2 at *
  go_enter Try.func5, Try.ntmps5
  go_wp2_with fail
  (with_reducible refine (H0.out _).mono ?_)
  rintro e w1 ⟨rfl, rfl⟩
  go_wp2_with fail
  (with_reducible refine (H1.out _).mono ?_)
  rintro e w1 ⟨rfl, rfl⟩
  go_wp2_with fail
  (with_reducible refine (H2.out _).mono ?_)
  rintro e w1 ⟨rfl, rfl⟩
  go_wp2_with fail
  (with_reducible refine (H3.out _).mono ?_)
  rintro e w1 ⟨rfl, rfl⟩
  go_wp2_with fail
  (with_reducible refine (H4.out _).mono ?_)
  rintro e w1 ⟨rfl, rfl⟩
  go_wp2
  go_ret
  exact ⟨by simp, (Fr.refl [] w).below (by simp) (Nat.le_refl _)⟩

end Al
end Go.Proofs.Ytfdhhipjofickaa
