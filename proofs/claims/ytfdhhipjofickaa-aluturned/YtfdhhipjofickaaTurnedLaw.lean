/-
  picklocklaw13.AluTurned returns true for every input, and turns nothing. No condition.
-/
import Derived.Test.YtfdhhipjofickaaAlShown
namespace Go.Proofs.Ytfdhhipjofickaa
open Go.RowKit
namespace Al

set_option maxRecDepth 100000 in
set_option maxHeartbeats 2000000 in
theorem turned_walk (a v : Int) (carry : Bool) (w : World) (ha : byte a) (hv : byte v) :
    Calls Try.prog 6 #[.int .u8 a, .int .u8 v, .bool carry] w fun e w' => e = .returned (.bool true) ∧ Below w.heap.size w w' := by
  have H0 : Hid (∀ W, Calls Try.prog 8 #[] W fun e w' => e = .returned (.bool true) ∧ W = w') := Lib.hid shown13
  have H1 : Hid (∀ W, Calls Try.prog 11 #[.int .u8 a, .int .u8 v, .bool carry] W fun e w' => e = .returned (.tuple #[.int .u8 (subR a v carry), .bool (subC a v carry), .bool (subO a v carry)]) ∧ W = w') := Lib.hid fun W => sub_any W a v carry ha hv
  have H2 : Hid (∀ W, Calls Try.prog 9 #[.int .u8 a, .int .u8 (255 - v), .bool carry] W fun e w' => e = .returned (.tuple #[.int .u8 (subR a v carry), .bool (subC a v carry), .bool (subO a v carry)]) ∧ W = w') := Lib.hid fun W => by
    rw [← addR_turn, ← addC_turn, ← addO_turn a v carry hv]
    exact add_any W a (255 - v) carry ha (turn_byte v hv)
  have H3 : Hid (∀ W, Calls Try.prog 9 #[.int .u8 a, .int .u8 v, .bool carry] W fun e w' => e = .returned (.tuple #[.int .u8 (addR a v carry), .bool (addC a v carry), .bool (addO a v carry)]) ∧ W = w') := Lib.hid fun W => add_any W a v carry ha hv
  have H4 : Hid (∀ W, Calls Try.prog 11 #[.int .u8 (addR a v carry), .int .u8 v, .bool (!carry)] W fun e w' => e = .returned (.tuple #[.int .u8 a, .bool (!addC a v carry), .bool (subO (addR a v carry) v (!carry))]) ∧ W = w') := Lib.hid fun W => by
    rw [← back_C a v carry ha hv]
    have h := sub_any W (addR a v carry) v (!carry) (addR_byte a v carry) hv
    rw [back_R a v carry ha] at h
    exact h
  have H5 : Hid (∀ W, Calls Try.prog 9 #[.int .u8 a, .int .u8 v, .bool carry] W fun e w' => e = .returned (.tuple #[.int .u8 (addR a v carry), .bool (addC a v carry), .bool (addO a v carry)]) ∧ W = w') := Lib.hid fun W => add_any W a v carry ha hv
  have hx : bits .xor .u8 IntKind.u8.max v = 255 - v := xor255 v hv
  clear ha hv
  generalize subO (addR a v carry) v (!carry) = Q at *
  generalize addR a v carry = AR at *
  generalize addC a v carry = AC at *
  generalize addO a v carry = AO at *
  generalize subR a v carry = SR at *
  generalize subC a v carry = SC at *
  generalize subO a v carry = SO at *
  generalize 255 - v = T at *
  go_enter Try.func6, Try.ntmps6
  go_wp2_with fail
  (with_reducible refine (H0.out _).mono ?_)
  rintro e w1 ⟨rfl, rfl⟩
  go_wp2_with fail
  (with_reducible refine (H1.out _).mono ?_)
  rintro e w1 ⟨rfl, rfl⟩
  go_wp2_with fail
  (with_reducible refine (H2.out _).mono ?_)
  rintro e w1 ⟨rfl, rfl⟩
  go_wp2_with fail
  (with_reducible refine (H3.out _).mono ?_)
  rintro e w1 ⟨rfl, rfl⟩
  go_wp2_with fail
  (with_reducible refine (H4.out _).mono ?_)
  rintro e w1 ⟨rfl, rfl⟩
  go_wp2_with fail
  (with_reducible refine (H5.out _).mono ?_)
  rintro e w1 ⟨rfl, rfl⟩
  go_wp2
  go_ret
  exact ⟨by simp, (Fr.refl [] w).below (by simp) (Nat.le_refl _)⟩

end Al
end Go.Proofs.Ytfdhhipjofickaa
