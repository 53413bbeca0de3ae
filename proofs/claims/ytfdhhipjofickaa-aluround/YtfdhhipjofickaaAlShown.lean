/-
  picklocklaw13.shown returns true, and turns nothing. No condition.
-/
import Derived.Test.YtfdhhipjofickaaAlProg
namespace Go.Proofs.Ytfdhhipjofickaa
open Go.RowKit
namespace Al

theorem byte_of (n : Int) (h : 0 ≤ n ∧ n < 256 := by decide) : byte n := h

set_option maxRecDepth 100000 in
set_option maxHeartbeats 2000000 in
theorem shown13 (w : World) : Calls Try.prog 8 #[] w fun e w' => e = .returned (.bool true) ∧ w = w' := by
  have H1 : Hid (∀ W, Calls Try.prog 9 #[.int .u8 80, .int .u8 80, .bool false] W fun e w' => e = .returned (.tuple #[.int .u8 160, .bool false, .bool true]) ∧ W = w') := Lib.hid fun W => add_any W 80 80 false (byte_of 80) (byte_of 80)
  have H2 : Hid (∀ W, Calls Try.prog 11 #[.int .u8 5, .int .u8 6, .bool true] W fun e w' => e = .returned (.tuple #[.int .u8 255, .bool false, .bool false]) ∧ W = w') := Lib.hid fun W => sub_any W 5 6 true (byte_of 5) (byte_of 6)
  have H3 : Hid (∀ W, Calls Try.prog 17 #[.int .u8 129, .bool true] W fun e w' => e = .returned (.tuple #[.int .u8 3, .bool true]) ∧ W = w') := Lib.hid fun W => left_any W 129 true (byte_of 129)
  go_enter Try.func8, Try.ntmps8
  go_wp2_with fail
  (with_reducible refine (H1.out _).mono ?_)
  rintro e w1 ⟨rfl, rfl⟩
  go_wp2_with fail
  (with_reducible refine (H2.out _).mono ?_)
  rintro e w1 ⟨rfl, rfl⟩
  go_wp2_with fail
  (with_reducible refine (H3.out _).mono ?_)
  rintro e w1 ⟨rfl, rfl⟩
  go_wp2
  go_ret
  exact ⟨rfl, rfl⟩

end Al
end Go.Proofs.Ytfdhhipjofickaa
