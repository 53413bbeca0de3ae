/-
  picklocklaw13.AluTests returns true for every input, and turns nothing. No condition.
-/
import Derived.Test.YtfdhhipjofickaaAlShown
import Derived.Test.YtfdhhipjofickaaAlRef
namespace Go.Proofs.Ytfdhhipjofickaa
open Go.RowKit
namespace Al

set_option maxRecDepth 100000 in
set_option maxHeartbeats 2000000 in
theorem tests_walk (a v : Int) (w : World) (ha : byte a) (hv : byte v) :
    Calls Try.prog 4 #[.int .u8 a, .int .u8 v] w fun e w' => e = .returned (.bool true) ∧ Below w.heap.size w w' := by
  have H0 : Hid (∀ W, Calls Try.prog 8 #[] W fun e w' => e = .returned (.bool true) ∧ W = w') := Lib.hid shown13
  have H1 : Hid (∀ W, Calls Try.prog 13 #[.int .u8 a, .int .u8 v] W fun e w' => e = .returned (.tuple #[.bool (cmpC a v), .bool (cmpZ a v), .bool (cmpN a v)]) ∧ W = w') := Lib.hid fun W => compare_any W a v ha hv
  have H2 : Hid (∀ W, Calls Try.prog 14 #[.int .u8 a, .int .u8 v] W fun e w' => e = .returned (.tuple #[.bool (cmpC a v), .bool (cmpZ a v), .bool (cmpN a v)]) ∧ W = w') := Lib.hid fun W => rcompare_any W a v ha hv
  have H3 : Hid (∀ W, Calls Try.prog 15 #[.int .u8 a, .int .u8 v] W fun e w' => e = .returned (.tuple #[.bool (bitZ a v), .bool (bitN v), .bool (bitO v)]) ∧ W = w') := Lib.hid fun W => bits_any W a v hv
  have H4 : Hid (∀ W, Calls Try.prog 16 #[.int .u8 a, .int .u8 v] W fun e w' => e = .returned (.tuple #[.bool (bitZ a v), .bool (bitN v), .bool (bitO v)]) ∧ W = w') := Lib.hid fun W => rbits_any W a v hv
  clear ha hv
  generalize cmpC a v = C1 at *
  generalize cmpZ a v = C2 at *
  generalize cmpN a v = C3 at *
  generalize bitZ a v = B1 at *
  generalize bitN v = B2 at *
  generalize bitO v = B3 at *
  go_enter Try.func4, Try.ntmps4
  go_wp2_with fail
  (with_reducible refine (H0.out _).mono ?_)
  rintro e w1 ⟨rfl, rfl⟩
  go_wp2_with fail
  (with_reducible refine (H1.out _).mono ?_)
  rintro e w1 ⟨rfl, rfl⟩
  go_wp2_with fail
  (with_reducible refine (H2.out _).mono ?_)
  rintro e w1 ⟨rfl, rfl⟩
  go_wp2_with fail
  (with_reducible refine (H3.out _).mono ?_)
  rintro e w1 ⟨rfl, rfl⟩
  go_wp2_with fail
  (with_reducible refine (H4.out _).mono ?_)
  rintro e w1 ⟨rfl, rfl⟩
  go_wp2
  go_ret
  exact ⟨by simp, (Fr.refl [] w).below (by simp) (Nat.le_refl _)⟩

end Al
end Go.Proofs.Ytfdhhipjofickaa
