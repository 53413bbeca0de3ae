/-
  picklocklaw13.AluRound returns true for every input, and turns nothing. No condition.
-/
import Derived.Test.YtfdhhipjofickaaAlShown
import Derived.Test.YtfdhhipjofickaaAlTurn
import Derived.Deep.LoopGhost
namespace Go.Proofs.Ytfdhhipjofickaa
open Go.RowKit
namespace Al

set_option maxRecDepth 100000 in
set_option maxHeartbeats 2000000 in
theorem round_walk (v : Int) (carry : Bool) (w : World) (hv : byte v) :
    Calls Try.prog 7 #[.int .u8 v, .bool carry] w fun e w' => e = .returned (.bool true) ∧ Below w.heap.size w w' := by
  have H0 : Hid (∀ W, Calls Try.prog 8 #[] W fun e w' => e = .returned (.bool true) ∧ W = w') := Lib.hid shown13
  have H1 : Hid (∀ i W, Calls Try.prog 17 #[.int .u8 (turns i (v, carry)).1, .bool (turns i (v, carry)).2] W fun e w' => e = .returned (.tuple #[.int .u8 (turns (i + 1) (v, carry)).1, .bool (turns (i + 1) (v, carry)).2]) ∧ W = w') := Lib.hid fun i W => left_any W _ _ (turns_byte i v carry hv)
  have H2 : Hid (∀ W, Calls Try.prog 17 #[.int .u8 v, .bool carry] W fun e w' => e = .returned (.tuple #[.int .u8 (leftR v carry), .bool (leftC v)]) ∧ W = w') := Lib.hid fun W => left_any W v carry hv
  have H3 : Hid (∀ W, Calls Try.prog 19 #[.int .u8 (leftR v carry), .bool (leftC v)] W fun e w' => e = .returned (.tuple #[.int .u8 v, .bool carry]) ∧ W = w') := Lib.hid fun W => by
    have h := right_any W (leftR v carry) (leftC v) (leftR_byte v carry)
    obtain ⟨e1, e2⟩ := right_left v carry hv
    rw [e1, e2] at h
    exact h
  have H9 : Hid (turns 9 (v, carry) = (v, carry)) := Lib.hid (turns_nine v carry hv)
  clear hv
  generalize leftR v carry = L at *
  generalize leftC v = D at *
  go_enter Try.func7, Try.ntmps7
  go_wp2_with fail
  (with_reducible refine (H0.out _).mono ?_)
  rintro e w1 ⟨rfl, rfl⟩
  go_wp2_with fail
  go_loopw [6, 7, 8] (fun s6 s7 s8 wr => ∃ (i : Nat), s8 = .int .i64 (i : Int) ∧ i ≤ 9 ∧ s6 = .int .u8 (turns i (v, carry)).1 ∧ s7 = .bool (turns i (v, carry)).2 ∧ wr = w) (fun _ _ s8 _ => 9 - (intOf s8).toNat)
  case atStart => exact ⟨0, rfl, by omega, rfl, rfl, rfl⟩
  case round =>
    obtain ⟨i, rfl, hi, rfl, rfl, rfl⟩ := hrel
    by_cases h1 : i < 9
    · have h1' : (i : Int) < 9 := by omega
      have H1i := Lib.hid (H1.out i)
      have hs : turns (i + 1) (v, carry) = turns (i + 1) (v, carry) := rfl
      obtain ⟨X, hX⟩ : ∃ y, (turns i (v, carry)).1 = y := ⟨_, rfl⟩
      obtain ⟨C, hC⟩ : ∃ y, (turns i (v, carry)).2 = y := ⟨_, rfl⟩
      obtain ⟨X2, hX2⟩ : ∃ y, (turns (i + 1) (v, carry)).1 = y := ⟨_, rfl⟩
      obtain ⟨C2, hC2⟩ : ∃ y, (turns (i + 1) (v, carry)).2 = y := ⟨_, rfl⟩
      rw [hX, hC, hX2, hC2] at H1i
      rw [hX, hC]
      have HX2 := Lib.hid hX2
      have HC2 := Lib.hid hC2
      clear hX hC hX2 hC2 hs H1
      go_wp2_with fail
      (with_reducible refine (H1i.out _).mono ?_)
      rintro e w1 ⟨rfl, rfl⟩
      go_wp2
      go_roundw
      case rel => exact ⟨i + 1, by go_num, by omega, by rw [HX2.out], by rw [HC2.out], trivial⟩
      case measure => simp [intOf]; omega
    · obtain rfl : i = 9 := by omega
      rw [H9.out]
      clear H1 hi h1
      go_wp2_with fail
      (with_reducible refine (H2.out _).mono ?_)
      rintro e w1 ⟨rfl, rfl⟩
      go_wp2_with fail
      (with_reducible refine (H3.out _).mono ?_)
      rintro e w1 ⟨rfl, rfl⟩
      go_wp2
      go_ret
      exact ⟨by simp, (Fr.refl [] _).below (by simp) (Nat.le_refl _)⟩

end Al
end Go.Proofs.Ytfdhhipjofickaa
