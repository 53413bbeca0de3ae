/-
  Contracts of gbhead.kindOf and of the document's kind: which kind a type is.
-/
import Derived.Test.YthomlnaabkfcpaaDoorGbMath
namespace Go.Proofs.YthomlnaabkfcpaaDoor
open Go.RowKit
namespace Gb

/-- The types, one by one, and all others. -/
theorem kinds (y : Nat) (P : Nat → Nat → Prop) (h0 : P 0 0) (h1 : P 1 1) (h2 : P 2 1) (h3 : P 3 1) (h15 : P 15 3) (h16 : P 16 3) (h17 : P 17 3) (h18 : P 18 3) (h19 : P 19 3) (h25 : P 25 5) (h26 : P 26 5) (h27 : P 27 5) (h28 : P 28 5) (h29 : P 29 5) (h30 : P 30 5)
    (ho : y ≠ 0 → y ≠ 1 → y ≠ 2 → y ≠ 3 → y ≠ 15 → y ≠ 16 → y ≠ 17 → y ≠ 18 → y ≠ 19 → y ≠ 25 → y ≠ 26 → y ≠ 27 → y ≠ 28 → y ≠ 29 → y ≠ 30 → P y 9) : P y (kindN y) := by
  by_cases e0 : y = 0
  · subst e0; exact h0
  by_cases e1 : y = 1
  · subst e1; exact h1
  by_cases e2 : y = 2
  · subst e2; exact h2
  by_cases e3 : y = 3
  · subst e3; exact h3
  by_cases e15 : y = 15
  · subst e15; exact h15
  by_cases e16 : y = 16
  · subst e16; exact h16
  by_cases e17 : y = 17
  · subst e17; exact h17
  by_cases e18 : y = 18
  · subst e18; exact h18
  by_cases e19 : y = 19
  · subst e19; exact h19
  by_cases e25 : y = 25
  · subst e25; exact h25
  by_cases e26 : y = 26
  · subst e26; exact h26
  by_cases e27 : y = 27
  · subst e27; exact h27
  by_cases e28 : y = 28
  · subst e28; exact h28
  by_cases e29 : y = 29
  · subst e29; exact h29
  by_cases e30 : y = 30
  · subst e30; exact h30
  have hk : kindN y = 9 := by
    unfold kindN
    rw [if_neg e0, if_neg (by omega), if_neg (by omega), if_neg (by omega)]
  rw [hk]
  exact ho e0 e1 e2 e3 e15 e16 e17 e18 e19 e25 e26 e27 e28 e29 e30

/-- What kindOf tells. -/
def known (k : Nat) : Value := if k = 9 then .tuple #[.int .i64 0, .bool false] else .tuple #[.int .i64 (k : Int), .bool true]

set_option maxRecDepth 100000 in
set_option maxHeartbeats 1000000 in
theorem kindOf_none (w : World) (z : Int) (h0 : (z == 0) = false) (h1 : (z == 1) = false) (h2 : (z == 2) = false) (h3 : (z == 3) = false) (h15 : (z == 15) = false) (h16 : (z == 16) = false) (h17 : (z == 17) = false) (h18 : (z == 18) = false) (h19 : (z == 19) = false)
    (h25 : (z == 25) = false) (h26 : (z == 26) = false) (h27 : (z == 27) = false) (h28 : (z == 28) = false) (h29 : (z == 29) = false) (h30 : (z == 30) = false) :
    Calls Tryd.prog 17 #[.int .u8 z] w fun e w' => e = .returned (.tuple #[.int .i64 0, .bool false]) ∧ w = w' := by
  go_enter Tryd.func17, Tryd.ntmps17
  go_wp2
  go_ret2
  exact ⟨rfl, rfl⟩

set_option maxRecDepth 100000 in
set_option maxHeartbeats 4000000 in
theorem kindOf_any (w : World) (y : Nat) : Calls Tryd.prog 17 #[.int .u8 (y : Int)] w fun e w' => e = .returned (known (kindN y)) ∧ w = w' := by
  refine kinds y (fun y k => Calls Tryd.prog 17 #[.int .u8 (y : Int)] w fun e w' => e = .returned (known k) ∧ w = w') ?_ ?_ ?_ ?_ ?_ ?_ ?_ ?_ ?_ ?_ ?_ ?_ ?_ ?_ ?_ ?_
  case refine_16 =>
    intro e0 e1 e2 e3 e15 e16 e17 e18 e19 e25 e26 e27 e28 e29 e30
    refine (kindOf_none w y ?_ ?_ ?_ ?_ ?_ ?_ ?_ ?_ ?_ ?_ ?_ ?_ ?_ ?_ ?_).mono fun e w' h => h
    all_goals (rw [beq_eq_false_iff_ne]; omega)
  all_goals
    go_enter Tryd.func17, Tryd.ntmps17
    go_wp2
    go_ret2
    exact ⟨rfl, rfl⟩

set_option maxRecDepth 100000 in
set_option maxHeartbeats 4000000 in
theorem rkind_any (w : World) (y : Nat) : Calls Tryd.prog 20 #[.int .u8 (y : Int)] w fun e w' => e = .returned (.int .i64 (if kindN y = 9 then -1 else (kindN y : Int))) ∧ w = w' := by
  refine kinds y (fun y k => Calls Tryd.prog 20 #[.int .u8 (y : Int)] w fun e w' => e = .returned (.int .i64 (if k = 9 then -1 else (k : Int))) ∧ w = w') ?_ ?_ ?_ ?_ ?_ ?_ ?_ ?_ ?_ ?_ ?_ ?_ ?_ ?_ ?_ ?_
  case refine_16 =>
    intro e0 e1 e2 e3 e15 e16 e17 e18 e19 e25 e26 e27 e28 e29 e30
    obtain ⟨z, hz⟩ : ∃ z : Int, (y : Int) = z := ⟨_, rfl⟩
    have f0 : (z == 0) = false := by rw [beq_eq_false_iff_ne]; omega
    have f1 : 1 ≤ z := by omega
    have f3 : ¬ z ≤ 3 := by omega
    have hp : (¬ 15 ≤ z) ∨ (15 ≤ z ∧ ¬ z ≤ 19 ∧ ¬ 25 ≤ z) ∨ (15 ≤ z ∧ ¬ z ≤ 19 ∧ 25 ≤ z ∧ ¬ z ≤ 30) := by omega
    have hq : ¬ 15 ≤ z → ¬ 25 ≤ z := by omega
    rw [hz]
    clear hz e0 e1 e2 e3 e15 e16 e17 e18 e19 e25 e26 e27 e28 e29 e30
    rcases hp with hp | ⟨hp1, hp2, hp3⟩ | ⟨hp1, hp2, hp3, hp4⟩
    · have hq' := hq hp
      clear hq
      go_enter Tryd.func20, Tryd.ntmps20
      go_wp2
      go_ret
      exact ⟨rfl, rfl⟩
    · clear hq
      go_enter Tryd.func20, Tryd.ntmps20
      go_wp2
      go_ret
      exact ⟨rfl, rfl⟩
    · clear hq
      go_enter Tryd.func20, Tryd.ntmps20
      go_wp2
      go_ret
      exact ⟨rfl, rfl⟩
  all_goals
    go_enter Tryd.func20, Tryd.ntmps20
    go_wp2
    go_ret
    exact ⟨rfl, rfl⟩

end Gb
end Go.Proofs.YthomlnaabkfcpaaDoor
