/-
  '==' on arrays of 65536 bytes. Condition: they are bytes.
-/
import Derived.Test.YtlnpadekgakghaaDoorMkMade
import Derived.ChangeKeysEq
namespace Go.Proofs.YtlnpadekgakghaaDoor
open Go.RowKit
namespace Ms
set_option linter.unusedVariables false
open Al (byte)

theorem guardA (op : BinOp) (x y : Operand) (xs ys : Array Value) (w : World) : (eqGuard op 35 x y (.agg xs) (.agg ys)).run Tryd.prog w = .ok () w :=
  run_eqGuard_agg w op 35 x y xs ys (by kernel_rfl)
theorem part5 (xs : Array Value) (i : Nat) (v : Value) (h : xs[i]? = some v) (w : World) : (part 5 xs (i * 1)).run Tryd.prog w = .ok v w := by
  rw [Nat.mul_one]
  exact Go.run_part_plain w (P := Tryd.prog) (e := 5) (by kernel_rfl) h

theorem run_forIn_yield {P : Program} {α β : Type} (L : List α) (s : β) (f : α → β → Sem (ForInStep β)) (h : ∀ x ∈ L, ∀ w, (f x s).run P w = .ok (.yield s) w) (w : World) : (forIn L s f).run P w = .ok s w := by
  induction L with
  | nil => simp [List.forIn_nil]
  | cons x L ih =>
    rw [List.forIn_cons, Sem.run_bind, h x (by simp) w, Result.andThen_ok]
    exact ih (fun y hy => h y (by simp [hy]))

theorem eqA (A B : Array Value) (g : Nat → Int) (hA : ∀ i, i < 65536 → A[i]? = some (.int .u8 (g i))) (hB : ∀ i, i < 65536 → B[i]? = some (.int .u8 (g i))) (w : World) : (Op.equalIn 10000 35 (.agg A) (.agg B)).run Tryd.prog w = .ok true w := by
  rw [show (10000 : Nat) = 9999 + 1 from rfl, Op.equalIn]
  simp only [Sem.run_bind, run_underlying Tryd.underlying35, Result.andThen_ok, Tryd.sizeOf5]
  rw [Std.Legacy.Range.forIn_eq_forIn_range']
  simp only [Std.Legacy.Range.size, Nat.sub_zero, Nat.add_sub_cancel, Nat.div_one]
  rw [run_forIn_yield _ _ _ ?_ w]
  · rfl
  · intro i hi w
    have hlt : i < 65536 := by
      obtain ⟨j, hj, rfl⟩ := List.mem_range'.1 hi
      omega
    have a5 := Tryd.isAgg5
    have u5 := Tryd.underlying5
    rw [Sem.run_bind, part5 A i _ (hA i hlt), Result.andThen_ok, Sem.run_bind, part5 B i _ (hB i hlt), Result.andThen_ok, Sem.run_bind, run_equalIn_int w 9998 5 .u8 .u8 _ _ Tryd.underlying5]
    simp

end Ms
end Go.Proofs.YtlnpadekgakghaaDoor
