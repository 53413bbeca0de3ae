/-
  make of bytes with room behind them; numbers below a bound: plain laws, of no function of the program.
-/
import Derived.Test.YtokfcknfkhlmfaaApp
import Derived.Test.YtokfcknfkhlmfaaRows8
namespace Go.Proofs.Ytokfcknfkhlmfaa
open Go.RowKit
namespace Mk

/-- 'make([]byte, L, C)'. -/
theorem wpList_makeB {P : Program} (w : World) {ops : Array Oper} {rest : List Oper} {o : Oper} {a : Act} {Q : Exit → Act → World → Prop}
    (hg : o.guard = none) (l c : Operand) (t : TypeId) (hop : o.op = Op.makeSlice t l c)
    (base : Nat) (i : TypeInfo) (h1 : P.underlying t = some (.slice 5)) (h2 : P.info? 5 = some i) (h3 : i.zero = some (.int .u8 0)) (h4 : i.size = 1) (h5 : i.bytes = 1)
    (kl kc : IntKind) (L C : Nat) (hl : a.eval l = .int kl (L : Int)) (hc : a.eval c = .int kc (C : Int)) (hLC : L ≤ C) (hC : C ≤ 1000000000) (b4 : base ≤ w.heap.size)
    (hK : ∀ w', Own w' base (.slice (some ⟨w.heap.size, 0, none⟩) L C) (List.replicate L 0) → Fr [] w w' → wpList P ops Q rest (a.put o.dst (.slice (some ⟨w.heap.size, 0, none⟩) L C)) w') :
    wpList P ops Q (o :: rest) a w := by
  refine wpList_plain hg fun K hK' => ?_
  have hrun := run_make (P := P) w t 5 i (.int .u8 0) h1 h2 h3 kl kc (L : Int) (C : Int) (by omega) (by omega) (by rw [h5]; omega) (by omega)
  simp only [Int.toNat_natCast, h4, Nat.mul_one] at hrun
  unfold Oper.wp
  simp [execOp, hop, hl, hc, hrun, Result.andThen]
  refine hK' _ _ (hK _ ?_ ((Fr.refl [] w).alloc _))
  refine ⟨by simp [bv_length], .inr ⟨w.heap.size, C, madeCells (Value.int .u8 0).cells C, by simp, b4, heap_alloc_new w _, by simpa using hLC, by unfold maxLen; omega, by simp [size_madeCells], ?_⟩⟩
  rw [Nat.mul_one, show (Value.int .u8 0).cells = #[Value.int .u8 0] from rfl, Ups.made_zero]
  simp only
  rw [← bv_take, List.length_replicate, List.take_replicate, Nat.min_eq_left hLC]

theorem and24 (n : Int) : 0 ≤ bits .and .i64 n 16777215 ∧ bits .and .i64 n 16777215 ≤ 16777215 := by
  have h : (BitVec.ofInt 64 16777215).toNat = 2 ^ 24 - 1 := by decide
  have key : (BitVec.ofInt 64 n &&& BitVec.ofInt 64 16777215).toNat = (n % ((2 ^ 64 : Nat) : Int)).toNat % 2 ^ 24 := by
    rw [BitVec.toNat_and, BitVec.toNat_ofInt, h, Nat.and_two_pow_sub_one_eq_mod]
  have e : bits .and .i64 n 16777215 = IntKind.i64.wrap ((BitVec.ofInt 64 n &&& BitVec.ofInt 64 16777215).toNat : Nat) := rfl
  rw [e, key, IntKind.wrap_i64]
  omega
/-- A number below k. -/
theorem below_of (z k : Int) (hk : 0 < k) : ∃ p : Nat, (bits .and .i64 z 16777215).tmod k = (p : Int) ∧ (p : Int) < k := by
  have h := and24 z
  rw [Int.tmod_eq_emod_of_nonneg h.1]
  have h1 := Int.emod_nonneg (bits .and .i64 z 16777215) (show k ≠ 0 by omega)
  have h2 := Int.emod_lt_of_pos (bits .and .i64 z 16777215) hk
  exact ⟨((bits .and .i64 z 16777215) % k).toNat, by omega, by omega⟩

end Mk
end Go.Proofs.Ytokfcknfkhlmfaa
