/-
  append(s, make([]byte, k)...): the number k stands in the place of a slice; s owns its row: of no function of the program.
-/
import Derived.Test.YthabiaenaicppaaApp
import Derived.Test.YthabiaenaicppaaIpsAp
import Derived.Lib.AppendZerosOnto
namespace Go.Proofs.Ythabiaenaicppaa
open Go.RowKit
namespace Az

theorem zero_cells (k : Nat) : Builtin.zeroCells (Value.int .u8 0).cells k = (bv (List.replicate k 0)).toArray := by
  rw [← Array.toList_inj]
  apply List.ext_getElem
  · simp [Builtin.zeroCells, bv, Value.cells]
  · intro i h1 h2
    simp [Builtin.zeroCells, bv, Value.cells, Nat.mod_one]

theorem room_zeros {P : Program} (w : World) (t tn ty : TypeId) (i : TypeInfo) (ht : P.underlying t = some (.slice 5)) (htn : P.underlying tn = some (.int .i64)) (hi : P.info? 5 = some i) (hz : i.zero = some (.int .u8 0)) (hz1 : i.size = 1) (hz2 : i.bytes = 1)
    (g sLen sCap : Nat) (cur : Array Value) (hg : w.heap[g]? = some (.cells cur 5 (0, 0))) (k : Nat) (h0 : 0 < k) (hk : k ≤ 1000000000) (hroom : sLen + k ≤ sCap) (hfit : sLen + k ≤ cur.size) :
    (Builtin.append_ #[t, tn] ty #[.slice (some ⟨g, 0, none⟩) sLen sCap, .int .i64 k]).run P w =
      .ok (.slice (some ⟨g, 0, none⟩) (sLen + k) sCap) (w.setRow g (cur.toList.take sLen ++ bv (List.replicate k 0) ++ cur.toList.drop (sLen + k)).toArray) := by
  have hst := run_storeCells_at P g sLen 5 (bv (List.replicate k 0)) 0 cur w hg (by simpa [bv_length] using hfit) (bv_one _)
  simp only [Nat.add_zero, bv_length, List.length_replicate] at hst
  have hw : IntKind.i64.wrap (k : Int) = k := by rw [IntKind.wrap_i64]; omega
  have hneg : ¬ ((k : Int) < 0) := by omega
  have h48 : ¬ (281474976710656 < (k : Int)) := by omega
  have hk0 : k ≠ 0 := by omega
  have hzc := zero_cells k
  have hzc' : (Builtin.zeroCells (Value.int .u8 0).cells k).toList = bv (List.replicate k 0) := by rw [hzc]
  simp [Builtin.append_, run_underlying ht, run_underlying htn, sizeOf, typeInfo, zeroValue, hi, hz, hz1, hz2, asInt, asIntOf, hw, hk0, hneg, h48, hroom, Addr.add_lit, hzc', hst]

theorem run_appZ {P : Program} (w : World) (B : Nat) (t tn ty : TypeId) (i : TypeInfo) (ht : P.underlying t = some (.slice 5)) (htn : P.underlying tn = some (.int .i64)) (hi : P.info? 5 = some i) (hz : i.zero = some (.int .u8 0)) (hz1 : i.size = 1) (hz2 : i.bytes = 1)
    (v : Value) (l : List UInt8) (hown : Own w B v l) (k : Nat) (h0 : 0 < k) (hlen : l.length + k ≤ 1000000000) (hB : B ≤ w.heap.size) :
    ∃ A' cap' w', (Builtin.append_ #[t, tn] ty #[v, .int .i64 k]).run P w = .ok (.slice A' (l.length + k) cap') w' ∧ Own w' B (.slice A' (l.length + k) cap') (l ++ List.replicate k 0) ∧ Fr v.ownBlock.toList w w' ∧ Lies w v (.slice A' (l.length + k) cap') := by
  have hrl : (List.replicate k (0 : UInt8)).length = k := by simp
  rcases hown.2 with ⟨rfl, hl0⟩ | ⟨g, cap, cur, rfl, hbg, hg, hnc, hcm, hcs, htake⟩
  · obtain rfl : l = [] := List.eq_nil_of_length_eq_zero hl0
    have hrun := Lib.run_append_grow_zeros (P := P) w t tn ty 5 i (.int .u8 0) .i64 .i64 ht htn hi hz none 0 0 [] (by simp [Builtin.firstCells]) k h0 (by omega) (by omega) (by omega) (by rw [hz2]; omega) (by rw [hz2]; exact growslice_fits (by omega) (by omega))
    have h4 := Ips.grown_own w B [] (List.replicate k 0) 0 hB (by simp; omega)
    rw [zero_cells] at hrun
    simp only [List.length_nil, Nat.zero_add, List.nil_append, hrl] at hrun h4 ⊢
    refine ⟨_, _, _, hrun, ?_, ((Fr.refl _ w).drew).alloc _, .inr ⟨_, rfl, Nat.le_refl _⟩⟩
    simpa [bv] using h4
  · by_cases hroom : l.length + k ≤ cap
    · have hcs' : cur.size = cap := by simpa using hcs
      have hr := room_zeros (P := P) w t tn ty i ht htn hi hz hz1 hz2 g l.length cap cur hg k h0 (by omega) hroom (by omega)
      refine ⟨_, _, _, hr, ⟨by simp [bv_length], .inr ⟨g, cap, _, by simp, hbg, setRow_heap w g cur _ 5 _ hg, by simpa using hroom, hcm, ?_, ?_⟩⟩, (Fr.refl _ w).setRow (.inl (by simp [Value.ownBlock])) _, .inl rfl⟩
      · simp only [List.size_toArray, List.length_append, List.length_take, List.length_drop, Array.length_toList, bv_length, hrl]
        omega
      · have ht' : cur.toList.take l.length = bv l := by simpa using htake
        rw [ht', ← bv_append, Nat.mul_one, ← bv_length (l ++ List.replicate k 0)]
        exact List.take_left
    · have holds : ∀ j u, (bv l)[j]? = some u → w.cell? ((⟨g, 0, none⟩ : Addr).add j) = some u := World.ownsRow.cells (g := g) hown rfl
      have hf := run_firstCells_some (P := P) w.drew i.size l.length ⟨g, 0, none⟩ l.length cap (bv l) (by rw [hz1, bv_length, Nat.mul_one]) (by simpa using holds)
      have hrun := Lib.run_append_grow_zeros (P := P) w t tn ty 5 i (.int .u8 0) .i64 .i64 ht htn hi hz (some ⟨g, 0, none⟩) l.length cap (bv l) hf k h0 (by omega) (by omega) (by omega) (by rw [hz2]; omega) (by rw [hz2]; exact growslice_fits (by omega) (by omega))
      have h4 := Ips.grown_own w B l (List.replicate k 0) cap hB (by simp; omega)
      rw [zero_cells] at hrun
      rw [List.length_append, hrl] at h4
      exact ⟨_, _, _, hrun, h4, ((Fr.refl _ w).drew).alloc _, .inr ⟨_, rfl, Nat.le_refl _⟩⟩

theorem wpList_appZ {P : Program} (w : World) {ops : Array Oper} {rest : List Oper} {o : Oper} {a : Act} {Q : Exit → Act → World → Prop} (hgd : o.guard = none) (s x : Operand) (t tn : TypeId)
    (ho : o.op = .call { callee := .builtin .append, args := #[s, x], argTypes := #[t, tn] }) (B : Nat) (i : TypeInfo) (ht : P.underlying t = some (.slice 5)) (htn : P.underlying tn = some (.int .i64)) (hi : P.info? 5 = some i) (hz : i.zero = some (.int .u8 0)) (hz1 : i.size = 1) (hz2 : i.bytes = 1)
    (v : Value) (l : List UInt8) (hs : a.eval s = v) (hown : Own w B v l) (k : Nat) (hx : a.eval x = .int .i64 k) (h0 : 0 < k) (n : Nat) (hn : l.length + k = n) (hlen : n ≤ 1000000000) (hB : B ≤ w.heap.size)
    (h : ∀ A' cap' w', Own w' B (.slice A' n cap') (l ++ List.replicate k 0) → Fr v.ownBlock.toList w w' → Lies w v (.slice A' n cap') → wpList P ops Q rest (a.put o.dst (.slice A' n cap')) w') : wpList P ops Q (o :: rest) a w := by
  subst hn
  refine wpList_plain hgd fun K hK' => ?_
  obtain ⟨A', cap', w', hrun, h2, h3, h4⟩ := run_appZ (P := P) w B t tn o.type i ht htn hi hz hz1 hz2 v l hown k h0 hlen hB
  unfold Oper.wp execOp
  simp only [ho, resolve, invoke, builtin, Sem.run_bind, Sem.run_pure, Result.andThen_ok, List.map_toArray, List.map_cons, List.map_nil, hs, hx, hrun]
  exact hK' _ _ (h A' cap' w' h2 h3 h4)

/-- .. the noughts under a name of their own. -/
theorem wpList_appZZ {P : Program} (w : World) {ops : Array Oper} {rest : List Oper} {o : Oper} {a : Act} {Q : Exit → Act → World → Prop} (hgd : o.guard = none) (s x : Operand) (t tn : TypeId)
    (ho : o.op = .call { callee := .builtin .append, args := #[s, x], argTypes := #[t, tn] }) (B : Nat) (i : TypeInfo) (ht : P.underlying t = some (.slice 5)) (htn : P.underlying tn = some (.int .i64)) (hi : P.info? 5 = some i) (hz : i.zero = some (.int .u8 0)) (hz1 : i.size = 1) (hz2 : i.bytes = 1)
    (v : Value) (l Z : List UInt8) (hs : a.eval s = v) (hown : Own w B v l) (k : Nat) (hZ : Z = List.replicate k 0) (hx : a.eval x = .int .i64 k) (h0 : 0 < k) (n : Nat) (hn : l.length + k = n) (hlen : n ≤ 1000000000) (hB : B ≤ w.heap.size)
    (h : ∀ A' cap' w', Own w' B (.slice A' n cap') (l ++ Z) → Fr v.ownBlock.toList w w' → Lies w v (.slice A' n cap') → wpList P ops Q rest (a.put o.dst (.slice A' n cap')) w') : wpList P ops Q (o :: rest) a w := by
  subst hZ
  exact wpList_appZ w hgd s x t tn ho B i ht htn hi hz hz1 hz2 v l hs hown k hx h0 n hn hlen hB h

end Az
end Go.Proofs.Ythabiaenaicppaa
