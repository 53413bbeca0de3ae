/-
  The map from kinds to what they do: made, filled, looked up. No condition.
-/
import Derived.Test.YtglnpgdigdfjiaaGmObj
import Derived.Maps.OwnOps
namespace Go.Proofs.Ytglnpgdigdfjiaa
open Go.RowKit
namespace Gm
open Go.ChangeMaps (setBlock)

theorem keyLaw : Maps.Keyed Try.prog 3 := Maps.int_keyed (q := .i64) (by kernel_rfl)
theorem underlyingInt : Try.prog.underlying 3 = some (.int .i64) := by kernel_rfl
theorem underlyingMap : Try.prog.underlying 70 = some (.map 3 59) := by kernel_rfl

/-- A key that there may be. -/
def isK (k : Int) : Prop := (Lit.int .i64 k).wf = true
theorem isK_of (k : Int) (h0 : -9223372036854775808 ≤ k) (h1 : k ≤ 9223372036854775807) : isK k := by
  have e1 : IntKind.i64.min = -9223372036854775808 := rfl
  have e2 : IntKind.i64.max = 9223372036854775807 := rfl
  simp only [isK, Lit.wf, e1, e2, Bool.and_eq_true, decide_eq_true_eq]
  omega
theorem key_of (k : Int) (hk : isK k) : keyOf Try.prog 3 (.int .i64 k) = some (.int .i64 k) := Maps.keyOf_int_mk underlyingInt hk

/-- M, but v at k. -/
def upd (M : Int → Option Value) (k : Int) (v : Value) : Int → Option Value := fun k' => if k' = k then some v else M k'

/-- Block B is a map that has M. -/
def KM (w : World) (B : Nat) (M : Int → Option Value) : Prop :=
  ∃ es clock, w.heap[B]? = some (.map es clock) ∧ (∀ e ∈ es.toList, ∃ k, isK k ∧ e.key = .int .i64 k ∧ M k = some e.val) ∧ (∀ k v, M k = some v → ∃ e ∈ es.toList, e.key = .int .i64 k)

theorem KM.made (w : World) : KM (w.alloc (.map #[] 0)) w.heap.size fun _ => none := ⟨#[], 0, (MapKept.heap_alloc w _).1, by simp, fun _ _ h => by cases h⟩

section
variable {w : World} {B : Nat} {M : Int → Option Value}
theorem KM.lt (h : KM w B M) : B < w.heap.size := by
  obtain ⟨es, clock, hb, _⟩ := h
  exact (Array.getElem?_eq_some_iff.1 hb).1
theorem KM.fr {S : List Nat} {w' : World} (h : KM w B M) (hf : Fr S w w') (hB : B ∉ S) : KM w' B M := by
  have hlt := h.lt
  obtain ⟨es, clock, hb, r⟩ := h
  exact ⟨es, clock, (hf.block B hlt hB).trans hb, r⟩
theorem fr_setBlock (w : World) (B : Nat) (o : Obj) : Fr [B] w (setBlock w B o) :=
  ⟨rfl, rfl, rfl, by simp [setBlock], fun k _ hk => by
    simp only [setBlock]
    rw [Array.getElem?_setIfInBounds_ne (by intro e; exact hk (by simp [e]))]⟩

theorem KM.find (_h : KM w B M) (k : Int) (hk : isK k) (es : Array MapEntry) (h1 : ∀ e ∈ es.toList, ∃ k, isK k ∧ e.key = .int .i64 k ∧ M k = some e.val) :
    ((Instr.findKey 3 (.int .i64 k) es.toList).run Try.prog w = .ok none w ∧ ∀ e ∈ es.toList, e.key ≠ .int .i64 k) ∨
    ∃ j e, (Instr.findKey 3 (.int .i64 k) es.toList).run Try.prog w = .ok (some (j, e.val)) w ∧ es.toList[j]? = some e ∧ e.key = .int .i64 k :=
  keyLaw.find w (key_of k hk) es.toList fun e he => by
    obtain ⟨k', hk', e1, _⟩ := h1 e he
    rw [e1]
    exact ⟨_, key_of k' hk'⟩

/-- A key that is there. -/
theorem KM.look (h : KM w B M) (k : Int) (hk : isK k) (v : Value) (hM : M k = some v) : (Instr.lookup 70 (.map (some B)) (.int .i64 k) true).run Try.prog w = .ok (.tuple #[v, .bool true]) w := by
  have hh := h
  obtain ⟨es, clock, hb, h1, h2⟩ := h
  rcases hh.find k hk es h1 with ⟨r1, r2⟩ | ⟨j, e0, r1, r2, r3⟩
  · obtain ⟨e, he, e1⟩ := h2 k v hM
    exact absurd e1 (r2 e he)
  · obtain ⟨k', hk', e1, e2⟩ := h1 e0 (List.mem_of_getElem? r2)
    have hkk : k' = k := by
      rw [e1] at r3
      injection r3
    subst hkk
    rw [hM] at e2
    injection e2 with e2
    simp [Instr.lookup, run_underlying underlyingMap, MapKept.run_getObj_map hb, keyLaw.check w _ (key_of k' hk), r1, e2, Result.andThen]
/-- .. that is not. -/
theorem KM.looks (h : KM w B M) (k : Int) (hk : isK k) (hM : M k = none) (z : Value) (hz : (zeroValue 59).run Try.prog w = .ok z w) :
    (Instr.lookup 70 (.map (some B)) (.int .i64 k) true).run Try.prog w = .ok (.tuple #[z, .bool false]) w := by
  have hh := h
  obtain ⟨es, clock, hb, h1, h2⟩ := h
  rcases hh.find k hk es h1 with ⟨r1, r2⟩ | ⟨j, e0, r1, r2, r3⟩
  · simp [Instr.lookup, run_underlying underlyingMap, MapKept.run_getObj_map hb, keyLaw.check w _ (key_of k hk), r1, hz, Result.andThen]
  · obtain ⟨k', hk', e1, e2⟩ := h1 e0 (List.mem_of_getElem? r2)
    have hkk : k' = k := by
      rw [e1] at r3
      injection r3
    subst hkk
    rw [hM] at e2
    cases e2
/-- A key that is new is put in. -/
theorem KM.put (h : KM w B M) (k : Int) (hk : isK k) (v : Value) (hM : M k = none) :
    ∃ w', (Instr.mapUpdate 70 (.map (some B)) (.int .i64 k) v).run Try.prog w = .ok () w' ∧ KM w' B (upd M k v) ∧ Fr [B] w w' ∧ w'.heap.size = w.heap.size := by
  have hh := h
  obtain ⟨es, clock, hb, h1, h2⟩ := h
  rcases hh.find k hk es h1 with ⟨r1, r2⟩ | ⟨j, e0, r1, r2, r3⟩
  · refine ⟨setBlock w B (.map (es.push ⟨.int .i64 k, v, clock⟩) (clock + 1)), ?_, ⟨_, _, ChangeMaps.heap_setBlock_same hb _, ?_, ?_⟩, fr_setBlock _ _ _, by simp [setBlock]⟩
    · simp [Instr.mapUpdate, run_underlying underlyingMap, MapKept.run_getObj_map hb, keyLaw.check w false (key_of k hk), r1, MapKept.run_setObj_map _ hb, Result.andThen, setBlock]
    · intro e he
      simp only [Array.toList_push, List.mem_append, List.mem_singleton] at he
      rcases he with he | rfl
      · obtain ⟨k', hk', e1, e2⟩ := h1 e he
        refine ⟨k', hk', e1, ?_⟩
        unfold upd
        rw [if_neg (by rintro rfl; exact r2 e he e1), e2]
      · exact ⟨k, hk, rfl, by unfold upd; rw [if_pos rfl]⟩
    · intro k' v' hv
      unfold upd at hv
      by_cases hkk : k' = k
      · subst hkk
        exact ⟨⟨.int .i64 k', v, clock⟩, by simp, rfl⟩
      · rw [if_neg hkk] at hv
        obtain ⟨e, he, e1⟩ := h2 k' v' hv
        exact ⟨e, by simp [he], e1⟩
  · obtain ⟨k', hk', e1, e2⟩ := h1 e0 (List.mem_of_getElem? r2)
    have hkk : k' = k := by
      rw [e1] at r3
      injection r3
    subst hkk
    rw [hM] at e2
    cases e2
end

/-- The store of a literal's entry, at its operation. -/
theorem wpList_ins (w : World) {ops : Array Oper} {rest : List Oper} {o : Oper} {a : Act} {Q : Exit → Act → World → Prop} (hg : o.guard = none) (m x v : Operand) (hop : o.op = Op.insert 70 m x v)
    (B : Nat) (M : Int → Option Value) (h : KM w B M) (k : Int) (hk : isK k) (u : Value) (hM : M k = none) (hm : a.eval m = .map (some B)) (hx : a.eval x = .int .i64 k) (hv : a.eval v = u)
    (hK : ∀ w', KM w' B (upd M k u) → Fr [B] w w' → wpList Try.prog ops Q rest (a.put o.dst undef) w') : wpList Try.prog ops Q (o :: rest) a w := by
  refine wpList_plain hg fun K' hK' => ?_
  obtain ⟨w', hrun, r1, r2, _⟩ := h.put k hk u hM
  unfold Oper.wp
  simp [execOp, hop, hm, hx, hv, hrun, Result.andThen]
  exact hK' _ _ (hK w' r1 r2)

/-- What the map has. -/
def kinds : Int → Option Value := fun k => if k = 0 then some (.agg kind0.toArray) else if k = 1 then some (.agg kind1.toArray) else if k = 3 then some (.agg kind3.toArray) else if k = 5 then some (.agg kind5.toArray) else none
theorem kinds_of : upd (upd (upd (upd (fun _ => none) 0 (.agg kind0.toArray)) 1 (.agg kind1.toArray)) 3 (.agg kind3.toArray)) 5 (.agg kind5.toArray) = kinds := by
  funext k
  unfold upd kinds
  repeat' split
  all_goals first | rfl | omega

end Gm
end Go.Proofs.Ytglnpgdigdfjiaa
