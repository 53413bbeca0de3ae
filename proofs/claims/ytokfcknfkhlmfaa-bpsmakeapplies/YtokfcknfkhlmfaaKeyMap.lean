/-
  The map from four bytes to two numbers that the index is made by: looked up, written, cleared. No condition.
-/
import Derived.Test.YtokfcknfkhlmfaaApp
import Derived.Maps.OwnOps
import Derived.DeepKeys4
namespace Go.Proofs.Ytokfcknfkhlmfaa
open Go.RowKit
namespace Bm
open Go.ChangeMaps (setBlock)

/-- Four bytes as a value. -/
def keyA (k : List UInt8) : Value := .agg (bv k).toArray
/-- Two numbers as a value. -/
def pairA (p : Nat × Nat) : Value := .agg #[.int .i32 (p.1 : Int), .int .i32 (p.2 : Int)]

theorem keyA_inj {k k' : List UInt8} (h : keyA k = keyA k') : k = k' := by
  unfold keyA at h
  injection h with h
  have h1 := List.toArray_inj h
  unfold bv at h1
  refine List.map_inj_right (f := fun x : UInt8 => Value.int .u8 (x.toNat : Int)) (fun a b hab => ?_) |>.1 h1
  simp only [Value.int.injEq, true_and] at hab
  exact UInt8.toNat_inj.1 (by omega)

theorem keyLaw : Maps.Keyed Try.prog 144 := Maps.Keyed.of_law (deep_law_laid (by kernel_rfl) (m := 2) (by decide) (by decide +kernel) (by kernel_rfl) (by kernel_rfl))

theorem underlyingKey : Try.prog.underlying 144 = some (.array 4 5) := by kernel_rfl
theorem underlyingMap : Try.prog.underlying 134 = some (.map 144 146) := by kernel_rfl
theorem keyType : Try.prog.keyType 144 = true := by kernel_rfl
theorem zeroPair (w : World) : (zeroValue 146).run Try.prog w = .ok (pairA (0, 0)) w := by kernel_rfl

theorem cellsKey : Try.prog.cellsOf 144 = 4 := by kernel_rfl
theorem cells5 : Try.prog.cellsOf 5 = 1 := by kernel_rfl
theorem wf8 (a : UInt8) : (Lit.int .u8 (a.toNat : Int)).wf = true := by
  have := a.toNat_lt
  have e1 : IntKind.u8.min = 0 := rfl
  have e2 : IntKind.u8.max = 255 := rfl
  simp only [Lit.wf, e1, e2, Bool.and_eq_true, decide_eq_true_eq]
  omega

theorem key_of (k : List UInt8) (hk : k.length = 4) : ∃ l, keyOf Try.prog 144 (keyA k) = some l := by
  match k, hk with
  | [a, b, c, d], _ =>
    unfold keyOf
    rw [underlyingKey]
    have h1 : (keyA [a, b, c, d]).formed Try.prog 144 = true := by
      simp [keyA, Value.formed, cellsKey, bv]
    simp only [keyType, h1, Bool.and_self, if_true]
    have h0 : 0 < Try.prog.types.size := by decide +kernel
    generalize Try.prog.types.size = N at *
    obtain ⟨n, rfl⟩ : ∃ n, N = n + 1 := ⟨N - 1, by omega⟩
    simp [keyA, Value.cells, bv, Program.keyLits, cellsKey, cells5, Try.underlying5, List.range, List.range.loop, wf8]

/-- M, but p at k. -/
def upd (M : List UInt8 → Nat × Nat) (k : List UInt8) (p : Nat × Nat) : List UInt8 → Nat × Nat := fun k' => if k' = k then p else M k'
theorem upd_same (M : List UInt8 → Nat × Nat) (k : List UInt8) (p : Nat × Nat) : upd M k p k = p := if_pos rfl
theorem upd_other (M : List UInt8 → Nat × Nat) {k k' : List UInt8} (p : Nat × Nat) (h : k' ≠ k) : upd M k p k' = M k' := if_neg h

/-- Block B is a map that tells M of each key; what it does not have is told as noughts. -/
def KMap (w : World) (B : Nat) (M : List UInt8 → Nat × Nat) : Prop :=
  ∃ es clock, w.heap[B]? = some (.map es clock) ∧ (∀ e ∈ es.toList, ∃ k : List UInt8, k.length = 4 ∧ e.key = keyA k ∧ e.val = pairA (M k)) ∧
    (∀ k : List UInt8, k.length = 4 → M k ≠ (0, 0) → ∃ e ∈ es.toList, e.key = keyA k) ∧ (es.toList.map (·.key)).Nodup

theorem KMap.lt {w : World} {B : Nat} {M : List UInt8 → Nat × Nat} (h : KMap w B M) : B < w.heap.size := by
  obtain ⟨es, clock, hb, _⟩ := h
  exact (Array.getElem?_eq_some_iff.1 hb).1
theorem KMap.fr {S : List Nat} {w w' : World} {B : Nat} {M : List UInt8 → Nat × Nat} (h : KMap w B M) (hf : Fr S w w') (hB : B ∉ S) : KMap w' B M := by
  have hlt := h.lt
  obtain ⟨es, clock, hb, r⟩ := h
  exact ⟨es, clock, (hf.block B hlt hB).trans hb, r⟩
theorem KMap.other {w : World} {B g : Nat} {M : List UInt8 → Nat × Nat} (h : KMap w B M) {t : TypeId} {cs : Array Value} {z : Nat × Nat} (hg : w.heap[g]? = some (.cells cs t z)) : g ≠ B := by
  rintro rfl
  obtain ⟨es, clock, hb, _⟩ := h
  rw [hb] at hg
  cases hg
theorem KMap.congr {w : World} {B : Nat} {M M' : List UInt8 → Nat × Nat} (h : KMap w B M) (hM : ∀ k, k.length = 4 → M k = M' k) : KMap w B M' := by
  obtain ⟨es, clock, hb, h1, h2, h3⟩ := h
  refine ⟨es, clock, hb, fun e he => ?_, fun k hk hne => h2 k hk (by rw [hM k hk]; exact hne), h3⟩
  obtain ⟨k, hk, e1, e2⟩ := h1 e he
  exact ⟨k, hk, e1, by rw [e2, hM k hk]⟩
theorem KMap.made (w : World) : KMap (w.alloc (.map #[] 0)) w.heap.size fun _ => (0, 0) :=
  ⟨#[], 0, (MapKept.heap_alloc w _).1, by simp, fun _ _ h => absurd rfl h, by simp⟩

section
variable {w : World} {B : Nat} {M : List UInt8 → Nat × Nat}
theorem KMap.look (h : KMap w B M) (k : List UInt8) (hk : k.length = 4) :
    (Instr.lookup 134 (.map (some B)) (keyA k) false).run Try.prog w = .ok (pairA (M k)) w := by
  obtain ⟨es, clock, hb, h1, h2, _⟩ := h
  obtain ⟨l, hl⟩ := key_of k hk
  have hks : ∀ e ∈ es.toList, ∃ l, keyOf Try.prog 144 e.key = some l := by
    intro e he
    obtain ⟨k', hk', e1, _⟩ := h1 e he
    rw [e1]
    exact key_of k' hk'
  rcases keyLaw.find w hl es.toList hks with ⟨r1, r2⟩ | ⟨j, e0, r1, r2, r3⟩
  · have hM : M k = (0, 0) := by
      by_cases hne : M k = (0, 0)
      · exact hne
      · obtain ⟨e, he, e1⟩ := h2 k hk hne
        exact absurd e1 (r2 e he)
    rw [hM]
    simp [Instr.lookup, run_underlying underlyingMap, MapKept.run_getObj_map hb, keyLaw.check w _ hl, r1, Result.andThen]
    rfl
  · obtain ⟨k', hk', e1, e2⟩ := h1 e0 (List.mem_of_getElem? r2)
    have : k' = k := keyA_inj (e1.symm.trans r3)
    subst this
    simp [Instr.lookup, run_underlying underlyingMap, MapKept.run_getObj_map hb, keyLaw.check w _ hl, r1, e2, Result.andThen]

theorem fr_setBlock (w : World) (B : Nat) (o : Obj) : Fr [B] w (setBlock w B o) :=
  ⟨rfl, rfl, rfl, by simp [setBlock], fun k _ hk => by
    simp only [setBlock]
    rw [Array.getElem?_setIfInBounds_ne (by intro e; exact hk (by simp [e]))]⟩

theorem KMap.put (h : KMap w B M) (k : List UInt8) (hk : k.length = 4) (p : Nat × Nat) :
    ∃ w', (Instr.mapUpdate 134 (.map (some B)) (keyA k) (pairA p)).run Try.prog w = .ok () w' ∧ KMap w' B (upd M k p) ∧ Fr [B] w w' ∧ w'.heap.size = w.heap.size := by
  have hlt := h.lt
  obtain ⟨es, clock, hb, h1, h2, h3⟩ := h
  obtain ⟨l, hl⟩ := key_of k hk
  have hks : ∀ e ∈ es.toList, ∃ l, keyOf Try.prog 144 e.key = some l := by
    intro e he
    obtain ⟨k', hk', e1, _⟩ := h1 e he
    rw [e1]
    exact key_of k' hk'
  rcases keyLaw.find w hl es.toList hks with ⟨r1, r2⟩ | ⟨j, e0, r1, r2, r3⟩
  · refine ⟨setBlock w B (.map (es.push ⟨keyA k, pairA p, clock⟩) (clock + 1)), ?_, ⟨_, _, ChangeMaps.heap_setBlock_same hb _, ?_, ?_, ?_⟩, fr_setBlock _ _ _, by simp [setBlock]⟩
    · simp [Instr.mapUpdate, run_underlying underlyingMap, MapKept.run_getObj_map hb, keyLaw.check w false hl, r1, MapKept.run_setObj_map _ hb, Result.andThen, setBlock]
    · intro e he
      simp only [Array.toList_push, List.mem_append, List.mem_singleton] at he
      rcases he with he | rfl
      · obtain ⟨k', hk', e1, e2⟩ := h1 e he
        refine ⟨k', hk', e1, ?_⟩
        rw [upd_other M p (by rintro rfl; exact r2 e he e1), e2]
      · exact ⟨k, hk, rfl, by rw [upd_same]⟩
    · intro k' hk' hne
      by_cases hkk : k' = k
      · subst hkk
        exact ⟨⟨keyA k', pairA p, clock⟩, by simp, rfl⟩
      · rw [upd_other M p hkk] at hne
        obtain ⟨e, he, e1⟩ := h2 k' hk' hne
        exact ⟨e, by simp [he], e1⟩
    · simp only [Array.toList_push, List.map_append, List.map_cons, List.map_nil]
      rw [List.nodup_append]
      refine ⟨h3, by simp, ?_⟩
      intro a ha b hb' hab
      simp only [List.mem_singleton] at hb'
      obtain ⟨e, he, rfl⟩ := List.mem_map.1 ha
      exact r2 e he (hab.trans hb')
  · have hj := (List.getElem?_eq_some_iff.1 r2).1
    have hj' : es[j]? = some e0 := by simpa using r2
    have hkeys : (es.modify j fun e => { e with key := keyA k, val := pairA p }).toList.map (·.key) = es.toList.map (·.key) := by
      apply List.ext_getElem?
      intro i
      simp only [Array.toList_modify, List.getElem?_map, List.getElem?_modify]
      by_cases hij : j = i
      · subst hij
        simp [r2, r3]
      · simp [hij]
    have hmem : ∀ e ∈ (es.modify j fun e => { e with key := keyA k, val := pairA p }).toList, (∃ i, i ≠ j ∧ es.toList[i]? = some e) ∨ (e.key = keyA k ∧ e.val = pairA p) := by
      intro e he
      obtain ⟨i, hi⟩ := List.getElem?_of_mem he
      rw [Array.toList_modify, List.getElem?_modify] at hi
      by_cases hij : j = i
      · subst hij
        simp [r2] at hi
        right
        rw [← hi]
        exact ⟨rfl, rfl⟩
      · simp [hij] at hi
        left
        exact ⟨i, fun h => hij h.symm, by simpa using hi⟩
    refine ⟨setBlock w B (.map (es.modify j fun e => { e with key := keyA k, val := pairA p }) clock), ?_, ⟨_, _, ChangeMaps.heap_setBlock_same hb _, ?_, ?_, ?_⟩, fr_setBlock _ _ _, by simp [setBlock]⟩
    · have hstay := keyLaw.stays w hl
      simp [Instr.mapUpdate, run_underlying underlyingMap, MapKept.run_getObj_map hb, keyLaw.check w false hl, r1, hj', r3, hstay, MapKept.run_setObj_map _ hb, Result.andThen, setBlock]
    · intro e he
      rcases hmem e he with ⟨i, hij, hi⟩ | ⟨e1, e2⟩
      · obtain ⟨k', hk', e1, e2⟩ := h1 e (List.mem_of_getElem? hi)
        refine ⟨k', hk', e1, ?_⟩
        rw [upd_other M p ?_, e2]
        rintro rfl
        apply hij
        have hi' := (List.getElem?_eq_some_iff.1 hi).1
        have q1 : (es.toList.map (·.key))[i]'(by simpa using hi') = keyA k' := by
          have := (List.getElem?_eq_some_iff.1 hi).2
          simp only [List.getElem_map]; rw [this, e1]
        have q2 : (es.toList.map (·.key))[j]'(by simpa using hj) = keyA k' := by
          have := (List.getElem?_eq_some_iff.1 r2).2
          simp only [List.getElem_map]; rw [this, r3]
        exact (List.getElem_inj h3).1 (q1.trans q2.symm)
      · exact ⟨k, hk, e1, by rw [upd_same]; exact e2⟩
    · intro k' hk' hne
      have hex : keyA k' ∈ es.toList.map (·.key) := by
        by_cases hkk : k' = k
        · subst hkk
          exact List.mem_map.2 ⟨e0, List.mem_of_getElem? r2, r3⟩
        · rw [upd_other M p hkk] at hne
          obtain ⟨e, he, e1⟩ := h2 k' hk' hne
          exact List.mem_map.2 ⟨e, he, e1⟩
      rw [← hkeys] at hex
      obtain ⟨e, he, e1⟩ := List.mem_map.1 hex
      exact ⟨e, he, e1⟩
    · rw [hkeys]; exact h3

/-- clear. -/
theorem KMap.clear (h : KMap w B M) :
    ∃ w', (∀ ty, (Builtin.clear_ #[134] ty #[.map (some B)]).run Try.prog w = .ok (.tuple #[]) w') ∧ KMap w' B (fun _ => (0, 0)) ∧ Fr [B] w w' ∧ w'.heap.size = w.heap.size := by
  obtain ⟨es, clock, hb, _⟩ := h
  refine ⟨setBlock w B (.map #[] clock), fun ty => ?_, ⟨#[], clock, ChangeMaps.heap_setBlock_same hb _, by simp, fun _ _ h => absurd rfl h, by simp⟩, fr_setBlock _ _ _, by simp [setBlock]⟩
  simp [Builtin.clear_, run_underlying underlyingMap, MapKept.run_getObj_map hb, MapKept.run_setObj_map _ hb, Result.andThen, setBlock]
end

/-- The look-up at its operation. -/
theorem wpList_look (w : World) {ops : Array Oper} {rest : List Oper} {o : Oper} {a : Act} {Q : Exit → Act → World → Prop} (hg : o.guard = none) (m x : Operand) (hop : o.op = Op.lookup 134 m x false)
    (B : Nat) (M : List UInt8 → Nat × Nat) (h : KMap w B M) (k : List UInt8) (hk : k.length = 4) (p q : Nat) (hM : M k = (p, q)) (hm : a.eval m = .map (some B)) (hx : a.eval x = keyA k)
    (hK : wpList Try.prog ops Q rest (a.put o.dst (.agg #[.int .i32 (p : Int), .int .i32 (q : Int)])) w) : wpList Try.prog ops Q (o :: rest) a w := by
  refine wpList_plain hg fun K' hK' => ?_
  have hrun := h.look k hk
  rw [hM] at hrun
  unfold Oper.wp
  simp [execOp, hop, hm, hx, hrun, Result.andThen]
  exact hK' _ _ hK
/-- The store at its operation. -/
theorem wpList_put (w : World) {ops : Array Oper} {rest : List Oper} {o : Oper} {a : Act} {Q : Exit → Act → World → Prop} (hg : o.guard = none) (m x v : Operand) (hop : o.op = Op.mapUpdate 134 m x v)
    (B : Nat) (M : List UInt8 → Nat × Nat) (h : KMap w B M) (k : List UInt8) (hk : k.length = 4) (p q : Nat) (hm : a.eval m = .map (some B)) (hx : a.eval x = keyA k) (hv : a.eval v = .agg #[.int .i32 (p : Int), .int .i32 (q : Int)])
    (hK : ∀ w', KMap w' B (upd M k (p, q)) → Fr [B] w w' → wpList Try.prog ops Q rest (a.put o.dst undef) w') : wpList Try.prog ops Q (o :: rest) a w := by
  refine wpList_plain hg fun K' hK' => ?_
  obtain ⟨w', hrun, r1, r2, _⟩ := h.put k hk (p, q)
  unfold pairA at hrun
  unfold Oper.wp
  simp [execOp, hop, hm, hx, hv, hrun, Result.andThen]
  exact hK' _ _ (hK w' r1 r2)

end Bm
end Go.Proofs.Ytokfcknfkhlmfaa
