/-
  append of bytes onto a row of the call's own, or onto a text's bytes that are full: of no function of the program.
-/
import Derived.Test.YthabiaenaicppaaApp
import Derived.Lib.AppendStr
namespace Go.Proofs.Ythabiaenaicppaa
open Go.RowKit
namespace Ips

/-- The slice v can be appended to: it owns its row, or it is full; its bytes are l; its block is new from B on. -/
def Ap (w : World) (B : Nat) (v : Value) (l : List UInt8) : Prop :=
  Own w B v l ∨ ∃ g, v = .slice (some ⟨g, 0, none⟩) l.length l.length ∧ Rd w (some ⟨g, 0, none⟩) l ∧ B ≤ g ∧ g < w.heap.size

theorem Ap.slice {w : World} {B : Nat} {v : Value} {l : List UInt8} (h : Ap w B v l) (hl : l.length ≤ maxLen) : ∃ A c, v = .slice A l.length c ∧ Rd w A l ∧ (A = none → c = 0) ∧ l.length ≤ c ∧ c ≤ maxLen := by
  rcases h with h | ⟨g, rfl, hr, _⟩
  · obtain ⟨A, c, hv, hr, _, h1, h2, h3⟩ := h.slice
    exact ⟨A, c, hv, hr, h3, h1, h2⟩
  · exact ⟨_, _, rfl, hr, by simp, Nat.le_refl _, hl⟩
theorem Ap.lt {w : World} {B : Nat} {v : Value} {l : List UInt8} (h : Ap w B v l) : ∀ k ∈ v.ownBlock.toList, B ≤ k ∧ k < w.heap.size := by
  intro k hk
  rcases h with h | ⟨g, rfl, _, h1, h2⟩
  · exact h.lt k (by simpa using hk)
  · have e : k = g := by simpa [Value.ownBlock] using hk
    subst e
    exact ⟨h1, h2⟩
theorem Ap.fr {S : List Nat} {w w' : World} {B : Nat} {v : Value} {l : List UInt8} (h : Ap w B v l) (hf : Fr S w w') (hS : ∀ k ∈ S, k < B ∨ w.heap.size ≤ k) : Ap w' B v l := by
  have hlt := h.lt
  rcases h with h | ⟨g, rfl, h1, h2, h3⟩
  · refine .inl (h.fr hf fun k hk hm => ?_)
    have := hlt k (by simp [hk])
    rcases hS k hm with h | h <;> omega
  · refine .inr ⟨g, rfl, h1.fr hf (fun ad e hm => ?_), h2, Nat.lt_of_lt_of_le h3 hf.size⟩
    cases e
    rcases hS _ hm with h | h
    · exact absurd h (by simpa using h2)
    · exact absurd h3 (by simpa using h)

theorem grown_own (w : World) (B : Nat) (olds news : List UInt8) (old : Nat) (hB : B ≤ w.heap.size) (hl : olds.length + news.length ≤ 2000000000) :
    Own (w.drew.alloc (.cells ((bv olds).toArray ++ (bv news).toArray ++ Builtin.zeroCells (Value.int .u8 0).cells (grownCap w (olds.length + news.length) old 5 - (olds.length + news.length))) 5)) B (.slice (some ⟨w.heap.size, 0, none⟩) (olds ++ news).length (grownCap w (olds.length + news.length) old 5)) (olds ++ news) := by
  have hge := grownCap_ge w (olds.length + news.length) old 5
  have hcm : grownCap w (olds.length + news.length) old 5 ≤ maxLen := grownCap_le_maxLen w _ old 5 (by unfold maxLen; omega)
  refine ⟨by simp [bv_length], .inr ⟨w.heap.size, _, _, rfl, hB, heap_alloc_new w.drew _, by simpa using hge, hcm, ?_, ?_⟩⟩
  · simp only [Array.size_append, List.size_toArray, size_zeroCells, bv_length]
    show _ + _ + _ * 1 = _ * 1
    omega
  · rw [bv_append]
    simp only [Array.toList_append]
    rw [Nat.mul_one, show (olds ++ news).length = (bv olds ++ bv news).length by simp [bv_length]]
    exact List.take_left

/-- append of bytes. -/
theorem run_ap {P : Program} (w : World) (B : Nat) (t ty : TypeId) (i : TypeInfo) (ht : P.underlying t = some (.slice 5)) (hi : P.info? 5 = some i) (hz : i.zero = some (.int .u8 0)) (hz1 : i.size = 1) (hz2 : i.bytes = 1)
    (v : Value) (l : List UInt8) (h : Ap w B v l) (A : Option Addr) (m c : Nat) (news : List UInt8) (hm : news.length = m) (hr : Rd w A news) (hc : A = none → c = 0) (hlen : l.length + m ≤ 1000000000) (hB : B ≤ w.heap.size) :
    ∃ v' w', (Builtin.append_ #[t, t] ty #[v, .slice A m c]).run P w = .ok v' w' ∧ Ap w' B v' (l ++ news) ∧ Fr v.ownBlock.toList w w' := by
  subst hm
  rcases h with h | ⟨g, rfl, h1, h2, h3⟩
  · obtain ⟨A', cap', w', hrun, h4, h5, _⟩ := run_app (P := P) w B t ty i ht hi hz hz1 hz2 v l h A news.length c news rfl hr hc (by omega) hB
    exact ⟨_, w', hrun, .inl h4, h5⟩
  · by_cases h0 : news.length = 0
    · obtain rfl : news = [] := List.eq_nil_of_length_eq_zero h0
      refine ⟨_, w, ?_, .inr ⟨g, rfl, by simpa using h1, h2, h3⟩, Fr.refl _ _⟩
      cases A <;> simp [Builtin.append_, run_underlying ht, sizeOf, typeInfo, hi, Builtin.lenOf, Builtin.firstCells, loadCells, loadCellsFrom, storeCells]
    · obtain ⟨ad, rfl, hn⟩ := hr.cells (by rw [bv_length]; omega)
      have ho : ∀ j u, (bv l)[j]? = some u → w.cell? ((⟨g, 0, none⟩ : Addr).add j) = some u := by
        intro j u hu
        have hj : j < l.length := by have := (List.getElem?_eq_some_iff.1 hu).1; rwa [bv_length] at this
        obtain ⟨ad', e, hx⟩ := h1.cells (by rw [bv_length]; omega)
        cases e
        exact hx j u hu
      have hrun := run_append_grow (P := P) w t ty 5 i _ ht hi hz ⟨g, 0, none⟩ l.length l.length (bv l) (by rw [hz1, bv_length, Nat.mul_one]) ho ad news.length c (bv news) (by rw [hz1, bv_length, Nat.mul_one]) hn (by omega) (by omega) (by rw [hz2]; exact growslice_fits (by omega) (by omega))
      refine ⟨_, _, hrun, .inl ?_, ((Fr.refl _ w).drew).alloc _⟩
      have h4 := grown_own w B l news l.length hB (by omega)
      rw [List.length_append] at h4
      exact h4

theorem wpList_ap {P : Program} (w : World) {ops : Array Oper} {rest : List Oper} {o : Oper} {a : Act} {Q : Exit → Act → World → Prop} (hgd : o.guard = none) (s x : Operand) (t : TypeId)
    (ho : o.op = .call { callee := .builtin .append, args := #[s, x], argTypes := #[t, t] }) (B : Nat) (i : TypeInfo) (ht : P.underlying t = some (.slice 5)) (hi : P.info? 5 = some i) (hz : i.zero = some (.int .u8 0)) (hz1 : i.size = 1) (hz2 : i.bytes = 1)
    (v : Value) (l : List UInt8) (hs : a.eval s = v) (h : Ap w B v l) (A : Option Addr) (m c : Nat) (news : List UInt8) (hx : a.eval x = .slice A m c) (hm : news.length = m) (hr : Rd w A news) (hc : A = none → c = 0)
    (n : Nat) (hn : l.length + m = n) (hlen : n ≤ 1000000000) (hB : B ≤ w.heap.size)
    (hK : ∀ A' cap' w', Ap w' B (.slice A' n cap') (l ++ news) → Fr v.ownBlock.toList w w' → wpList P ops Q rest (a.put o.dst (.slice A' n cap')) w') : wpList P ops Q (o :: rest) a w := by
  refine wpList_plain hgd fun K hK' => ?_
  obtain ⟨v', w', hrun, h2, h3⟩ := run_ap (P := P) w B t o.type i ht hi hz hz1 hz2 v l h A m c news hm hr hc (by omega) hB
  have hl : (l ++ news).length = n := by rw [List.length_append, hm, hn]
  obtain ⟨A', cap', rfl, -⟩ := h2.slice (by rw [hl]; unfold maxLen; omega)
  rw [hl] at hrun h2
  unfold Oper.wp execOp
  simp only [ho, resolve, invoke, builtin, Sem.run_bind, Sem.run_pure, Result.andThen_ok, List.map_toArray, List.map_cons, List.map_nil, hs, hx, hrun]
  exact hK' _ _ (hK A' cap' w' h2 h3)

/-- append of a text's bytes. -/
theorem run_apS {P : Program} (w : World) (B : Nat) (t u ty : TypeId) (i : TypeInfo) (ht : P.underlying t = some (.slice 5)) (hu : P.underlying u = some .string) (hi : P.info? 5 = some i) (hz : i.zero = some (.int .u8 0)) (hz1 : i.size = 1) (hz2 : i.bytes = 1)
    (v : Value) (l : List UInt8) (h : Ap w B v l) (news : List UInt8) (h0 : 0 < news.length) (hlen : l.length + news.length ≤ 1000000000) (hB : B ≤ w.heap.size) :
    ∃ v' w', (Builtin.append_ #[t, u] ty #[v, .string ⟨news.toArray⟩]).run P w = .ok v' w' ∧ Own w' B v' (l ++ news) ∧ Fr v.ownBlock.toList w w' := by
  have hs : (ByteArray.mk news.toArray).size = news.length := by simp [ByteArray.size]
  have hc : Lib.strCells ⟨news.toArray⟩ = bv news := by simp [Lib.strCells, bv]
  rcases h with h | ⟨g, rfl, h1, h2, h3⟩
  · obtain ⟨v', w', hrun, h4, h5, _⟩ := Lib.run_append_own_string (P := P) w B t u ty 5 i ht hu hi hz hz1 hz2 v l.length (bv l) h ⟨news.toArray⟩ (by rw [hs]; unfold maxLen; omega) (by rw [hs]; omega) hB
    refine ⟨v', w', hrun, ?_, (Fr.refl _ w).grown h5 (fun k hk => .inl (by simp [hk]))⟩
    rw [hs, hc] at h4
    unfold Own
    rw [bv_append, List.length_append]
    exact h4
  · have ho : ∀ j u, (bv l)[j]? = some u → w.cell? ((⟨g, 0, none⟩ : Addr).add j) = some u := by
      intro j u hu
      have hj : j < l.length := by have := (List.getElem?_eq_some_iff.1 hu).1; rwa [bv_length] at this
      obtain ⟨ad', e, hx⟩ := h1.cells (by rw [bv_length]; omega)
      cases e
      exact hx j u hu
    have hrun := Lib.run_append_grow_string (P := P) w t u ty 5 i _ ht hu hi hz ⟨g, 0, none⟩ l.length l.length (bv l) (by rw [hz1, bv_length, Nat.mul_one]) ho ⟨news.toArray⟩ (by rw [hs]; omega) (by rw [hs]; omega) (by rw [hz2, hs]; exact growslice_fits (by omega) (by omega))
    rw [hs, hc] at hrun
    refine ⟨_, _, hrun, ?_, ((Fr.refl _ w).drew).alloc _⟩
    have h4 := grown_own w B l news l.length hB (by omega)
    rw [List.length_append] at h4
    exact h4

theorem wpList_apS {P : Program} (w : World) {ops : Array Oper} {rest : List Oper} {o : Oper} {a : Act} {Q : Exit → Act → World → Prop} (hgd : o.guard = none) (s x : Operand) (t u : TypeId)
    (ho : o.op = .call { callee := .builtin .append, args := #[s, x], argTypes := #[t, u] }) (B : Nat) (i : TypeInfo) (ht : P.underlying t = some (.slice 5)) (hu : P.underlying u = some .string) (hi : P.info? 5 = some i) (hz : i.zero = some (.int .u8 0)) (hz1 : i.size = 1) (hz2 : i.bytes = 1)
    (v : Value) (l : List UInt8) (hs : a.eval s = v) (h : Ap w B v l) (news : List UInt8) (hx : a.eval x = .string ⟨news.toArray⟩) (h0 : 0 < news.length)
    (n : Nat) (hn : l.length + news.length = n) (hlen : n ≤ 1000000000) (hB : B ≤ w.heap.size)
    (hK : ∀ A' cap' w', Own w' B (.slice A' n cap') (l ++ news) → Fr v.ownBlock.toList w w' → wpList P ops Q rest (a.put o.dst (.slice A' n cap')) w') : wpList P ops Q (o :: rest) a w := by
  refine wpList_plain hgd fun K hK' => ?_
  obtain ⟨v', w', hrun, h2, h3⟩ := run_apS (P := P) w B t u o.type i ht hu hi hz hz1 hz2 v l h news h0 (by omega) hB
  obtain ⟨A', cap', rfl, -⟩ := h2.slice
  have hl : (l ++ news).length = n := by rw [List.length_append, hn]
  rw [hl] at hrun h2
  unfold Oper.wp execOp
  simp only [ho, resolve, invoke, builtin, Sem.run_bind, Sem.run_pure, Result.andThen_ok, List.map_toArray, List.map_cons, List.map_nil, hs, hx, hrun]
  exact hK' _ _ (hK A' cap' w' h2 h3)

end Ips
end Go.Proofs.Ythabiaenaicppaa
