/-
  append of bytes, and slices that came in: plain laws, of no function of the program.
-/
import Derived.Test.YtcemljbocaadfaaBase
import Derived.Test.YtcemljbocaadfaaRows
import Derived.Maps.AppendAt
import Derived.Deep.RegionHeld3
import Derived.OpenShut
import Derived.Lib.MinMax
import Derived.Laws.EntriesVeiled
import Derived.WalkLawsBesides
import Derived.WalkSpells
import Derived.IntWalk
namespace Go.Proofs.Ytcemljbocaadfaa
open Go.RowKit

theorem info5 : (Try.prog.info? 5).map (fun i => (i.zero, i.size, i.bytes)) = some (some (.int .u8 0), 1, 1) := by kernel_rfl

/-- Where a slice that was appended to lies: in the old row, or in a new block. -/
def Lies (w : World) (v v' : Value) : Prop := v'.ownBlock = v.ownBlock ∨ ∃ k, v'.ownBlock = some k ∧ w.heap.size ≤ k

theorem Lies.refl (w : World) (v : Value) : Lies w v v := .inl rfl
theorem Lies.trans {w w' : World} {v v' v'' : Value} (h : Lies w v v') (h' : Lies w' v' v'') (hs : w.heap.size ≤ w'.heap.size) : Lies w v v'' := by
  rcases h' with h' | ⟨k, hk, hl⟩
  · rcases h with h | ⟨k, hk, hl⟩
    · exact .inl (h'.trans h)
    · exact .inr ⟨k, h'.trans hk, hl⟩
  · exact .inr ⟨k, hk, by omega⟩
/-- .. and so a row that was other than the old one is other than the new one. -/
theorem Lies.other {w : World} {v v' : Value} (h : Lies w v v') {g : Nat} (hg : v.ownBlock ≠ some g) (hlt : g < w.heap.size) : v'.ownBlock ≠ some g := by
  rcases h with h | ⟨k, hk, hl⟩
  · rwa [h]
  · rw [hk]; intro e; cases e; omega

/-- A list of bytes of which nothing is known but that a slice of it can be appended. -/
theorem run_app {P : Program} (w : World) (B : Nat) (t ty : TypeId) (i : TypeInfo) (ht : P.underlying t = some (.slice 5)) (hi : P.info? 5 = some i) (hz : i.zero = some (.int .u8 0)) (hz1 : i.size = 1) (hz2 : i.bytes = 1)
    (v : Value) (l : List UInt8) (hown : Own w B v l) (A : Option Addr) (m c : Nat) (news : List UInt8) (hm : news.length = m) (hr : Rd w A news) (hc : A = none → c = 0) (hlen : l.length + m ≤ 2000000000) (hB : B ≤ w.heap.size) :
    ∃ A' cap' w', (Builtin.append_ #[t, t] ty #[v, .slice A m c]).run P w = .ok (.slice A' (l.length + m) cap') w' ∧ Own w' B (.slice A' (l.length + m) cap') (l ++ news) ∧ Fr v.ownBlock.toList w w' ∧ Lies w v (.slice A' (l.length + m) cap') := by
  subst hm
  cases A with
  | none =>
    obtain rfl := hc rfl
    have hn : news = [] := by
      rcases Nat.eq_zero_or_pos news.length with h0 | h0
      · exact List.eq_nil_of_length_eq_zero h0
      · obtain ⟨b, o, hx, _⟩ := hr h0
        cases hx
    subst hn
    have hrun := run_append_owned_none (P := P) (w := w) B t ty 5 i 1 ht hi v l.length (bv l) hown
    obtain ⟨A', cap', rfl, -⟩ := hown.slice
    exact ⟨A', cap', w, hrun, by simpa using hown, Fr.refl _ _, Lies.refl _ _⟩
  | some ad =>
    have hcells : ∀ j u, (bv news)[j]? = some u → w.cell? (ad.add j) = some u := by
      intro j u hu
      have h0 : 0 < (bv news).length := by have := (List.getElem?_eq_some_iff.1 hu).1; omega
      obtain ⟨ad', e, hx⟩ := hr.cells h0
      cases e
      exact hx j u hu
    obtain ⟨v', w', hrun, h2, h3, _, h5⟩ := run_append_own_at (P := P) w B t ty 5 i (.int .u8 0) 1 1 ht hi hz hz1 hz2 rfl (by decide) v l.length (bv l) hown ad news.length c (bv news) (by simp [bv_length]) hcells (bv_one news) (by unfold maxLen; omega) (by omega) hB
    have ho : Own w' B v' (l ++ news) := by unfold Own; rw [bv_append, List.length_append]; exact h2
    obtain ⟨A', cap', rfl, -⟩ := ho.slice
    rw [List.length_append] at hrun ho h5
    refine ⟨A', cap', w', hrun, ho, (Fr.refl _ w).grown h3 (fun k hk => .inl (by simp [hk])), ?_⟩
    rcases h5 with h5 | h5
    · exact .inl h5
    · exact .inr ⟨_, h5, Nat.le_refl _⟩

theorem wp_app {P : Program} (w : World) {o : Oper} {a : Act} {K : Act → World → Prop} {Q : Exit → Act → World → Prop} (s x : Operand) (t : TypeId)
    (ho : o.op = .call { callee := .builtin .append, args := #[s, x], argTypes := #[t, t] }) (B : Nat) (i : TypeInfo) (ht : P.underlying t = some (.slice 5)) (hi : P.info? 5 = some i) (hz : i.zero = some (.int .u8 0)) (hz1 : i.size = 1) (hz2 : i.bytes = 1)
    (v : Value) (l : List UInt8) (hs : a.eval s = v) (hown : Own w B v l) (A : Option Addr) (m c : Nat) (news : List UInt8) (hx : a.eval x = .slice A m c) (hm : news.length = m) (hr : Rd w A news) (hc : A = none → c = 0)
    (hlen : l.length + m ≤ 2000000000) (hB : B ≤ w.heap.size)
    (h : ∀ A' cap' w', Own w' B (.slice A' (l.length + m) cap') (l ++ news) → Fr v.ownBlock.toList w w' → Lies w v (.slice A' (l.length + m) cap') → K (a.put o.dst (.slice A' (l.length + m) cap')) w') : o.wp P a w K Q := by
  obtain ⟨A', cap', w', hrun, h2, h3, h4⟩ := run_app (P := P) w B t o.type i ht hi hz hz1 hz2 v l hown A m c news hm hr hc hlen hB
  unfold Oper.wp execOp
  simp only [ho, resolve, invoke, builtin, Sem.run_bind, Sem.run_pure, Result.andThen_ok, List.map_toArray, List.map_cons, List.map_nil, hs, hx, hrun]
  exact h A' cap' w' h2 h3 h4

theorem wpList_app {P : Program} (w : World) {ops : Array Oper} {rest : List Oper} {o : Oper} {a : Act} {Q : Exit → Act → World → Prop} (hgd : o.guard = none) (s x : Operand) (t : TypeId)
    (ho : o.op = .call { callee := .builtin .append, args := #[s, x], argTypes := #[t, t] }) (B : Nat) (i : TypeInfo) (ht : P.underlying t = some (.slice 5)) (hi : P.info? 5 = some i) (hz : i.zero = some (.int .u8 0)) (hz1 : i.size = 1) (hz2 : i.bytes = 1)
    (v : Value) (l : List UInt8) (hs : a.eval s = v) (hown : Own w B v l) (A : Option Addr) (m c : Nat) (news : List UInt8) (hx : a.eval x = .slice A m c) (hm : news.length = m) (hr : Rd w A news) (hc : A = none → c = 0)
    (hlen : l.length + m ≤ 2000000000) (hB : B ≤ w.heap.size)
    (h : ∀ A' cap' w', Own w' B (.slice A' (l.length + m) cap') (l ++ news) → Fr v.ownBlock.toList w w' → Lies w v (.slice A' (l.length + m) cap') → wpList P ops Q rest (a.put o.dst (.slice A' (l.length + m) cap')) w') : wpList P ops Q (o :: rest) a w :=
  wpList_plain hgd fun _ hK => wp_app w s x t ho B i ht hi hz hz1 hz2 v l hs hown A m c news hx hm hr hc hlen hB fun A' cap' w' h2 h3 h4 => hK _ _ (h A' cap' w' h2 h3 h4)

theorem rd_one' (w : World) (z : Int) (x : UInt8) (h : z = (x.toNat : Int)) : Rd (w.alloc (.cells #[.int .u8 z] 5)) (some ⟨w.heap.size, 0, none⟩) [x] := by
  subst h
  intro _
  refine ⟨_, _, rfl, fun j hj => ?_⟩
  obtain rfl : j = 0 := by simpa using hj
  simp

theorem rd_one (w : World) (x : UInt8) : Rd (w.alloc (.cells #[.int .u8 (x.toNat : Int)] 5)) (some ⟨w.heap.size, 0, none⟩) [x] := by
  intro _
  refine ⟨_, _, rfl, fun j hj => ?_⟩
  obtain rfl : j = 0 := by simpa using hj
  simp

/-- append at a step of a region that draws its order. -/
theorem step_app {P : Program} (w : World) {ops : Array Oper} {o : Oper} {a : Act} {K : Act → World → Prop} {Q : Exit → Act → World → Prop} {E : Prop} (hgd : o.guard = none) (s x : Operand) (t : TypeId)
    (ho : o.op = .call { callee := .builtin .append, args := #[s, x], argTypes := #[t, t] }) (B : Nat) (i : TypeInfo) (ht : P.underlying t = some (.slice 5)) (hi : P.info? 5 = some i) (hz : i.zero = some (.int .u8 0)) (hz1 : i.size = 1) (hz2 : i.bytes = 1)
    (v : Value) (l : List UInt8) (k : Nat) (hk : l.length = k) (hs : a.eval s = v) (hown : Own w B v l) (A : Option Addr) (m c : Nat) (news : List UInt8) (hx : a.eval x = .slice A m c) (hm : news.length = m) (hr : Rd w A news) (hc : A = none → c = 0)
    (hlen : k + m ≤ 2000000000) (hB : B ≤ w.heap.size)
    (h : ∀ A' cap' w', Own w' B (.slice A' (k + m) cap') (l ++ news) → Fr v.ownBlock.toList w w' → Lies w v (.slice A' (k + m) cap') → K (a.put o.dst (.slice A' (k + m) cap')) w') :
    if Region.wanted o (yielded ops a.tmps) = true then Oper.wp P o a w K Q else E := by
  subst hk
  have hw : Region.wanted o (yielded ops a.tmps) = true := by simp [Region.wanted, hgd]
  rw [if_pos hw]
  exact wp_app w s x t ho B i ht hi hz hz1 hz2 v l hs hown A m c news hx hm hr hc hlen hB h

theorem wpList_appN {P : Program} (w : World) {ops : Array Oper} {rest : List Oper} {o : Oper} {a : Act} {Q : Exit → Act → World → Prop} (hgd : o.guard = none) (s x : Operand) (t : TypeId)
    (ho : o.op = .call { callee := .builtin .append, args := #[s, x], argTypes := #[t, t] }) (B : Nat) (i : TypeInfo) (ht : P.underlying t = some (.slice 5)) (hi : P.info? 5 = some i) (hz : i.zero = some (.int .u8 0)) (hz1 : i.size = 1) (hz2 : i.bytes = 1)
    (v : Value) (l : List UInt8) (k : Nat) (hk : l.length = k) (hs : a.eval s = v) (hown : Own w B v l) (A : Option Addr) (m c : Nat) (news : List UInt8) (hx : a.eval x = .slice A m c) (hm : news.length = m) (hr : Rd w A news) (hc : A = none → c = 0)
    (hlen : k + m ≤ 2000000000) (hB : B ≤ w.heap.size)
    (h : ∀ A' cap' w', Own w' B (.slice A' (k + m) cap') (l ++ news) → Fr v.ownBlock.toList w w' → Lies w v (.slice A' (k + m) cap') → wpList P ops Q rest (a.put o.dst (.slice A' (k + m) cap')) w') : wpList P ops Q (o :: rest) a w := by
  subst hk
  exact wpList_app w hgd s x t ho B i ht hi hz hz1 hz2 v l hs hown A m c news hx hm hr hc hlen hB h

theorem Own.caps {w : World} {B n c : Nat} {A : Option Addr} {l : List UInt8} (h : Own w B (.slice A n c) l) : n ≤ c ∧ c ≤ 9223372036854775807 := by
  obtain ⟨_, _, hv, _, _, h1, h2, _⟩ := h.slice
  cases hv
  unfold maxLen at h2
  exact ⟨h1, by omega⟩

theorem take_len (l : List UInt8) (n : Int) (hn : 0 ≤ n) : (l.take (min (l.length : Int) n).toNat).length = (min (l.length : Int) n).toNat := by
  simp; omega

theorem Own.rd {w : World} {B n c : Nat} {A : Option Addr} {l : List UInt8} (h : Own w B (.slice A n c) l) : Rd w A l := by
  obtain ⟨_, _, hv, hr, _⟩ := h.slice
  cases hv
  exact hr

/-- The block of an own slice is new. -/
theorem Own.fresh {w w' : World} {v : Value} {l : List UInt8} (h : Own w' w.heap.size v l) : ∀ k ∈ v.ownBlock.toList, w.heap.size ≤ k := by
  intro k hk
  exact (h.lt k (by simpa using hk)).1

theorem row_int {k : IntKind} {w : World} {a : Option Addr} {len cap : Nat} {zs : List Int}
    (h : (a = none ∧ len = 0 ∧ cap = 0 ∧ zs = []) ∨ ∃ x, a = some x ∧ len ≤ cap ∧ cap ≤ maxLen ∧ zs.length = cap ∧ (∀ i, i < zs.length → w.cell? (x.add i) = some (.int k (zs.getD i 0))) ∧ ∀ n ∈ zs, (Lit.int k n).wf = true) :
    ∃ l : List Int, l.length = len ∧ RdI k w a l ∧ (a = none → cap = 0) ∧ len ≤ cap ∧ cap ≤ maxLen ∧ ∀ n ∈ l, (Lit.int k n).wf = true := by
  rcases h with ⟨rfl, rfl, rfl, rfl⟩ | ⟨x, rfl, h1, h2, h3, h4, h5⟩
  · exact ⟨[], rfl, fun h0 => by simp at h0, fun _ => rfl, by omega, by simp [maxLen], by simp⟩
  · refine ⟨zs.take len, by simp; omega, fun h0 => ?_, by simp, h1, h2, fun n hn => h5 n (List.mem_of_mem_take hn)⟩
    obtain ⟨b, o, rfl, hc⟩ := ints_at h4 (by simp at h0; omega)
    refine ⟨b, o, rfl, fun j hj => ?_⟩
    have hj' : j < zs.length := by simp at hj; omega
    rw [hc j hj']
    simp [List.getD, hj']

theorem byte_of {n : Int} (h : (Lit.int .u8 n).wf = true) : ∃ x : UInt8, n = (x.toNat : Int) := by
  have := bounds_u8 h
  refine ⟨UInt8.ofNat n.toNat, ?_⟩
  simp
  omega

theorem row_u8 {w : World} {a : Option Addr} {len cap : Nat} {zs : List Int}
    (h : (a = none ∧ len = 0 ∧ cap = 0 ∧ zs = []) ∨ ∃ x, a = some x ∧ len ≤ cap ∧ cap ≤ maxLen ∧ zs.length = cap ∧ (∀ i, i < zs.length → w.cell? (x.add i) = some (.int .u8 (zs.getD i 0))) ∧ ∀ n ∈ zs, (Lit.int .u8 n).wf = true) :
    ∃ l : List UInt8, l.length = len ∧ Rd w a l ∧ (a = none → cap = 0) ∧ len ≤ cap ∧ cap ≤ maxLen := by
  obtain ⟨l, h1, h2, h3, h4, h5, h6⟩ := row_int h
  refine ⟨l.map fun z => UInt8.ofNat z.toNat, by simpa using h1, fun h0 => ?_, h3, h4, h5⟩
  obtain ⟨b, o, rfl, hc⟩ := h2 (by simpa using h0)
  refine ⟨b, o, rfl, fun j hj => ?_⟩
  have hj' : j < l.length := by simpa using hj
  rw [hc j hj']
  have := bounds_u8 (h6 _ (List.getElem_mem hj'))
  simp
  omega

theorem rd_take {w : World} {A : Option Addr} {l : List UInt8} (h : Rd w A l) (n : Nat) : Rd w A (l.take n) := by
  intro h0
  obtain ⟨b, o, rfl, hc⟩ := h (by simp at h0; omega)
  refine ⟨b, o, rfl, fun j hj => ?_⟩
  rw [hc j (by simp at hj; omega)]
  simp

end Go.Proofs.Ytcemljbocaadfaa
