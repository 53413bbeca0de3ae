/-
  append of bytes, slices that came in, parts of slices, rows of cells, min of four, a text's bytes: plain laws, of no function of the program.
-/
import Derived.Test.YtlnpadekgakghaaDoorBase
import Derived.Test.YtlnpadekgakghaaDoorRows
import Derived.Maps.AppendAt
import Derived.Deep.RegionHeld3
import Derived.OpenShut
import Derived.Lib.MinMax
import Derived.Laws.EntriesVeiled
import Derived.WalkLawsBesides
import Derived.WalkSpells
import Derived.IntWalk
import Derived.Laws.Tables
import Derived.Lib.SlBytesConst
import Derived.Laws.Bits128
import Derived.BigQuiet
import Derived.Deep.QuietTactic
import Derived.Deep.WholeRow
namespace Go.Proofs.YtlnpadekgakghaaDoor
open Go.RowKit

theorem info5 : (Tryd.prog.info? 5).map (fun i => (i.zero, i.size, i.bytes)) = some (some (.int .u8 0), 1, 1) := by kernel_rfl

/-- Where a slice that was appended to lies: in the old row, or in a new block. -/
def Lies (w : World) (v v' : Value) : Prop := v'.ownBlock = v.ownBlock ∨ ∃ k, v'.ownBlock = some k ∧ w.heap.size ≤ k

theorem Lies.refl (w : World) (v : Value) : Lies w v v := .inl rfl
theorem Lies.trans {w w' : World} {v v' v'' : Value} (h : Lies w v v') (h' : Lies w' v' v'') (hs : w.heap.size ≤ w'.heap.size) : Lies w v v'' := by
  rcases h' with h' | ⟨k, hk, hl⟩
  · rcases h with h | ⟨k, hk, hl⟩
    · exact .inl (h'.trans h)
    · exact .inr ⟨k, h'.trans hk, hl⟩
  · exact .inr ⟨k, hk, by omega⟩
/-- .. and so a row that was other than the old one is other than the new one. -/
theorem Lies.other {w : World} {v v' : Value} (h : Lies w v v') {g : Nat} (hg : v.ownBlock ≠ some g) (hlt : g < w.heap.size) : v'.ownBlock ≠ some g := by
  rcases h with h | ⟨k, hk, hl⟩
  · rwa [h]
  · rw [hk]; intro e; cases e; omega

/-- A list of bytes of which nothing is known but that a slice of it can be appended. -/
theorem run_app {P : Program} (w : World) (B : Nat) (t ty : TypeId) (i : TypeInfo) (ht : P.underlying t = some (.slice 5)) (hi : P.info? 5 = some i) (hz : i.zero = some (.int .u8 0)) (hz1 : i.size = 1) (hz2 : i.bytes = 1)
    (v : Value) (l : List UInt8) (hown : Own w B v l) (A : Option Addr) (m c : Nat) (news : List UInt8) (hm : news.length = m) (hr : Rd w A news) (hc : A = none → c = 0) (hlen : l.length + m ≤ 2000000000) (hB : B ≤ w.heap.size) :
    ∃ A' cap' w', (Builtin.append_ #[t, t] ty #[v, .slice A m c]).run P w = .ok (.slice A' (l.length + m) cap') w' ∧ Own w' B (.slice A' (l.length + m) cap') (l ++ news) ∧ Fr v.ownBlock.toList w w' ∧ Lies w v (.slice A' (l.length + m) cap') := by
  subst hm
  cases A with
  | none =>
    obtain rfl := hc rfl
    have hn : news = [] := by
      rcases Nat.eq_zero_or_pos news.length with h0 | h0
      · exact List.eq_nil_of_length_eq_zero h0
      · obtain ⟨b, o, hx, _⟩ := hr h0
        cases hx
    subst hn
    have hrun := run_append_owned_none (P := P) (w := w) B t ty 5 i 1 ht hi v l.length (bv l) hown
    obtain ⟨A', cap', rfl, -⟩ := hown.slice
    exact ⟨A', cap', w, hrun, by simpa using hown, Fr.refl _ _, Lies.refl _ _⟩
  | some ad =>
    have hcells : ∀ j u, (bv news)[j]? = some u → w.cell? (ad.add j) = some u := by
      intro j u hu
      have h0 : 0 < (bv news).length := by have := (List.getElem?_eq_some_iff.1 hu).1; omega
      obtain ⟨ad', e, hx⟩ := hr.cells h0
      cases e
      exact hx j u hu
    obtain ⟨v', w', hrun, h2, h3, _, h5⟩ := run_append_own_at (P := P) w B t ty 5 i (.int .u8 0) 1 1 ht hi hz hz1 hz2 rfl (by decide) v l.length (bv l) hown ad news.length c (bv news) (by simp [bv_length]) hcells (bv_one news) (by unfold maxLen; omega) (by omega) hB
    have ho : Own w' B v' (l ++ news) := by unfold Own; rw [bv_append, List.length_append]; exact h2
    obtain ⟨A', cap', rfl, -⟩ := ho.slice
    rw [List.length_append] at hrun ho h5
    refine ⟨A', cap', w', hrun, ho, (Fr.refl _ w).grown h3 (fun k hk => .inl (by simp [hk])), ?_⟩
    rcases h5 with h5 | h5
    · exact .inl h5
    · exact .inr ⟨_, h5, Nat.le_refl _⟩

theorem wp_app {P : Program} (w : World) {o : Oper} {a : Act} {K : Act → World → Prop} {Q : Exit → Act → World → Prop} (s x : Operand) (t : TypeId)
    (ho : o.op = .call { callee := .builtin .append, args := #[s, x], argTypes := #[t, t] }) (B : Nat) (i : TypeInfo) (ht : P.underlying t = some (.slice 5)) (hi : P.info? 5 = some i) (hz : i.zero = some (.int .u8 0)) (hz1 : i.size = 1) (hz2 : i.bytes = 1)
    (v : Value) (l : List UInt8) (hs : a.eval s = v) (hown : Own w B v l) (A : Option Addr) (m c : Nat) (news : List UInt8) (hx : a.eval x = .slice A m c) (hm : news.length = m) (hr : Rd w A news) (hc : A = none → c = 0)
    (hlen : l.length + m ≤ 2000000000) (hB : B ≤ w.heap.size)
    (h : ∀ A' cap' w', Own w' B (.slice A' (l.length + m) cap') (l ++ news) → Fr v.ownBlock.toList w w' → Lies w v (.slice A' (l.length + m) cap') → K (a.put o.dst (.slice A' (l.length + m) cap')) w') : o.wp P a w K Q := by
  obtain ⟨A', cap', w', hrun, h2, h3, h4⟩ := run_app (P := P) w B t o.type i ht hi hz hz1 hz2 v l hown A m c news hm hr hc hlen hB
  unfold Oper.wp execOp
  simp only [ho, resolve, invoke, builtin, Sem.run_bind, Sem.run_pure, Result.andThen_ok, List.map_toArray, List.map_cons, List.map_nil, hs, hx, hrun]
  exact h A' cap' w' h2 h3 h4

theorem wpList_app {P : Program} (w : World) {ops : Array Oper} {rest : List Oper} {o : Oper} {a : Act} {Q : Exit → Act → World → Prop} (hgd : o.guard = none) (s x : Operand) (t : TypeId)
    (ho : o.op = .call { callee := .builtin .append, args := #[s, x], argTypes := #[t, t] }) (B : Nat) (i : TypeInfo) (ht : P.underlying t = some (.slice 5)) (hi : P.info? 5 = some i) (hz : i.zero = some (.int .u8 0)) (hz1 : i.size = 1) (hz2 : i.bytes = 1)
    (v : Value) (l : List UInt8) (hs : a.eval s = v) (hown : Own w B v l) (A : Option Addr) (m c : Nat) (news : List UInt8) (hx : a.eval x = .slice A m c) (hm : news.length = m) (hr : Rd w A news) (hc : A = none → c = 0)
    (hlen : l.length + m ≤ 2000000000) (hB : B ≤ w.heap.size)
    (h : ∀ A' cap' w', Own w' B (.slice A' (l.length + m) cap') (l ++ news) → Fr v.ownBlock.toList w w' → Lies w v (.slice A' (l.length + m) cap') → wpList P ops Q rest (a.put o.dst (.slice A' (l.length + m) cap')) w') : wpList P ops Q (o :: rest) a w :=
  wpList_plain hgd fun _ hK => wp_app w s x t ho B i ht hi hz hz1 hz2 v l hs hown A m c news hx hm hr hc hlen hB fun A' cap' w' h2 h3 h4 => hK _ _ (h A' cap' w' h2 h3 h4)

theorem rd_one' (w : World) (z : Int) (x : UInt8) (h : z = (x.toNat : Int)) : Rd (w.alloc (.cells #[.int .u8 z] 5)) (some ⟨w.heap.size, 0, none⟩) [x] := by
  subst h
  intro _
  refine ⟨_, _, rfl, fun j hj => ?_⟩
  obtain rfl : j = 0 := by simpa using hj
  simp

theorem rd_one (w : World) (x : UInt8) : Rd (w.alloc (.cells #[.int .u8 (x.toNat : Int)] 5)) (some ⟨w.heap.size, 0, none⟩) [x] := by
  intro _
  refine ⟨_, _, rfl, fun j hj => ?_⟩
  obtain rfl : j = 0 := by simpa using hj
  simp

/-- append at a step of a region that draws its order. -/
theorem step_app {P : Program} (w : World) {ops : Array Oper} {o : Oper} {a : Act} {K : Act → World → Prop} {Q : Exit → Act → World → Prop} {E : Prop} (hgd : o.guard = none) (s x : Operand) (t : TypeId)
    (ho : o.op = .call { callee := .builtin .append, args := #[s, x], argTypes := #[t, t] }) (B : Nat) (i : TypeInfo) (ht : P.underlying t = some (.slice 5)) (hi : P.info? 5 = some i) (hz : i.zero = some (.int .u8 0)) (hz1 : i.size = 1) (hz2 : i.bytes = 1)
    (v : Value) (l : List UInt8) (k : Nat) (hk : l.length = k) (hs : a.eval s = v) (hown : Own w B v l) (A : Option Addr) (m c : Nat) (news : List UInt8) (hx : a.eval x = .slice A m c) (hm : news.length = m) (hr : Rd w A news) (hc : A = none → c = 0)
    (hlen : k + m ≤ 2000000000) (hB : B ≤ w.heap.size)
    (h : ∀ A' cap' w', Own w' B (.slice A' (k + m) cap') (l ++ news) → Fr v.ownBlock.toList w w' → Lies w v (.slice A' (k + m) cap') → K (a.put o.dst (.slice A' (k + m) cap')) w') :
    if Region.wanted o (yielded ops a.tmps) = true then Oper.wp P o a w K Q else E := by
  subst hk
  have hw : Region.wanted o (yielded ops a.tmps) = true := by simp [Region.wanted, hgd]
  rw [if_pos hw]
  exact wp_app w s x t ho B i ht hi hz hz1 hz2 v l hs hown A m c news hx hm hr hc hlen hB h

theorem wpList_appN {P : Program} (w : World) {ops : Array Oper} {rest : List Oper} {o : Oper} {a : Act} {Q : Exit → Act → World → Prop} (hgd : o.guard = none) (s x : Operand) (t : TypeId)
    (ho : o.op = .call { callee := .builtin .append, args := #[s, x], argTypes := #[t, t] }) (B : Nat) (i : TypeInfo) (ht : P.underlying t = some (.slice 5)) (hi : P.info? 5 = some i) (hz : i.zero = some (.int .u8 0)) (hz1 : i.size = 1) (hz2 : i.bytes = 1)
    (v : Value) (l : List UInt8) (k : Nat) (hk : l.length = k) (hs : a.eval s = v) (hown : Own w B v l) (A : Option Addr) (m c : Nat) (news : List UInt8) (hx : a.eval x = .slice A m c) (hm : news.length = m) (hr : Rd w A news) (hc : A = none → c = 0)
    (hlen : k + m ≤ 2000000000) (hB : B ≤ w.heap.size)
    (h : ∀ A' cap' w', Own w' B (.slice A' (k + m) cap') (l ++ news) → Fr v.ownBlock.toList w w' → Lies w v (.slice A' (k + m) cap') → wpList P ops Q rest (a.put o.dst (.slice A' (k + m) cap')) w') : wpList P ops Q (o :: rest) a w := by
  subst hk
  exact wpList_app w hgd s x t ho B i ht hi hz hz1 hz2 v l hs hown A m c news hx hm hr hc hlen hB h

theorem Own.caps {w : World} {B n c : Nat} {A : Option Addr} {l : List UInt8} (h : Own w B (.slice A n c) l) : n ≤ c ∧ c ≤ 9223372036854775807 := by
  obtain ⟨_, _, hv, _, _, h1, h2, _⟩ := h.slice
  cases hv
  unfold maxLen at h2
  exact ⟨h1, by omega⟩

theorem take_len (l : List UInt8) (n : Int) (hn : 0 ≤ n) : (l.take (min (l.length : Int) n).toNat).length = (min (l.length : Int) n).toNat := by
  simp; omega

theorem Own.rd {w : World} {B n c : Nat} {A : Option Addr} {l : List UInt8} (h : Own w B (.slice A n c) l) : Rd w A l := by
  obtain ⟨_, _, hv, hr, _⟩ := h.slice
  cases hv
  exact hr

/-- The block of an own slice is new. -/
theorem Own.fresh {w w' : World} {v : Value} {l : List UInt8} (h : Own w' w.heap.size v l) : ∀ k ∈ v.ownBlock.toList, w.heap.size ≤ k := by
  intro k hk
  exact (h.lt k (by simpa using hk)).1

theorem row_int {k : IntKind} {w : World} {a : Option Addr} {len cap : Nat} {zs : List Int}
    (h : (a = none ∧ len = 0 ∧ cap = 0 ∧ zs = []) ∨ ∃ x, a = some x ∧ len ≤ cap ∧ cap ≤ maxLen ∧ zs.length = cap ∧ (∀ i, i < zs.length → w.cell? (x.add i) = some (.int k (zs.getD i 0))) ∧ ∀ n ∈ zs, (Lit.int k n).wf = true) :
    ∃ l : List Int, l.length = len ∧ RdI k w a l ∧ (a = none → cap = 0) ∧ len ≤ cap ∧ cap ≤ maxLen ∧ ∀ n ∈ l, (Lit.int k n).wf = true := by
  rcases h with ⟨rfl, rfl, rfl, rfl⟩ | ⟨x, rfl, h1, h2, h3, h4, h5⟩
  · exact ⟨[], rfl, fun h0 => by simp at h0, fun _ => rfl, by omega, by simp [maxLen], by simp⟩
  · refine ⟨zs.take len, by simp; omega, fun h0 => ?_, by simp, h1, h2, fun n hn => h5 n (List.mem_of_mem_take hn)⟩
    obtain ⟨b, o, rfl, hc⟩ := ints_at h4 (by simp at h0; omega)
    refine ⟨b, o, rfl, fun j hj => ?_⟩
    have hj' : j < zs.length := by simp at hj; omega
    rw [hc j hj']
    simp [List.getD, hj']

theorem byte_of {n : Int} (h : (Lit.int .u8 n).wf = true) : ∃ x : UInt8, n = (x.toNat : Int) := by
  have := bounds_u8 h
  refine ⟨UInt8.ofNat n.toNat, ?_⟩
  simp
  omega

theorem row_u8 {w : World} {a : Option Addr} {len cap : Nat} {zs : List Int}
    (h : (a = none ∧ len = 0 ∧ cap = 0 ∧ zs = []) ∨ ∃ x, a = some x ∧ len ≤ cap ∧ cap ≤ maxLen ∧ zs.length = cap ∧ (∀ i, i < zs.length → w.cell? (x.add i) = some (.int .u8 (zs.getD i 0))) ∧ ∀ n ∈ zs, (Lit.int .u8 n).wf = true) :
    ∃ l : List UInt8, l.length = len ∧ Rd w a l ∧ (a = none → cap = 0) ∧ len ≤ cap ∧ cap ≤ maxLen := by
  obtain ⟨l, h1, h2, h3, h4, h5, h6⟩ := row_int h
  refine ⟨l.map fun z => UInt8.ofNat z.toNat, by simpa using h1, fun h0 => ?_, h3, h4, h5⟩
  obtain ⟨b, o, rfl, hc⟩ := h2 (by simpa using h0)
  refine ⟨b, o, rfl, fun j hj => ?_⟩
  have hj' : j < l.length := by simpa using hj
  rw [hc j hj']
  have := bounds_u8 (h6 _ (List.getElem_mem hj'))
  simp
  omega

theorem rd_take {w : World} {A : Option Addr} {l : List UInt8} (h : Rd w A l) (n : Nat) : Rd w A (l.take n) := by
  intro h0
  obtain ⟨b, o, rfl, hc⟩ := h (by simp at h0; omega)
  refine ⟨b, o, rfl, fun j hj => ?_⟩
  rw [hc j (by simp at hj; omega)]
  simp

theorem take_snoc (l : List UInt8) (k : Nat) (h : k < l.length) : l.take (k + 1) = l.take k ++ [l[k]] := by
  rw [List.take_succ_eq_append_getElem h]

/-- A byte of a slice that is read. -/
theorem Rd.at {w : World} {A : Option Addr} {l : List UInt8} (h : Rd w A l) (k : Nat) (hk : k < l.length) : ∃ b o x, A = some ⟨b, o, none⟩ ∧ l[k]? = some x ∧ w.cell? ⟨b, o + k, none⟩ = some (.int .u8 (x.toNat : Int)) := by
  obtain ⟨b, o, rfl, hc⟩ := h (by omega)
  exact ⟨b, o, l[k], rfl, List.getElem?_eq_getElem hk, hc k hk⟩

theorem Fr.setRow {S : List Nat} {a w : World} (h : Fr S a w) {g : Nat} (hg : g ∈ S ∨ a.heap.size ≤ g) (cs : Array Value) : Fr S a (w.setRow g cs) :=
  h.trans (T := [g]) ⟨rfl, rfl, rfl, by simp, fun k _ hk => setRow_other w g k cs (by simpa using hk)⟩ (by simpa using hg)
theorem Blk.setRow {w : World} {g : Nat} {t : TypeId} {old : Array Value} (h : Blk w g t old) (cs : Array Value) : Blk (w.setRow g cs) g t cs := setRow_heap w g old cs t (0, 0) h

/-- A whole row of cells into a block of as many. -/
theorem storeRow {w : World} {g : Nat} {t : TypeId} {Z cs : Array Value} (h : Blk w g t Z) (hz : Z.size = cs.size) (h1 : cs.all (·.oneCell') = true) :
    (storeCells ⟨g, 0, none⟩ cs.toList).run Tryd.prog w = .ok () (w.setRow g cs) := by
  have h2 := run_storeCells_from (P := Tryd.prog) g t cs.toList 0 Z w h (by simp; omega) (fun v hv => (Array.all_eq_true_iff_forall_mem.1 h1) v (by simpa using hv))
  simpa using h2

theorem rd_blk {w : World} {g : Nat} {t : TypeId} {l : List UInt8} (h : Blk w g t (bv l).toArray) : Rd w (some ⟨g, 0, none⟩) l :=
  fun _ => ⟨g, 0, rfl, h.rd (by rw [List.take_of_length_le (by simp [bv_length])])⟩

/-- A text's bytes, as a slice of their own. -/
theorem conv_const (w : World) (g : Nat) (hg : w.heap.size = g) (C : Array Value) (n c : Nat) :
    (convert 38 38 (.slice (some ⟨g, 0, none⟩) n c)).run Tryd.prog (w.alloc (.cells C 5)) = .ok (.slice (some ⟨g, 0, none⟩) n c) (w.alloc (.cells C 5 (C.size, C.size + 1))) := by
  subst hg
  exact Lib.run_convert_bytes_const w 38 5 C n c Tryd.underlying38 Tryd.underlying5
theorem rd_const (w : World) (g : Nat) (hg : w.heap.size = g) (l : List UInt8) (t : TypeId) (fr : Nat × Nat) : Rd (w.alloc (.cells (bv l).toArray t fr)) (some ⟨g, 0, none⟩) l := by
  subst hg
  intro _
  refine ⟨_, 0, rfl, fun j hj => ?_⟩
  rw [cell_of_row _ _ _ _ _ _ (heap_alloc_new w _), Nat.zero_add]
  simpa using bv_get l j hj

theorem rd_nil (w : World) : Rd w none [] := fun h => by simp at h

theorem Own.some_ {w w0 : World} {B n c g0 : Nat} {A : Option Addr} {l : List UInt8} (h : Own w B (.slice A n c) l) (hl : Lies w0 (.slice (some ⟨g0, 0, none⟩) 0 0) (.slice A n c)) : ∃ g, A = some ⟨g, 0, none⟩ := by
  rcases h.2 with ⟨hv, _⟩ | ⟨g, cap', cur, hv, _⟩
  · cases hv
    rcases hl with hl | ⟨k, hk, _⟩
    · simp [Value.ownBlock] at hl
    · simp [Value.ownBlock] at hk
  · cases hv; exact ⟨g, rfl⟩

theorem and65535 (n : Int) : 0 ≤ bits .and .i64 n 65535 ∧ bits .and .i64 n 65535 ≤ 65535 := by
  have h : (BitVec.ofInt 64 65535).toNat = 2 ^ 16 - 1 := by decide
  have key : (BitVec.ofInt 64 n &&& BitVec.ofInt 64 65535).toNat = (n % ((2 ^ 64 : Nat) : Int)).toNat % 2 ^ 16 := by
    rw [BitVec.toNat_and, BitVec.toNat_ofInt, h, Nat.and_two_pow_sub_one_eq_mod]
  have e : bits .and .i64 n 65535 = IntKind.i64.wrap ((BitVec.ofInt 64 n &&& BitVec.ofInt 64 65535).toNat : Nat) := rfl
  rw [e, key, IntKind.wrap_i64]
  omega
/-- A place up to k. -/
theorem place_of (z k : Int) (hk : 0 ≤ k) : ∃ p : Nat, (bits .and .i64 z 65535).tmod (k + 1) = (p : Int) ∧ (p : Int) ≤ k := by
  have h := and65535 z
  rw [Int.tmod_eq_emod_of_nonneg h.1]
  have h1 := Int.emod_nonneg (bits .and .i64 z 65535) (show k + 1 ≠ 0 by omega)
  have h2 := Int.emod_lt_of_pos (bits .and .i64 z 65535) (show 0 < k + 1 by omega)
  exact ⟨((bits .and .i64 z 65535) % (k + 1)).toNat, by omega, by omega⟩

theorem cut_rd {w : World} {g c k n : Nat} {l : List UInt8} (h : Rd w (some ⟨g, 0, none⟩) l) (hn : k + n ≤ l.length) (hc : l.length ≤ c) : Rd w (if c = k then some (⟨g, 0, none⟩ : Addr) else some ⟨g, k, none⟩) ((l.drop k).take n) := by
  by_cases hk : c = k
  · rw [if_pos hk]
    exact fun h0 => by simp at h0; omega
  · rw [if_neg hk]
    intro h0
    obtain ⟨b, o, e, hx⟩ := h (by simp at h0; omega)
    cases e
    simpa using Rd.cut hx k n h0

theorem Own.form0 {w : World} {B n c : Nat} {A : Option Addr} {l : List UInt8} (h : Own w B (.slice A n c) l) : (A = none ∧ n = 0 ∧ c = 0) ∨ ∃ g, A = some ⟨g, 0, none⟩ := by
  rcases h.2 with ⟨hv, _⟩ | ⟨g, cap', cur, hv, _⟩
  · cases hv; exact .inl ⟨rfl, rfl, rfl⟩
  · cases hv; exact .inr ⟨g, rfl⟩

theorem Own.base {w : World} {B B' : Nat} {v : Value} {l : List UInt8} (h : Own w B v l) (hB : B' ≤ B) : Own w B' v l := by
  obtain ⟨h1, h2⟩ := h
  refine ⟨h1, ?_⟩
  rcases h2 with h2 | ⟨g, cap, cur, hv, hg, r⟩
  · exact .inl h2
  · exact .inr ⟨g, cap, cur, hv, by omega, r⟩

theorem min_if (x y : Int) : (if y < x then y else x) = min x y := by
  rw [Int.min_def]
  split <;> split <;> omega
theorem run_min4 {P : Program} (w : World) (ts : Array TypeId) (t : TypeId) (a b c d : Int) :
    (Builtin.min_ ts t #[.int .i64 a, .int .i64 b, .int .i64 c, .int .i64 d]).run P w = .ok (.int .i64 (min (min (min a b) c) d)) w := by
  simp [Builtin.min_, Builtin.min2, min_if]
theorem min4 {P : Program} (ts : Array TypeId) (t : TypeId) (a b c : Nat) (d : Int) (hd : 0 ≤ d) : ∃ n : Nat, n ≤ a ∧ n ≤ b ∧ n ≤ c ∧ n ≤ d ∧
    ∀ w, (Builtin.min_ ts t #[.int .i64 (a : Int), .int .i64 (b : Int), .int .i64 (c : Int), .int .i64 d]).run P w = .ok (.int .i64 (n : Int)) w := by
  refine ⟨min (min (min a b) c) d.toNat, by omega, by omega, by omega, by omega, fun w => ?_⟩
  rw [run_min4]
  congr 2
  omega

end Go.Proofs.YtlnpadekgakghaaDoor
