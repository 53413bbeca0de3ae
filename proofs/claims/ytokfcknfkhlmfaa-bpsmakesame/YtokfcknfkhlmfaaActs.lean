/-
  Rows of actions (four cells each) in memory: read ('ActRd'), and of the call's own ('ActOwn'), with append: of no function of the program.
-/
import Derived.Test.YtokfcknfkhlmfaaApp
import Derived.Test.YtokfcknfkhlmfaaBpsMath
namespace Go.Proofs.Ytokfcknfkhlmfaa
open Go.RowKit
namespace Acts

/-- An action's cells. -/
def actV (m : Bps.Act × Option Addr × Nat) : List Value := [.int .i64 (m.1.kind : Int), .int .i64 (m.1.len : Int), .int .i64 m.1.move, .slice m.2.1 m.1.data.length m.2.2]
/-- The zero action. -/
def zeroV : Value := .agg #[.int .i64 0, .int .i64 0, .int .i64 0, .slice none 0 0]
def flat (ms : List (Bps.Act × Option Addr × Nat)) : List Value := ms.flatMap actV
theorem flat_nil : flat [] = [] := rfl
theorem flat_cons (m : Bps.Act × Option Addr × Nat) (ms : List (Bps.Act × Option Addr × Nat)) : flat (m :: ms) = actV m ++ flat ms := by simp [flat]
theorem flat_snoc (ms : List (Bps.Act × Option Addr × Nat)) (m : Bps.Act × Option Addr × Nat) : flat (ms ++ [m]) = flat ms ++ actV m := by simp [flat]
theorem flat_length (ms : List (Bps.Act × Option Addr × Nat)) : (flat ms).length = ms.length * 4 := by
  induction ms with
  | nil => rfl
  | cons m ms ih => rw [flat_cons, List.length_append, ih]; simp [actV]; omega
theorem flat_get (ms : List (Bps.Act × Option Addr × Nat)) (j : Nat) (hj : j < ms.length) (i : Nat) (hi : i < 4) : (flat ms)[j * 4 + i]? = (actV ms[j])[i]? := by
  induction ms generalizing j with
  | nil => simp at hj
  | cons m ms ih =>
    rw [flat_cons]
    cases j with
    | zero =>
      rw [List.getElem?_append_left (by simp [actV]; omega)]
      simp
    | succ j =>
      have hl : (actV m).length = 4 := rfl
      rw [List.getElem?_append_right (by rw [hl]; omega), hl, show (j + 1) * 4 + i - 4 = j * 4 + i by omega, ih j (by simpa using hj)]
      simp

/-- The slice that begins at A holds the actions rs. -/
def ActRd (w : World) (A : Option Addr) (rs : List Bps.Act) : Prop :=
  0 < rs.length → ∃ b o, A = some ⟨b, o, none⟩ ∧ ∀ j (hj : j < rs.length), ∃ D c,
    w.cell? ⟨b, o + j * 4, none⟩ = some (.int .i64 (rs[j].kind : Int)) ∧ w.cell? ⟨b, o + j * 4 + 1, none⟩ = some (.int .i64 (rs[j].len : Int)) ∧
    w.cell? ⟨b, o + j * 4 + 2, none⟩ = some (.int .i64 rs[j].move) ∧ w.cell? ⟨b, o + j * 4 + 3, none⟩ = some (.slice D rs[j].data.length c) ∧ Rd w D rs[j].data ∧ (D = none → c = 0) ∧ rs[j].data.length ≤ c ∧ c ≤ maxLen

theorem ActRd.later {S : List Nat} {w w' : World} {A : Option Addr} {rs : List Bps.Act} (h : ActRd w A rs) (hf : Fr S w w') (hS : ∀ k ∈ S, w.heap.size ≤ k) : ActRd w' A rs := by
  intro hl
  obtain ⟨b, o, rfl, hc⟩ := h hl
  refine ⟨b, o, rfl, fun j hj => ?_⟩
  obtain ⟨D, c, h0, h1, h2, h2', h3, h4⟩ := hc j hj
  have key : ∀ {p : Addr} {v : Value}, w.cell? p = some v → w'.cell? p = some v := fun {p v} hx => hf.cell hx fun hm => by
    have := World.block_lt_of_cell? w _ hx
    have := hS _ hm
    omega
  exact ⟨D, c, key h0, key h1, key h2, key h2', h3.later hf hS, h4⟩

theorem actRd_nil (w : World) (A : Option Addr) : ActRd w A [] := fun h => by simp at h

/-- Where an action's bytes lie: among the call's own blocks, and not in the row v. -/
def Good (w : World) (B : Nat) (v : Value) (m : Bps.Act × Option Addr × Nat) : Prop :=
  Rd w m.2.1 m.1.data ∧ ((m.2.1 = none → m.2.2 = 0) ∧ m.1.data.length ≤ m.2.2 ∧ m.2.2 ≤ maxLen) ∧ ∀ ad, m.2.1 = some ad → B ≤ ad.block ∧ ad.block < w.heap.size ∧ v.ownBlock ≠ some ad.block

/-- The slice value v owns a row of actions of the type T, from block B on. -/
def ActOwn (w : World) (B : Nat) (T : TypeId) (v : Value) (rs : List Bps.Act) : Prop :=
  ∃ ms, ms.map (·.1) = rs ∧ w.ownsRow B T 4 v ms.length (flat ms) ∧ ∀ m ∈ ms, Good w B v m

theorem ActOwn.none_ (w : World) (B : Nat) (T : TypeId) : ActOwn w B T (.slice none 0 0) [] := ⟨[], rfl, World.ownsRow_nil w B T 4, by simp⟩
theorem ActOwn.empty (w : World) (B : Nat) (T : TypeId) (hB : B ≤ w.heap.size) : ActOwn (w.alloc (.cells #[] T)) B T (.slice (some ⟨w.heap.size, 0, none⟩) 0 0) [] :=
  ⟨[], rfl, World.ownsRow_made w #[] 0 hB (by simp [maxLen]) rfl, by simp⟩

theorem ActOwn.fr {S : List Nat} {w w' : World} {B : Nat} {T : TypeId} {v : Value} {rs : List Bps.Act} (h : ActOwn w B T v rs) (hf : Fr S w w') (hS : ∀ k ∈ S, k < B ∨ w.heap.size ≤ k) : ActOwn w' B T v rs := by
  obtain ⟨ms, h1, h2, h3⟩ := h
  refine ⟨ms, h1, ?_, fun m hm => ?_⟩
  · obtain ⟨h4, h5⟩ := h2
    refine ⟨h4, ?_⟩
    rcases h5 with h5 | ⟨g, cap, cur, rfl, hg, hh, r⟩
    · exact .inl h5
    · exact .inr ⟨g, cap, cur, rfl, hg, (hf.block g (Blk.lt hh) (fun hm => by have := Blk.lt hh; rcases hS g hm with h | h <;> omega)).trans hh, r⟩
  · obtain ⟨h4, h5, h6⟩ := h3 m hm
    exact ⟨h4.fr hf (fun ad e hm => by have := h6 ad e; rcases hS _ hm with h | h <;> omega), h5, fun ad e => ⟨(h6 ad e).1, Nat.lt_of_lt_of_le (h6 ad e).2.1 hf.size, (h6 ad e).2.2⟩⟩

theorem ActOwn.slice {w : World} {B : Nat} {T : TypeId} {v : Value} {rs : List Bps.Act} (h : ActOwn w B T v rs) : ∃ A cap, v = .slice A rs.length cap ∧ ActRd w A rs ∧ rs.length ≤ cap ∧ cap ≤ maxLen ∧ (A = none → cap = 0) := by
  obtain ⟨ms, rfl, h2, h3⟩ := h
  have hl : (ms.map (·.1)).length = ms.length := by simp
  have hown := h2
  rcases h2.2 with ⟨rfl, h0⟩ | ⟨g, cap, cur, rfl, _, hh, hc, hm, hs, ht⟩
  · refine ⟨none, 0, by rw [hl, h0], fun hp => by rw [hl] at hp; omega, by omega, by simp [maxLen], fun _ => rfl⟩
  · refine ⟨_, cap, by rw [hl], fun _ => ⟨g, 0, rfl, fun j hj => ?_⟩, by omega, hm, by simp⟩
    have hj' : j < ms.length := by simpa using hj
    obtain ⟨h4, h5, _⟩ := h3 _ (List.getElem_mem hj')
    have hx : ∀ i, i < 4 → w.cell? ⟨g, j * 4 + i, none⟩ = (actV ms[j])[i]? := fun i hi => by
      rw [World.ownsRow.cellAt hown (j * 4 + i) (by omega), flat_get ms j hj' i hi]
    refine ⟨ms[j].2.1, ms[j].2.2, ?_, ?_, ?_, ?_, ?_, by simpa using h5⟩
    · have := hx 0 (by omega); simpa [actV] using this
    · have := hx 1 (by omega); simpa [actV] using this
    · have := hx 2 (by omega); simpa [actV] using this
    · have := hx 3 (by omega); simpa [actV] using this
    · simpa using h4

theorem ActOwn.lt {w : World} {B : Nat} {T : TypeId} {v : Value} {rs : List Bps.Act} (h : ActOwn w B T v rs) : ∀ k, v.ownBlock = some k → B ≤ k ∧ k < w.heap.size := by
  obtain ⟨ms, _, h2, _⟩ := h
  exact World.ownsRow.lt h2
theorem ActOwn.fresh {w : World} {B : Nat} {T : TypeId} {v : Value} {rs : List Bps.Act} (h : ActOwn w B T v rs) : ∀ k ∈ v.ownBlock.toList, B ≤ k := fun k hk => (h.lt k (by simpa using hk)).1

/-- An action whose bytes are new, or that has none. -/
theorem good_new {w0 w1 w : World} {B c : Nat} {D : Option Addr} {T : TypeId} {v : Value} {rs : List Bps.Act} (h : ActOwn w0 B T v rs) (r : Bps.Act) (hB : B ≤ w0.heap.size) (hr : Rd w1 D r.data) (hc : (D = none → c = 0) ∧ r.data.length ≤ c ∧ c ≤ maxLen) (hD : ∀ ad, D = some ad → w0.heap.size ≤ ad.block ∧ ad.block < w1.heap.size) {S : List Nat} (hf : Fr S w1 w) (hS : ∀ ad, D = some ad → ad.block ∉ S) : Good w B v (r, D, c) := by
  refine ⟨hr.fr hf hS, hc, fun ad e => ?_⟩
  have h1 := hD ad e
  have h2 := hf.size
  refine ⟨by omega, by omega, fun e2 => ?_⟩
  have := h.lt _ e2
  omega

/-- append of one action. -/
theorem run_acts {P : Program} (w : World) (B : Nat) (T t ty : TypeId) (i : TypeInfo) (ht : P.underlying t = some (.slice T)) (hi : P.info? T = some i) (hz : i.zero = some zeroV) (hz1 : i.size = 4) (hz2 : i.bytes = 48)
    (v : Value) (rs : List Bps.Act) (h : ActOwn w B T v rs) (g : Nat) (c : Nat) (m : Bps.Act × Option Addr × Nat) (hg : ∀ j u, (actV m)[j]? = some u → w.cell? ((⟨g, 0, none⟩ : Addr).add j) = some u)
    (hm : Good w B v m) (hlen : rs.length ≤ 1000000000) (hB : B ≤ w.heap.size) :
    ∃ v' w', (Builtin.append_ #[t, t] ty #[v, .slice (some ⟨g, 0, none⟩) 1 c]).run P w = .ok v' w' ∧ ActOwn w' B T v' (rs ++ [m.1]) ∧ Fr v.ownBlock.toList w w' := by
  obtain ⟨ms, h1, h2, h3⟩ := h
  have hml : ms.length = rs.length := by rw [← h1]; simp
  obtain ⟨v', w', hrun, h4, h5, _, h6⟩ := run_append_own_at (P := P) w B t ty T i _ 4 48 ht hi hz hz1 hz2 rfl (by decide) v ms.length (flat ms) h2 ⟨g, 0, none⟩ 1 c (actV m) rfl hg
    (by intro u hu; simp [actV] at hu; rcases hu with rfl | rfl | rfl | rfl <;> rfl) (by unfold maxLen; omega) (by omega) hB
  have hf : Fr v.ownBlock.toList w w' := (Fr.refl _ w).grown h5 (fun k hk => .inl (by simp [hk]))
  refine ⟨v', w', hrun, ⟨ms ++ [m], by simp [h1], by rw [flat_snoc, List.length_append]; exact h4, fun m' hm' => ?_⟩, hf⟩
  have hgood : Good w B v m' := by
    rcases List.mem_append.1 hm' with h | h
    · exact h3 _ h
    · obtain rfl := List.mem_singleton.1 h; exact hm
  obtain ⟨h7, h8, h9⟩ := hgood
  refine ⟨h7.fr hf (fun ad e hk => (h9 ad e).2.2 (by simpa using hk)), h8, fun ad e => ⟨(h9 ad e).1, Nat.lt_of_lt_of_le (h9 ad e).2.1 hf.size, ?_⟩⟩
  rcases h6 with h6 | h6
  · rw [h6]; exact (h9 ad e).2.2
  · rw [h6]; intro hx; injection hx with hx; have := (h9 ad e).2.1; omega

theorem wp_acts {P : Program} (w : World) {o : Oper} {a : Act} {K : Act → World → Prop} {Q : Exit → Act → World → Prop} (s x : Operand) (t : TypeId)
    (ho : o.op = .call { callee := .builtin .append, args := #[s, x], argTypes := #[t, t] }) (B : Nat) (T : TypeId) (i : TypeInfo) (ht : P.underlying t = some (.slice T)) (hi : P.info? T = some i) (hz : i.zero = some zeroV) (hz1 : i.size = 4) (hz2 : i.bytes = 48)
    (v : Value) (rs : List Bps.Act) (n : Nat) (hn : rs.length + 1 = n) (hs : a.eval s = v) (h : ActOwn w B T v rs) (g : Nat) (c : Nat) (m : Bps.Act × Option Addr × Nat) (hx : a.eval x = .slice (some ⟨g, 0, none⟩) 1 c) (hg : ∀ j u, (actV m)[j]? = some u → w.cell? ((⟨g, 0, none⟩ : Addr).add j) = some u)
    (hm : Good w B v m) (hlen : rs.length ≤ 1000000000) (hB : B ≤ w.heap.size)
    (hK : ∀ A' cap' w', ActOwn w' B T (.slice A' n cap') (rs ++ [m.1]) → Fr v.ownBlock.toList w w' → K (a.put o.dst (.slice A' n cap')) w') : o.wp P a w K Q := by
  subst hn
  obtain ⟨v', w', hrun, h2, h3⟩ := run_acts (P := P) w B T t o.type i ht hi hz hz1 hz2 v rs h g c m hg hm hlen hB
  obtain ⟨A', cap', rfl, -⟩ := h2.slice
  rw [List.length_append, List.length_singleton] at hrun h2
  unfold Oper.wp execOp
  simp only [ho, resolve, invoke, builtin, Sem.run_bind, Sem.run_pure, Result.andThen_ok, List.map_toArray, List.map_cons, List.map_nil, hs, hx, hrun]
  exact hK A' cap' w' h2 h3

theorem wpList_acts {P : Program} (w : World) {ops : Array Oper} {rest : List Oper} {o : Oper} {a : Act} {Q : Exit → Act → World → Prop} (hgd : o.guard = none) (s x : Operand) (t : TypeId)
    (ho : o.op = .call { callee := .builtin .append, args := #[s, x], argTypes := #[t, t] }) (B : Nat) (T : TypeId) (i : TypeInfo) (ht : P.underlying t = some (.slice T)) (hi : P.info? T = some i) (hz : i.zero = some zeroV) (hz1 : i.size = 4) (hz2 : i.bytes = 48)
    (v : Value) (rs : List Bps.Act) (n : Nat) (hn : rs.length + 1 = n) (hs : a.eval s = v) (h : ActOwn w B T v rs) (g : Nat) (c : Nat) (m : Bps.Act × Option Addr × Nat) (hx : a.eval x = .slice (some ⟨g, 0, none⟩) 1 c) (hg : ∀ j u, (actV m)[j]? = some u → w.cell? ((⟨g, 0, none⟩ : Addr).add j) = some u)
    (hm : Good w B v m) (hlen : rs.length ≤ 1000000000) (hB : B ≤ w.heap.size)
    (hK : ∀ A' cap' w', ActOwn w' B T (.slice A' n cap') (rs ++ [m.1]) → Fr v.ownBlock.toList w w' → wpList P ops Q rest (a.put o.dst (.slice A' n cap')) w') : wpList P ops Q (o :: rest) a w :=
  wpList_plain hgd fun _ hK' => wp_acts w s x t ho B T i ht hi hz hz1 hz2 v rs n hn hs h g c m hx hg hm hlen hB fun A' cap' w' h2 h3 => hK' _ _ (hK A' cap' w' h2 h3)

/-- append of one action at a step of a region that draws its order. -/
theorem step_acts {P : Program} (w : World) {ops : Array Oper} {o : Oper} {a : Act} {K : Act → World → Prop} {Q : Exit → Act → World → Prop} {E : Prop} (hgd : o.guard = none) (s x : Operand) (t : TypeId)
    (ho : o.op = .call { callee := .builtin .append, args := #[s, x], argTypes := #[t, t] }) (B : Nat) (T : TypeId) (i : TypeInfo) (ht : P.underlying t = some (.slice T)) (hi : P.info? T = some i) (hz : i.zero = some zeroV) (hz1 : i.size = 4) (hz2 : i.bytes = 48)
    (v : Value) (rs : List Bps.Act) (n : Nat) (hn : rs.length + 1 = n) (hs : a.eval s = v) (h : ActOwn w B T v rs) (g : Nat) (c : Nat) (m : Bps.Act × Option Addr × Nat) (hx : a.eval x = .slice (some ⟨g, 0, none⟩) 1 c) (hg : ∀ j u, (actV m)[j]? = some u → w.cell? ((⟨g, 0, none⟩ : Addr).add j) = some u)
    (hm : Good w B v m) (hlen : rs.length ≤ 1000000000) (hB : B ≤ w.heap.size)
    (hK : ∀ A' cap' w', ActOwn w' B T (.slice A' n cap') (rs ++ [m.1]) → Fr v.ownBlock.toList w w' → K (a.put o.dst (.slice A' n cap')) w') :
    if Region.wanted o (yielded ops a.tmps) = true then Oper.wp P o a w K Q else E := by
  have hw : Region.wanted o (yielded ops a.tmps) = true := by simp [Region.wanted, hgd]
  rw [if_pos hw]
  exact wp_acts w s x t ho B T i ht hi hz hz1 hz2 v rs n hn hs h g c m hx hg hm hlen hB hK

/-- The cells of an action that was just laid. -/
theorem act_laid (w : World) (m : Bps.Act × Option Addr × Nat) (T : TypeId) (S g : Nat) (hS : m.1.data.length = S) (hg : w.heap.size = g) : ∀ j u, (actV m)[j]? = some u → (w.alloc (.cells #[.int .i64 (m.1.kind : Int), .int .i64 (m.1.len : Int), .int .i64 m.1.move, .slice m.2.1 S m.2.2] T)).cell? ((⟨g, 0, none⟩ : Addr).add j) = some u := by
  subst hS hg
  intro j u hj
  have h := (Blk.fresh w T #[.int .i64 (m.1.kind : Int), .int .i64 (m.1.len : Int), .int .i64 m.1.move, .slice m.2.1 m.1.data.length m.2.2]).cell j
  rw [Addr.add_lit, Nat.zero_add, h]
  simpa [actV] using hj

/-- A block of actions is read. -/
theorem rd_blk4 {w : World} {g : Nat} {T : TypeId} {ms : List (Bps.Act × Option Addr × Nat)} (h : Blk w g T (flat ms).toArray) (hm : ∀ m ∈ ms, Rd w m.2.1 m.1.data ∧ (m.2.1 = none → m.2.2 = 0) ∧ m.1.data.length ≤ m.2.2 ∧ m.2.2 ≤ maxLen) : ActRd w (some ⟨g, 0, none⟩) (ms.map (·.1)) := by
  intro _
  refine ⟨g, 0, rfl, fun j hj => ?_⟩
  have hj' : j < ms.length := by simpa using hj
  obtain ⟨h4, h5⟩ := hm _ (List.getElem_mem hj')
  have hx : ∀ i, i < 4 → w.cell? ⟨g, j * 4 + i, none⟩ = (actV ms[j])[i]? := fun i hi => by
    rw [h.cell, ← flat_get ms j hj' i hi]
    simp
  refine ⟨ms[j].2.1, ms[j].2.2, ?_, ?_, ?_, ?_, ?_, by simpa using h5⟩
  · have := hx 0 (by omega); simpa [actV] using this
  · have := hx 1 (by omega); simpa [actV] using this
  · have := hx 2 (by omega); simpa [actV] using this
  · have := hx 3 (by omega); simpa [actV] using this
  · simpa using h4

end Acts
end Go.Proofs.Ytokfcknfkhlmfaa
