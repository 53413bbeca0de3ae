/-
  Rows of records in memory: read ('RecRd'), and of the call's own ('RecOwn'), with append: of no function of the program.
-/
import Derived.Test.YtchakjknndpmpaaApp
import Derived.Test.YtchakjknndpmpaaIpsMath
namespace Go.Proofs.Ytchakjknndpmpaa
open Go.RowKit
namespace Ips

/-- A record's cells. -/
def recV (m : Rec × Option Addr × Nat) : List Value := [.int .i64 (m.1.pos : Int), .int .i64 (m.1.run : Int), .slice m.2.1 m.1.data.length m.2.2]
def flat (ms : List (Rec × Option Addr × Nat)) : List Value := ms.flatMap recV
theorem flat_nil : flat [] = [] := rfl
theorem flat_cons (m : Rec × Option Addr × Nat) (ms : List (Rec × Option Addr × Nat)) : flat (m :: ms) = recV m ++ flat ms := by simp [flat]
theorem flat_snoc (ms : List (Rec × Option Addr × Nat)) (m : Rec × Option Addr × Nat) : flat (ms ++ [m]) = flat ms ++ recV m := by simp [flat]
theorem flat_length (ms : List (Rec × Option Addr × Nat)) : (flat ms).length = ms.length * 3 := by
  induction ms with
  | nil => rfl
  | cons m ms ih => rw [flat_cons, List.length_append, ih]; simp [recV]; omega
theorem flat_get (ms : List (Rec × Option Addr × Nat)) (j : Nat) (hj : j < ms.length) (i : Nat) (hi : i < 3) : (flat ms)[j * 3 + i]? = (recV ms[j])[i]? := by
  induction ms generalizing j with
  | nil => simp at hj
  | cons m ms ih =>
    rw [flat_cons]
    cases j with
    | zero =>
      rw [List.getElem?_append_left (by simp [recV]; omega)]
      simp
    | succ j =>
      have hl : (recV m).length = 3 := rfl
      rw [List.getElem?_append_right (by rw [hl]; omega), hl, show (j + 1) * 3 + i - 3 = j * 3 + i by omega, ih j (by simpa using hj)]
      simp

/-- The slice that begins at A holds the records rs. -/
def RecRd (w : World) (A : Option Addr) (rs : List Rec) : Prop :=
  0 < rs.length → ∃ b o, A = some ⟨b, o, none⟩ ∧ ∀ j (hj : j < rs.length), ∃ D c,
    w.cell? ⟨b, o + j * 3, none⟩ = some (.int .i64 (rs[j].pos : Int)) ∧ w.cell? ⟨b, o + j * 3 + 1, none⟩ = some (.int .i64 (rs[j].run : Int)) ∧
    w.cell? ⟨b, o + j * 3 + 2, none⟩ = some (.slice D rs[j].data.length c) ∧ Rd w D rs[j].data ∧ (D = none → c = 0)

theorem RecRd.later {S : List Nat} {w w' : World} {A : Option Addr} {rs : List Rec} (h : RecRd w A rs) (hf : Fr S w w') (hS : ∀ k ∈ S, w.heap.size ≤ k) : RecRd w' A rs := by
  intro hl
  obtain ⟨b, o, rfl, hc⟩ := h hl
  refine ⟨b, o, rfl, fun j hj => ?_⟩
  obtain ⟨D, c, h0, h1, h2, h3, h4⟩ := hc j hj
  have key : ∀ {p : Addr} {v : Value}, w.cell? p = some v → w'.cell? p = some v := fun {p v} hx => hf.cell hx fun hm => by
    have := World.block_lt_of_cell? w _ hx
    have := hS _ hm
    omega
  exact ⟨D, c, key h0, key h1, key h2, h3.later hf hS, h4⟩

theorem recRd_nil (w : World) (A : Option Addr) : RecRd w A [] := fun h => by simp at h

/-- Where a record's bytes lie: among the call's own blocks, and not in the row v. -/
def Good (w : World) (B : Nat) (v : Value) (m : Rec × Option Addr × Nat) : Prop :=
  Rd w m.2.1 m.1.data ∧ (m.2.1 = none → m.2.2 = 0) ∧ ∀ ad, m.2.1 = some ad → B ≤ ad.block ∧ ad.block < w.heap.size ∧ v.ownBlock ≠ some ad.block

/-- The slice value v owns a row of records of the type T, from block B on. -/
def RecOwn (w : World) (B : Nat) (T : TypeId) (v : Value) (rs : List Rec) : Prop :=
  ∃ ms, ms.map (·.1) = rs ∧ w.ownsRow B T 3 v ms.length (flat ms) ∧ ∀ m ∈ ms, Good w B v m

theorem RecOwn.none_ (w : World) (B : Nat) (T : TypeId) : RecOwn w B T (.slice none 0 0) [] := ⟨[], rfl, World.ownsRow_nil w B T 3, by simp⟩
theorem RecOwn.empty (w : World) (B : Nat) (T : TypeId) (hB : B ≤ w.heap.size) : RecOwn (w.alloc (.cells #[] T)) B T (.slice (some ⟨w.heap.size, 0, none⟩) 0 0) [] :=
  ⟨[], rfl, World.ownsRow_made w #[] 0 hB (by simp [maxLen]) rfl, by simp⟩

theorem RecOwn.fr {S : List Nat} {w w' : World} {B : Nat} {T : TypeId} {v : Value} {rs : List Rec} (h : RecOwn w B T v rs) (hf : Fr S w w') (hS : ∀ k ∈ S, k < B ∨ w.heap.size ≤ k) : RecOwn w' B T v rs := by
  obtain ⟨ms, h1, h2, h3⟩ := h
  refine ⟨ms, h1, ?_, fun m hm => ?_⟩
  · obtain ⟨h4, h5⟩ := h2
    refine ⟨h4, ?_⟩
    rcases h5 with h5 | ⟨g, cap, cur, rfl, hg, hh, r⟩
    · exact .inl h5
    · exact .inr ⟨g, cap, cur, rfl, hg, (hf.block g (Blk.lt hh) (fun hm => by have := Blk.lt hh; rcases hS g hm with h | h <;> omega)).trans hh, r⟩
  · obtain ⟨h4, h5, h6⟩ := h3 m hm
    exact ⟨h4.fr hf (fun ad e hm => by have := h6 ad e; rcases hS _ hm with h | h <;> omega), h5, fun ad e => ⟨(h6 ad e).1, Nat.lt_of_lt_of_le (h6 ad e).2.1 hf.size, (h6 ad e).2.2⟩⟩

theorem RecOwn.slice {w : World} {B : Nat} {T : TypeId} {v : Value} {rs : List Rec} (h : RecOwn w B T v rs) : ∃ A cap, v = .slice A rs.length cap ∧ RecRd w A rs ∧ rs.length ≤ cap ∧ cap ≤ maxLen ∧ (A = none → cap = 0) := by
  obtain ⟨ms, rfl, h2, h3⟩ := h
  have hl : (ms.map (·.1)).length = ms.length := by simp
  have hown := h2
  rcases h2.2 with ⟨rfl, h0⟩ | ⟨g, cap, cur, rfl, _, hh, hc, hm, hs, ht⟩
  · refine ⟨none, 0, by rw [hl, h0], fun hp => by rw [hl] at hp; omega, by omega, by simp [maxLen], fun _ => rfl⟩
  · refine ⟨_, cap, by rw [hl], fun _ => ⟨g, 0, rfl, fun j hj => ?_⟩, by omega, hm, by simp⟩
    have hj' : j < ms.length := by simpa using hj
    obtain ⟨h4, h5, _⟩ := h3 _ (List.getElem_mem hj')
    have hx : ∀ i, i < 3 → w.cell? ⟨g, j * 3 + i, none⟩ = (recV ms[j])[i]? := fun i hi => by
      rw [World.ownsRow.cellAt hown (j * 3 + i) (by omega), flat_get ms j hj' i hi]
    refine ⟨ms[j].2.1, ms[j].2.2, ?_, ?_, ?_, ?_, h5⟩
    · have := hx 0 (by omega); simpa [recV] using this
    · have := hx 1 (by omega); simpa [recV] using this
    · have := hx 2 (by omega); simpa [recV] using this
    · simpa using h4

theorem RecOwn.lt {w : World} {B : Nat} {T : TypeId} {v : Value} {rs : List Rec} (h : RecOwn w B T v rs) : ∀ k, v.ownBlock = some k → B ≤ k ∧ k < w.heap.size := by
  obtain ⟨ms, _, h2, _⟩ := h
  exact World.ownsRow.lt h2
theorem RecOwn.fresh {w : World} {B : Nat} {T : TypeId} {v : Value} {rs : List Rec} (h : RecOwn w B T v rs) : ∀ k ∈ v.ownBlock.toList, B ≤ k := fun k hk => (h.lt k (by simpa using hk)).1

/-- A record whose bytes lie in a new block. -/
theorem good_new {w0 w1 w : World} {B g c : Nat} {T : TypeId} {v : Value} {rs : List Rec} (h : RecOwn w0 B T v rs) (r : Rec) (hg : w0.heap.size ≤ g) (hB : B ≤ w0.heap.size) (hb : Blk w1 g 5 (bv r.data).toArray) {S : List Nat} (hf : Fr S w1 w) (hS : g ∉ S) : Good w B v (r, some ⟨g, 0, none⟩, c) := by
  have hb' := hb.fr hf hS
  refine ⟨rd_blk hb', by simp, fun ad e => ?_⟩
  cases e
  refine ⟨by simp; omega, hb'.lt, fun e => ?_⟩
  have := h.lt g e
  omega

/-- A record whose bytes lie in a row of the call's own, behind what was there. -/
theorem good_own {w0 w1 w : World} {B n c : Nat} {A : Option Addr} {T : TypeId} {v : Value} {rs : List Rec} (h : RecOwn w0 B T v rs) (r : Rec) (ho : Own w1 B (.slice A n c) r.data) (hg : ∀ k, (Value.slice A n c).ownBlock = some k → w0.heap.size ≤ k) (hf : Fr [] w1 w) : Good w B v (r, A, c) := by
  obtain ⟨A', c', hv, hr, hb, _, _, hn⟩ := ho.slice
  cases hv
  refine ⟨hr.fr hf (by simp), hn, fun ad e => ?_⟩
  have h1 := ho.lt _ (hb ad e)
  have h2 := hg _ (hb ad e)
  have h3 := hf.size
  refine ⟨h1.1, by omega, fun e => ?_⟩
  have := h.lt _ e
  omega

/-- append of one record. -/
theorem run_recs {P : Program} (w : World) (B : Nat) (T t ty : TypeId) (i : TypeInfo) (ht : P.underlying t = some (.slice T)) (hi : P.info? T = some i) (hz : i.zero = some (.agg #[.int .i64 0, .int .i64 0, .slice none 0 0])) (hz1 : i.size = 3) (hz2 : i.bytes = 40)
    (v : Value) (rs : List Rec) (h : RecOwn w B T v rs) (g : Nat) (c : Nat) (m : Rec × Option Addr × Nat) (hg : ∀ j u, (recV m)[j]? = some u → w.cell? ((⟨g, 0, none⟩ : Addr).add j) = some u)
    (hm : Good w B v m) (hlen : rs.length ≤ 1000000000) (hB : B ≤ w.heap.size) :
    ∃ v' w', (Builtin.append_ #[t, t] ty #[v, .slice (some ⟨g, 0, none⟩) 1 c]).run P w = .ok v' w' ∧ RecOwn w' B T v' (rs ++ [m.1]) ∧ Fr v.ownBlock.toList w w' := by
  obtain ⟨ms, h1, h2, h3⟩ := h
  have hml : ms.length = rs.length := by rw [← h1]; simp
  obtain ⟨v', w', hrun, h4, h5, _, h6⟩ := run_append_own_at (P := P) w B t ty T i _ 3 40 ht hi hz hz1 hz2 rfl (by decide) v ms.length (flat ms) h2 ⟨g, 0, none⟩ 1 c (recV m) rfl hg
    (by intro u hu; simp [recV] at hu; rcases hu with rfl | rfl | rfl <;> rfl) (by unfold maxLen; omega) (by omega) hB
  have hf : Fr v.ownBlock.toList w w' := (Fr.refl _ w).grown h5 (fun k hk => .inl (by simp [hk]))
  refine ⟨v', w', hrun, ⟨ms ++ [m], by simp [h1], by rw [flat_snoc, List.length_append]; exact h4, fun m' hm' => ?_⟩, hf⟩
  have hgood : Good w B v m' := by
    rcases List.mem_append.1 hm' with h | h
    · exact h3 _ h
    · obtain rfl := List.mem_singleton.1 h; exact hm
  obtain ⟨h7, h8, h9⟩ := hgood
  refine ⟨h7.fr hf (fun ad e hk => (h9 ad e).2.2 (by simpa using hk)), h8, fun ad e => ⟨(h9 ad e).1, Nat.lt_of_lt_of_le (h9 ad e).2.1 hf.size, ?_⟩⟩
  rcases h6 with h6 | h6
  · rw [h6]; exact (h9 ad e).2.2
  · rw [h6]; intro hx; injection hx with hx; have := (h9 ad e).2.1; omega

theorem wpList_recs {P : Program} (w : World) {ops : Array Oper} {rest : List Oper} {o : Oper} {a : Act} {Q : Exit → Act → World → Prop} (hgd : o.guard = none) (s x : Operand) (t : TypeId)
    (ho : o.op = .call { callee := .builtin .append, args := #[s, x], argTypes := #[t, t] }) (B : Nat) (T : TypeId) (i : TypeInfo) (ht : P.underlying t = some (.slice T)) (hi : P.info? T = some i) (hz : i.zero = some (.agg #[.int .i64 0, .int .i64 0, .slice none 0 0])) (hz1 : i.size = 3) (hz2 : i.bytes = 40)
    (v : Value) (rs : List Rec) (hs : a.eval s = v) (h : RecOwn w B T v rs) (g : Nat) (c : Nat) (m : Rec × Option Addr × Nat) (hx : a.eval x = .slice (some ⟨g, 0, none⟩) 1 c) (hg : ∀ j u, (recV m)[j]? = some u → w.cell? ((⟨g, 0, none⟩ : Addr).add j) = some u)
    (hm : Good w B v m) (hlen : rs.length ≤ 1000000000) (hB : B ≤ w.heap.size)
    (hK : ∀ A' cap' w', RecOwn w' B T (.slice A' (rs.length + 1) cap') (rs ++ [m.1]) → Fr v.ownBlock.toList w w' → wpList P ops Q rest (a.put o.dst (.slice A' (rs.length + 1) cap')) w') : wpList P ops Q (o :: rest) a w := by
  refine wpList_plain hgd fun K hK' => ?_
  obtain ⟨v', w', hrun, h2, h3⟩ := run_recs (P := P) w B T t o.type i ht hi hz hz1 hz2 v rs h g c m hg hm hlen hB
  obtain ⟨A', cap', rfl, -⟩ := h2.slice
  rw [List.length_append, List.length_singleton] at hrun h2
  unfold Oper.wp execOp
  simp only [ho, resolve, invoke, builtin, Sem.run_bind, Sem.run_pure, Result.andThen_ok, List.map_toArray, List.map_cons, List.map_nil, hs, hx, hrun]
  exact hK' _ _ (hK A' cap' w' h2 h3)

/-- The cells of a record that was just laid. -/
theorem rec_laid (w : World) (m : Rec × Option Addr × Nat) (T : TypeId) : ∀ j u, (recV m)[j]? = some u → (w.alloc (.cells #[.int .i64 (m.1.pos : Int), .int .i64 (m.1.run : Int), .slice m.2.1 m.1.data.length m.2.2] T)).cell? ((⟨w.heap.size, 0, none⟩ : Addr).add j) = some u := by
  intro j u hj
  have h := (Blk.fresh w T #[.int .i64 (m.1.pos : Int), .int .i64 (m.1.run : Int), .slice m.2.1 m.1.data.length m.2.2]).cell j
  rw [Addr.add_lit, Nat.zero_add, h]
  simpa [recV] using hj

theorem rec_laidN (w : World) (m : Rec × Option Addr × Nat) (T : TypeId) (S : Nat) (hS : m.1.data.length = S) : ∀ j u, (recV m)[j]? = some u → (w.alloc (.cells #[.int .i64 (m.1.pos : Int), .int .i64 (m.1.run : Int), .slice m.2.1 S m.2.2] T)).cell? ((⟨w.heap.size, 0, none⟩ : Addr).add j) = some u := by
  subst hS
  exact rec_laid w m T

theorem rec_laidAt (w : World) (m : Rec × Option Addr × Nat) (T : TypeId) (S g : Nat) (hS : m.1.data.length = S) (hg : w.heap.size = g) : ∀ j u, (recV m)[j]? = some u → (w.alloc (.cells #[.int .i64 (m.1.pos : Int), .int .i64 (m.1.run : Int), .slice m.2.1 S m.2.2] T)).cell? ((⟨g, 0, none⟩ : Addr).add j) = some u := by
  subst hS hg
  exact rec_laid w m T

end Ips
end Go.Proofs.Ytchakjknndpmpaa
