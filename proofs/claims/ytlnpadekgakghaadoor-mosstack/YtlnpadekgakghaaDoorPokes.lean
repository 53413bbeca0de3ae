/-
  Rows of pokes (an address, a byte) in memory: read ('PkRd'), and of the call's own ('PkOwn'), with append: of no function of the program.
-/
import Derived.Test.YtlnpadekgakghaaDoorApp
namespace Go.Proofs.YtlnpadekgakghaaDoor
open Go.RowKit
namespace Pk

/-- A poke's cells. -/
def pokeV (m : Int × Int) : List Value := [.int .u16 m.1, .int .u8 m.2]
/-- The zero poke. -/
def zeroV : Value := .agg #[.int .u16 0, .int .u8 0]
def flat (ms : List (Int × Int)) : List Value := ms.flatMap pokeV
theorem flat_nil : flat [] = [] := rfl
theorem flat_cons (m : Int × Int) (ms : List (Int × Int)) : flat (m :: ms) = pokeV m ++ flat ms := by simp [flat]
theorem flat_snoc (ms : List (Int × Int)) (m : Int × Int) : flat (ms ++ [m]) = flat ms ++ pokeV m := by simp [flat]
theorem flat_length (ms : List (Int × Int)) : (flat ms).length = ms.length * 2 := by
  induction ms with
  | nil => rfl
  | cons m ms ih => rw [flat_cons, List.length_append, ih]; simp [pokeV]; omega
theorem flat_get (ms : List (Int × Int)) (j : Nat) (hj : j < ms.length) (i : Nat) (hi : i < 2) : (flat ms)[j * 2 + i]? = (pokeV ms[j])[i]? := by
  induction ms generalizing j with
  | nil => simp at hj
  | cons m ms ih =>
    rw [flat_cons]
    cases j with
    | zero =>
      rw [List.getElem?_append_left (by simp [pokeV]; omega)]
      simp
    | succ j =>
      have hl : (pokeV m).length = 2 := rfl
      rw [List.getElem?_append_right (by rw [hl]; omega), hl, show (j + 1) * 2 + i - 2 = j * 2 + i by omega, ih j (by simpa using hj)]
      simp

/-- The slice that begins at A holds the pokes rs. -/
def PkRd (w : World) (A : Option Addr) (rs : List (Int × Int)) : Prop :=
  0 < rs.length → ∃ b o, A = some ⟨b, o, none⟩ ∧ ∀ j (hj : j < rs.length),
    w.cell? ⟨b, o + j * 2, none⟩ = some (.int .u16 rs[j].1) ∧ w.cell? ⟨b, o + j * 2 + 1, none⟩ = some (.int .u8 rs[j].2)

theorem PkRd.later {S : List Nat} {w w' : World} {A : Option Addr} {rs : List (Int × Int)} (h : PkRd w A rs) (hf : Fr S w w') (hS : ∀ k ∈ S, w.heap.size ≤ k) : PkRd w' A rs := by
  intro hl
  obtain ⟨b, o, rfl, hc⟩ := h hl
  have key : ∀ {p : Addr} {v : Value}, w.cell? p = some v → w'.cell? p = some v := fun {p v} hx => hf.cell hx fun hm => by
    have := World.block_lt_of_cell? w _ hx
    have := hS _ hm
    omega
  exact ⟨b, o, rfl, fun j hj => ⟨key (hc j hj).1, key (hc j hj).2⟩⟩

/-- The slice value v owns a row of pokes of the type T, from block B on. -/
def PkOwn (w : World) (B : Nat) (T : TypeId) (v : Value) (rs : List (Int × Int)) : Prop := w.ownsRow B T 2 v rs.length (flat rs)

theorem PkOwn.none_ (w : World) (B : Nat) (T : TypeId) : PkOwn w B T (.slice none 0 0) [] := World.ownsRow_nil w B T 2

theorem PkOwn.fr {S : List Nat} {w w' : World} {B : Nat} {T : TypeId} {v : Value} {rs : List (Int × Int)} (h : PkOwn w B T v rs) (hf : Fr S w w') (hv : ∀ k, v.ownBlock = some k → k ∉ S) : PkOwn w' B T v rs := by
  obtain ⟨h1, h2⟩ := h
  refine ⟨h1, ?_⟩
  rcases h2 with h2 | ⟨g, cap, cur, rfl, hg, hh, r⟩
  · exact .inl h2
  · exact .inr ⟨g, cap, cur, rfl, hg, (hf.block g (Blk.lt hh) (hv g rfl)).trans hh, r⟩

theorem PkOwn.slice {w : World} {B : Nat} {T : TypeId} {v : Value} {rs : List (Int × Int)} (h : PkOwn w B T v rs) : ∃ A cap, v = .slice A rs.length cap ∧ PkRd w A rs ∧ rs.length ≤ cap ∧ cap ≤ maxLen ∧ (A = none → cap = 0) := by
  have hown := h
  rcases h.2 with ⟨rfl, h0⟩ | ⟨g, cap, cur, rfl, _, hh, hc, hm, hs, ht⟩
  · exact ⟨none, 0, by rw [h0], fun hp => by omega, by omega, by simp [maxLen], fun _ => rfl⟩
  · refine ⟨_, cap, rfl, fun _ => ⟨g, 0, rfl, fun j hj => ?_⟩, by omega, hm, by simp⟩
    have hx : ∀ i, i < 2 → w.cell? ⟨g, j * 2 + i, none⟩ = (pokeV rs[j])[i]? := fun i hi => by
      rw [World.ownsRow.cellAt hown (j * 2 + i) (by omega), flat_get rs j hj i hi]
    refine ⟨?_, ?_⟩
    · have := hx 0 (by omega); simpa [pokeV] using this
    · have := hx 1 (by omega); simpa [pokeV] using this

theorem PkOwn.lt {w : World} {B : Nat} {T : TypeId} {v : Value} {rs : List (Int × Int)} (h : PkOwn w B T v rs) : ∀ k, v.ownBlock = some k → B ≤ k ∧ k < w.heap.size := World.ownsRow.lt h
theorem PkOwn.other {w : World} {B g : Nat} {T t : TypeId} {v : Value} {rs : List (Int × Int)} {cs : Array Value} (h : PkOwn w B T v rs) (hg : Blk w g t cs) (hne : T ≠ t) : v.ownBlock ≠ some g := by
  rcases h.2 with ⟨rfl, _⟩ | ⟨g', cap, cur, rfl, _, hh, _⟩
  · simp [Value.ownBlock]
  · intro he
    have e : g' = g := by simpa [Value.ownBlock] using he
    subst e
    exact Blk.other (t := T) hh hg hne rfl

/-- append of one poke. -/
theorem run_pokes {P : Program} (w : World) (B : Nat) (T t ty : TypeId) (i : TypeInfo) (ht : P.underlying t = some (.slice T)) (hi : P.info? T = some i) (hz : i.zero = some zeroV) (hz1 : i.size = 2) (hz2 : i.bytes = 4)
    (v : Value) (rs : List (Int × Int)) (h : PkOwn w B T v rs) (g : Nat) (c : Nat) (m : Int × Int) (hg : ∀ j u, (pokeV m)[j]? = some u → w.cell? ((⟨g, 0, none⟩ : Addr).add j) = some u)
    (hlen : rs.length ≤ 1000000000) (hB : B ≤ w.heap.size) :
    ∃ v' w', (Builtin.append_ #[t, t] ty #[v, .slice (some ⟨g, 0, none⟩) 1 c]).run P w = .ok v' w' ∧ PkOwn w' B T v' (rs ++ [m]) ∧ Fr v.ownBlock.toList w w' ∧ Lies w v v' := by
  obtain ⟨v', w', hrun, h4, h5, _, h6⟩ := run_append_own_at (P := P) w B t ty T i _ 2 4 ht hi hz hz1 hz2 rfl (by decide) v rs.length (flat rs) h ⟨g, 0, none⟩ 1 c (pokeV m) rfl hg
    (by intro u hu; simp [pokeV] at hu; rcases hu with rfl | rfl <;> rfl) (by unfold maxLen; omega) (by omega) hB
  refine ⟨v', w', hrun, ?_, (Fr.refl _ w).grown h5 (fun k hk => .inl (by simp [hk])), ?_⟩
  · unfold PkOwn
    rw [flat_snoc, List.length_append]
    exact h4
  · rcases h6 with h6 | h6
    · exact .inl h6
    · exact .inr ⟨_, h6, Nat.le_refl _⟩

theorem wp_pokes {P : Program} (w : World) {o : Oper} {a : Act} {K : Act → World → Prop} {Q : Exit → Act → World → Prop} (s x : Operand) (t : TypeId)
    (ho : o.op = .call { callee := .builtin .append, args := #[s, x], argTypes := #[t, t] }) (B : Nat) (T : TypeId) (i : TypeInfo) (ht : P.underlying t = some (.slice T)) (hi : P.info? T = some i) (hz : i.zero = some zeroV) (hz1 : i.size = 2) (hz2 : i.bytes = 4)
    (v : Value) (rs : List (Int × Int)) (n : Nat) (hn : rs.length + 1 = n) (hs : a.eval s = v) (h : PkOwn w B T v rs) (g : Nat) (c : Nat) (m : Int × Int) (hx : a.eval x = .slice (some ⟨g, 0, none⟩) 1 c) (hg : ∀ j u, (pokeV m)[j]? = some u → w.cell? ((⟨g, 0, none⟩ : Addr).add j) = some u)
    (hlen : rs.length ≤ 1000000000) (hB : B ≤ w.heap.size)
    (hK : ∀ A' cap' w', PkOwn w' B T (.slice A' n cap') (rs ++ [m]) → Fr v.ownBlock.toList w w' → Lies w v (.slice A' n cap') → K (a.put o.dst (.slice A' n cap')) w') : o.wp P a w K Q := by
  subst hn
  obtain ⟨v', w', hrun, h2, h3, h4⟩ := run_pokes (P := P) w B T t o.type i ht hi hz hz1 hz2 v rs h g c m hg hlen hB
  obtain ⟨A', cap', rfl, -⟩ := h2.slice
  rw [List.length_append, List.length_singleton] at hrun h2 h4
  unfold Oper.wp execOp
  simp only [ho, resolve, invoke, builtin, Sem.run_bind, Sem.run_pure, Result.andThen_ok, List.map_toArray, List.map_cons, List.map_nil, hs, hx, hrun]
  exact hK A' cap' w' h2 h3 h4

theorem wpList_pokes {P : Program} (w : World) {ops : Array Oper} {rest : List Oper} {o : Oper} {a : Act} {Q : Exit → Act → World → Prop} (hgd : o.guard = none) (s x : Operand) (t : TypeId)
    (ho : o.op = .call { callee := .builtin .append, args := #[s, x], argTypes := #[t, t] }) (B : Nat) (T : TypeId) (i : TypeInfo) (ht : P.underlying t = some (.slice T)) (hi : P.info? T = some i) (hz : i.zero = some zeroV) (hz1 : i.size = 2) (hz2 : i.bytes = 4)
    (v : Value) (rs : List (Int × Int)) (n : Nat) (hn : rs.length + 1 = n) (hs : a.eval s = v) (h : PkOwn w B T v rs) (g : Nat) (c : Nat) (m : Int × Int) (hx : a.eval x = .slice (some ⟨g, 0, none⟩) 1 c) (hg : ∀ j u, (pokeV m)[j]? = some u → w.cell? ((⟨g, 0, none⟩ : Addr).add j) = some u)
    (hlen : rs.length ≤ 1000000000) (hB : B ≤ w.heap.size)
    (hK : ∀ A' cap' w', PkOwn w' B T (.slice A' n cap') (rs ++ [m]) → Fr v.ownBlock.toList w w' → Lies w v (.slice A' n cap') → wpList P ops Q rest (a.put o.dst (.slice A' n cap')) w') : wpList P ops Q (o :: rest) a w :=
  wpList_plain hgd fun _ hK' => wp_pokes w s x t ho B T i ht hi hz hz1 hz2 v rs n hn hs h g c m hx hg hlen hB fun A' cap' w' h2 h3 h4 => hK' _ _ (hK A' cap' w' h2 h3 h4)

/-- The cells of a poke that was just laid. -/
theorem poke_laid (w : World) (m : Int × Int) (T : TypeId) (g : Nat) (hg : w.heap.size = g) : ∀ j u, (pokeV m)[j]? = some u → (w.alloc (.cells #[.int .u16 m.1, .int .u8 m.2] T)).cell? ((⟨g, 0, none⟩ : Addr).add j) = some u := by
  subst hg
  intro j u hj
  have h := (Blk.fresh w T #[.int .u16 m.1, .int .u8 m.2]).cell j
  rw [Addr.add_lit, Nat.zero_add, h]
  simpa [pokeV] using hj

end Pk
end Go.Proofs.YtlnpadekgakghaaDoor
