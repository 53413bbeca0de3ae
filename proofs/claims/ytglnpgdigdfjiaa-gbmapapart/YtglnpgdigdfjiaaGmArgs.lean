/-
  The arguments of picklocklaw12's laws, opened to their cells.
-/
import Derived.Test.YtglnpgdigdfjiaaRowBytes
import Derived.Test.YtglnpgdigdfjiaaGmMath
import Derived.Lib.SmallJoins
namespace Go.Proofs.Ytglnpgdigdfjiaa
open Go.RowKit Go.Deep Go.WideShapes Go.ChangeShapes
namespace Gm

/-- An op as it came in. -/
structure Raw where
  a : Int
  v : Int
def u16 (x : Int) : Prop := 0 ≤ x ∧ x < 65536
/-- The slice that begins at A holds these ops. -/
def OpsIn (w : World) (A : Option Addr) (zs : List Raw) : Prop :=
  0 < zs.length → ∃ b o, A = some ⟨b, o, none⟩ ∧ ∀ j (hj : j < zs.length),
    w.cell? ⟨b, o + j * 2, none⟩ = some (.int .u16 zs[j].a) ∧ w.cell? ⟨b, o + j * 2 + 1, none⟩ = some (.int .u8 zs[j].v) ∧ u16 zs[j].a ∧ byte zs[j].v
theorem OpsIn.later {F : List Nat} {w w' : World} {A : Option Addr} {zs : List Raw} (h : OpsIn w A zs) (hf : Fr F w w') (hF : ∀ k ∈ F, w.heap.size ≤ k) : OpsIn w' A zs := by
  intro hl
  obtain ⟨b, o, rfl, hc⟩ := h hl
  have hb : b ∉ F := by
    intro hm
    obtain ⟨h0, -⟩ := hc 0 hl
    have h1 := World.block_lt_of_cell? w _ h0
    have h2 := hF _ hm
    exact absurd h1 (by simpa using h2)
  refine ⟨b, o, rfl, fun j hj => ?_⟩
  obtain ⟨h0, h1, h2⟩ := hc j hj
  exact ⟨hf.cell h0 hb, hf.cell h1 hb, h2⟩

/-- The op at a place, as it still lies there. -/
theorem op_at {F : List Nat} {w w' : World} {A : Option Addr} {zs : List Raw} (h : OpsIn w A zs) (hf : Fr F w w') (hF : ∀ k ∈ F, w.heap.size ≤ k) (i : Nat) (hi : i < zs.length) :
    ∃ b o a v, A = some ⟨b, o, none⟩ ∧ w'.cell? ⟨b, o + i * 2, none⟩ = some (.int .u16 a) ∧ w'.cell? ⟨b, o + i * 2 + 1, none⟩ = some (.int .u8 v) ∧ u16 a ∧ byte v := by
  obtain ⟨b, o, rfl, hc⟩ := h.later hf hF (by omega)
  obtain ⟨q0, q1, q2, q3⟩ := hc i hi
  exact ⟨b, o, _, _, rfl, q0, q1, q2, q3⟩

/-- The slice that begins at A holds these addresses. -/
def AsksIn (w : World) (A : Option Addr) (zs : List Int) : Prop :=
  0 < zs.length → ∃ b o, A = some ⟨b, o, none⟩ ∧ ∀ j (hj : j < zs.length), w.cell? ⟨b, o + j, none⟩ = some (.int .u16 zs[j]) ∧ u16 zs[j]
theorem AsksIn.later {F : List Nat} {w w' : World} {A : Option Addr} {zs : List Int} (h : AsksIn w A zs) (hf : Fr F w w') (hF : ∀ k ∈ F, w.heap.size ≤ k) : AsksIn w' A zs := by
  intro hl
  obtain ⟨b, o, rfl, hc⟩ := h hl
  have hb : b ∉ F := by
    intro hm
    obtain ⟨h0, -⟩ := hc 0 hl
    have h1 := World.block_lt_of_cell? w _ h0
    have h2 := hF _ hm
    exact absurd h1 (by simpa using h2)
  refine ⟨b, o, rfl, fun j hj => ?_⟩
  obtain ⟨h0, h1⟩ := hc j hj
  exact ⟨hf.cell h0 hb, h1⟩

theorem list3 {α : Type} (l : List α) (h : l.length = 3) : ∃ a b c, l = [a, b, c] := by
  match l, h with
  | [a, b, c], _ => exact ⟨a, b, c, rfl⟩
theorem cells1i : Try.prog.cellsOf 3 = 1 := by kernel_rfl
theorem cellsCart : Try.prog.cellsOf 23 = 3 := by kernel_rfl

theorem u16_of {n : Int} (h : (Lit.int .u16 n).wf = true) : u16 n := by
  have := bounds_u16 h
  exact ⟨this.1, by omega⟩
theorem u8_of {n : Int} (h : (Lit.int .u8 n).wf = true) : byte n := by
  have := bounds_u8 h
  exact ⟨this.1, by omega⟩

section
variable {H : Type} {enc : TypeId × Value → H} {P : Program} {w : World} {base : Nat} {spare : Nat → Bool} {held : Bool}
/-- A slice of structs of one-cell fields, opened: each field's cell, and its reading. -/
theorem open_fields {t e : TypeId} {fs : Array Field} {fuel : Nat} {v : Value} {x : DataW H × List MemPlace} (ht : P.underlying t = some (.slice e)) (he : P.underlying e = some (.struct fs))
    (hone : oneCellFields P fs = true) (hC : P.cellsOf e = fs.size) (h : DataW.trod enc P w base spare held fuel t [v] = some x) :
    v = .slice none 0 0 ∨ ∃ ad len cap, v = .slice (some ad) len cap ∧ len ≤ cap ∧ cap ≤ maxLen ∧
      ∀ i, i < len → ∀ (j : Nat) (f : Field), fs[j]? = some f → ∃ v y n, w.cell? (ad.add (i * fs.size + j)) = some v ∧ DataW.trod enc P w base spare held n f.type [v] = some y := by
  rcases open_slice ht h with ⟨hcs, _⟩ | ⟨ad, l, c, m, n, D, Pl, hcs, _, hl, hm, hmm, _, hi⟩
  · simp at hcs
    exact .inl hcs
  · simp at hcs
    subst hcs
    refine .inr ⟨ad, l, c, rfl, hl, hm, fun i hil j f hj => ?_⟩
    have him : i < m := by rw [hmm]; split <;> omega
    obtain ⟨cs', hc, ht'⟩ := hi i him
    rw [hC] at hc
    obtain ⟨ys, n', _, _, hlen, hyl, hf⟩ := DataW.trod_struct he ht'
    obtain ⟨_, hcl, hat⟩ := World.cells?_some hc
    obtain ⟨ho, hk⟩ := hone_of hone j f hj
    have hjl : j < fs.size := (Array.getElem?_eq_some_iff.1 hj).1
    have h1 := hf j f hj
    rw [ho, hk, List.drop_eq_getElem_cons (by omega), List.getElem?_eq_getElem (by omega)] at h1
    refine ⟨cs'[j]'(by omega), _, n', ?_, h1⟩
    rw [← add_add, hat j hjl, List.getElem?_eq_getElem]

/-- A list out of what there is at each place. -/
theorem list_of {α : Type} (n : Nat) (Q : Nat → α → Prop) (h : ∀ i, i < n → ∃ a, Q i a) : ∃ l : List α, l.length = n ∧ ∀ i (hi : i < l.length), Q i l[i] := by
  induction n with
  | zero => exact ⟨[], rfl, fun i hi => by simp at hi⟩
  | succ n ih =>
    obtain ⟨l, hl, hq⟩ := ih fun i hi => h i (by omega)
    obtain ⟨a, ha⟩ := h n (by omega)
    refine ⟨l ++ [a], by simp [hl], fun i hi => ?_⟩
    rw [List.getElem_append]
    split
    · exact hq i (by assumption)
    · simp at hi
      have e : i = n := by omega
      subst e
      simp only [List.getElem_singleton]
      exact ha

theorem spot_of {ad : Addr} {v : Value} (h : w.cell? (ad.add 0) = some v) : ∃ b o, ad = ⟨b, o, none⟩ := by
  obtain ⟨b, o, sp⟩ := ad
  have hs : sp = none := by simpa [Addr.add] using World.cell?_spot h
  exact ⟨b, o, by rw [hs]⟩
end

section
variable {H : Type} {enc : TypeId × Value → H} {w : World} {base : Nat} {held : Bool}
theorem row_ops {fuel : Nat} {v : Value} {x : DataW H × List MemPlace} (h : DataW.trod enc Try.prog w base (fun _ => true) held fuel 24 [v] = some x) : ∃ A n c zs, v = .slice A n c ∧ zs.length = n ∧ OpsIn w A zs ∧ n ≤ c ∧ c ≤ maxLen := by
  rcases open_fields Try.underlying24 Try.underlying34 (by kernel_rfl) (by kernel_rfl) h with rfl | ⟨ad, len, cap, rfl, hl, hm, hf⟩
  · exact ⟨none, 0, 0, [], rfl, rfl, fun h => by simp at h, by omega, by simp [maxLen]⟩
  · have key : ∀ i, i < len → ∃ z : Raw, w.cell? (ad.add (i * 2)) = some (.int .u16 z.a) ∧ w.cell? (ad.add (i * 2 + 1)) = some (.int .u8 z.v) ∧ u16 z.a ∧ byte z.v := by
      intro i hi
      obtain ⟨v0, y0, n0, c0, t0⟩ := hf i hi 0 _ rfl
      obtain ⟨v1, y1, n1, c1, t1⟩ := hf i hi 1 _ rfl
      obtain ⟨z0, e0, -, b0⟩ := DataW.trod_int Try.underlying32 t0
      obtain ⟨z1, e1, -, b1⟩ := DataW.trod_int Try.underlying5 t1
      simp at e0 e1
      subst e0 e1
      exact ⟨⟨z0, z1⟩, c0, c1, u16_of b0, u8_of b1⟩
    obtain ⟨zs, hzl, hz⟩ := list_of len _ key
    refine ⟨some ad, len, cap, zs, rfl, hzl, fun h0 => ?_, hl, hm⟩
    obtain ⟨c0, _⟩ := hz 0 h0
    rw [Nat.zero_mul] at c0
    obtain ⟨b, o, rfl⟩ := spot_of c0
    refine ⟨b, o, rfl, fun j hj => ?_⟩
    obtain ⟨c0, c1, h1⟩ := hz j hj
    rw [Addr.add_lit] at c0 c1
    exact ⟨c0, by rw [Nat.add_assoc]; exact c1, h1⟩

theorem row_asks {fuel : Nat} {v : Value} {x : DataW H × List MemPlace} (h : DataW.trod enc Try.prog w base (fun _ => true) held fuel 25 [v] = some x) : ∃ A n c zs, v = .slice A n c ∧ zs.length = n ∧ AsksIn w A zs ∧ n ≤ c ∧ c ≤ maxLen := by
  rcases open_ints Try.underlying25 Try.underlying32 (by kernel_rfl) h with ⟨hcs, _⟩ | ⟨x, l, c, zs, hcs, _, hl, hm, hz, _, hcell, hwz⟩
  · simp at hcs
    exact ⟨none, 0, 0, [], hcs, rfl, fun h => by simp at h, by omega, by simp [maxLen]⟩
  · simp at hcs hz
    refine ⟨some x, l, c, zs.take l, hcs, by rw [List.length_take]; omega, fun h0 => ?_, hl, hm⟩
    have hl0 : 0 < l := by rw [List.length_take] at h0; omega
    have c0 := hcell 0 (by omega)
    obtain ⟨b, o, rfl⟩ := spot_of c0
    refine ⟨b, o, rfl, fun j hj => ?_⟩
    have hjl : j < zs.length := by rw [List.length_take] at hj; omega
    have cj := hcell j hjl
    rw [Addr.add_lit] at cj
    have hg : zs.getD j 0 = zs[j] := by simp [List.getD, hjl]
    rw [List.getElem_take]
    refine ⟨by rw [cj, hg], u16_of (hwz _ (List.getElem_mem hjl))⟩

set_option maxRecDepth 100000 in
theorem open_cart {r : Reach} {b0 : Nat} {v : Value} {d : DataW H} {p : List MemPlace} (hv : Value.okWide Try.prog w r b0 23 v) (h : DataW.Trod enc Try.prog w base (fun _ => true) held 23 v d p) :
    ∃ kd rom ram : Int, v = .agg #[.int .i64 kd, .int .i64 rom, .int .i64 ram] := by
  obtain ⟨cs, rfl, hsz⟩ := okWide_struct Try.underlying23 hv
  rw [cellsCart] at hsz
  obtain ⟨cl⟩ := cs
  obtain ⟨v0, v1, v2, rfl⟩ := list3 cl hsz
  obtain ⟨fuel, hf⟩ := h
  obtain ⟨ys, n, -, -, -, hyl, hx⟩ := DataW.trod_struct Try.underlying23 hf
  have hlen : ys.length = 3 := hyl
  have h0 := hx 0 _ rfl
  have h1 := hx 1 _ rfl
  have h2 := hx 2 _ rfl
  simp only [Value.cells] at h0 h1 h2
  rw [List.getElem?_eq_getElem (by omega)] at h0 h1 h2
  obtain ⟨a, e0, -⟩ := DataW.trod_int Try.underlying3 h0
  obtain ⟨b, e1, -⟩ := DataW.trod_int Try.underlying3 h1
  obtain ⟨c, e2, -⟩ := DataW.trod_int Try.underlying3 h2
  simp at e0 e1 e2
  try rw [cells1i] at e0 e1 e2
  try simp at e0 e1 e2
  subst e0 e1 e2
  exact ⟨a, b, c, rfl⟩
end

end Gm
end Go.Proofs.Ytglnpgdigdfjiaa
