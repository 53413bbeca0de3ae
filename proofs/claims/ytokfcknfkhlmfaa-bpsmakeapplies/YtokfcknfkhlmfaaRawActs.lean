/-
  Actions that came in, raw: in memory, and an argument that is a slice of them, opened to its cells.
-/
import Derived.Test.YtokfcknfkhlmfaaApp
import Derived.Test.YtokfcknfkhlmfaaBpsMath
import Derived.Deep.Slices
import Derived.Deep.Fields
import Derived.ChangeSame
import Derived.OpenShut
import Derived.Lib.SmallJoins
namespace Go.Proofs.Ytokfcknfkhlmfaa
open Go.RowKit Go.Deep Go.WideShapes Go.ChangeShapes
namespace Bps

/-- An action as it came in. -/
structure Raw where
  k : Int
  l : Int
  m : Int
  d : List UInt8
/-- The slice that begins at A holds these actions. -/
def RawIn (w : World) (A : Option Addr) (zs : List Raw) : Prop :=
  0 < zs.length → ∃ b o, A = some ⟨b, o, none⟩ ∧ ∀ j (hj : j < zs.length), ∃ D d,
    w.cell? ⟨b, o + j * 4, none⟩ = some (.int .i64 zs[j].k) ∧ w.cell? ⟨b, o + j * 4 + 1, none⟩ = some (.int .i64 zs[j].l) ∧
    w.cell? ⟨b, o + j * 4 + 2, none⟩ = some (.int .i64 zs[j].m) ∧ w.cell? ⟨b, o + j * 4 + 3, none⟩ = some (.slice D zs[j].d.length d) ∧ Rd w D zs[j].d ∧ (D = none → d = 0) ∧ zs[j].d.length ≤ d ∧ d ≤ maxLen
theorem RawIn.later {w w' : World} {A : Option Addr} {zs : List Raw} (h : RawIn w A zs) (hf : Fr [] w w') : RawIn w' A zs := by
  intro hl
  obtain ⟨b, o, rfl, hc⟩ := h hl
  refine ⟨b, o, rfl, fun j hj => ?_⟩
  obtain ⟨D, c, h0, h1, h2, h2', h3, h4⟩ := hc j hj
  exact ⟨D, c, hf.cell h0 (by simp), hf.cell h1 (by simp), hf.cell h2 (by simp), hf.cell h2' (by simp), h3.later hf (by simp), h4⟩

section
variable {H : Type} {enc : TypeId × Value → H} {P : Program} {w : World} {base : Nat} {spare : Nat → Bool} {held : Bool}
/-- A slice of structs of one-cell fields, opened: each field's cell, and its reading. -/
theorem open_fields {t e : TypeId} {fs : Array Field} {fuel : Nat} {v : Value} {x : DataW H × List MemPlace} (ht : P.underlying t = some (.slice e)) (he : P.underlying e = some (.struct fs))
    (hone : oneCellFields P fs = true) (hC : P.cellsOf e = fs.size) (h : DataW.trod enc P w base spare held fuel t [v] = some x) :
    v = .slice none 0 0 ∨ ∃ ad len cap, v = .slice (some ad) len cap ∧ len ≤ cap ∧ cap ≤ maxLen ∧
      ∀ i, i < len → ∀ (j : Nat) (f : Field), fs[j]? = some f → ∃ v y n, w.cell? (ad.add (i * fs.size + j)) = some v ∧ DataW.trod enc P w base spare held n f.type [v] = some y := by
  rcases open_slice ht h with ⟨hcs, _⟩ | ⟨ad, l, c, m, n, D, Pl, hcs, _, hl, hm, hmm, _, hi⟩
  · simp at hcs
    exact .inl hcs
  · simp at hcs
    subst hcs
    refine .inr ⟨ad, l, c, rfl, hl, hm, fun i hil j f hj => ?_⟩
    have him : i < m := by rw [hmm]; split <;> omega
    obtain ⟨cs', hc, ht'⟩ := hi i him
    rw [hC] at hc
    obtain ⟨ys, n', _, _, hlen, hyl, hf⟩ := DataW.trod_struct he ht'
    obtain ⟨_, hcl, hat⟩ := World.cells?_some hc
    obtain ⟨ho, hk⟩ := hone_of hone j f hj
    have hjl : j < fs.size := (Array.getElem?_eq_some_iff.1 hj).1
    have h1 := hf j f hj
    rw [ho, hk, List.drop_eq_getElem_cons (by omega), List.getElem?_eq_getElem (by omega)] at h1
    refine ⟨cs'[j]'(by omega), _, n', ?_, h1⟩
    rw [← add_add, hat j hjl, List.getElem?_eq_getElem]
end

/-- A list out of what there is at each place. -/
theorem list_of {α : Type} (n : Nat) (Q : Nat → α → Prop) (h : ∀ i, i < n → ∃ a, Q i a) : ∃ l : List α, l.length = n ∧ ∀ i (hi : i < l.length), Q i l[i] := by
  induction n with
  | zero => exact ⟨[], rfl, fun i hi => by simp at hi⟩
  | succ n ih =>
    obtain ⟨l, hl, hq⟩ := ih fun i hi => h i (by omega)
    obtain ⟨a, ha⟩ := h n (by omega)
    refine ⟨l ++ [a], by simp [hl], fun i hi => ?_⟩
    rw [List.getElem_append]
    split
    · exact hq i (by assumption)
    · simp at hi
      have e : i = n := by omega
      subst e
      simp only [List.getElem_singleton]
      exact ha

theorem spot_of {w : World} {ad : Addr} {v : Value} (h : w.cell? (ad.add 0) = some v) : ∃ b o, ad = ⟨b, o, none⟩ := by
  obtain ⟨b, o, sp⟩ := ad
  have hs : sp = none := by simpa [Addr.add] using World.cell?_spot h
  exact ⟨b, o, by rw [hs]⟩

section
variable {H : Type} {enc : TypeId × Value → H} {w : World} {base : Nat} {spare : Nat → Bool} {held : Bool}
theorem row_bytes {fuel : Nat} {v : Value} {x : DataW H × List MemPlace} (h : DataW.trod enc Try.prog w base (fun _ => true) held fuel 22 [v] = some x) : ∃ A l c, v = .slice A l.length c ∧ Rd w A l ∧ (A = none → c = 0) ∧ l.length ≤ c ∧ c ≤ maxLen := by
  have hrow : ∃ A n c zs, v = .slice A n c ∧ ((A = none ∧ n = 0 ∧ c = 0 ∧ zs = []) ∨ ∃ x, A = some x ∧ n ≤ c ∧ c ≤ maxLen ∧ zs.length = c ∧ (∀ i, i < zs.length → w.cell? (x.add i) = some (.int .u8 (zs.getD i 0))) ∧ ∀ n ∈ zs, (Lit.int .u8 n).wf = true) := by
    rcases open_ints Try.underlying22 Try.underlying5 (by kernel_rfl) h with ⟨hcs, _⟩ | ⟨x, l, c, zs, hcs, _, hl, hm, hz, _, hcell, hwz⟩
    · simp at hcs
      exact ⟨none, 0, 0, [], hcs, .inl ⟨rfl, rfl, rfl, rfl⟩⟩
    · simp at hcs
      exact ⟨some x, l, c, zs, hcs, .inr ⟨x, rfl, hl, hm, by simpa using hz, hcell, hwz⟩⟩
  obtain ⟨A, n, c, zs, rfl, h1⟩ := hrow
  obtain ⟨l, rfl, h2, h3, h4, h5⟩ := row_u8 h1
  exact ⟨A, l, c, rfl, h2, h3, h4, h5⟩

theorem row_raw {fuel : Nat} {v : Value} {x : DataW H × List MemPlace} (h : DataW.trod enc Try.prog w base (fun _ => true) held fuel 28 [v] = some x) : ∃ A n c zs, v = .slice A n c ∧ zs.length = n ∧ RawIn w A zs ∧ n ≤ c ∧ c ≤ maxLen := by
  rcases open_fields Try.underlying28 Try.underlying40 (by kernel_rfl) (by kernel_rfl) h with rfl | ⟨ad, len, cap, rfl, hl, hm, hf⟩
  · exact ⟨none, 0, 0, [], rfl, rfl, fun h => by simp at h, by omega, by simp [maxLen]⟩
  · have key : ∀ i, i < len → ∃ z : Raw, ∃ D d, w.cell? (ad.add (i * 4)) = some (.int .i64 z.k) ∧ w.cell? (ad.add (i * 4 + 1)) = some (.int .i64 z.l) ∧ w.cell? (ad.add (i * 4 + 2)) = some (.int .i64 z.m) ∧ w.cell? (ad.add (i * 4 + 3)) = some (.slice D z.d.length d) ∧ Rd w D z.d ∧ (D = none → d = 0) ∧ z.d.length ≤ d ∧ d ≤ maxLen := by
      intro i hi
      obtain ⟨v0, y0, n0, c0, t0⟩ := hf i hi 0 _ rfl
      obtain ⟨v1, y1, n1, c1, t1⟩ := hf i hi 1 _ rfl
      obtain ⟨v2, y2, n2, c2, t2⟩ := hf i hi 2 _ rfl
      obtain ⟨v3, y3, n3, c3, t3⟩ := hf i hi 3 _ rfl
      obtain ⟨z0, e0, _⟩ := DataW.trod_int Try.underlying3 t0
      obtain ⟨z1, e1, _⟩ := DataW.trod_int Try.underlying3 t1
      obtain ⟨z2, e2, _⟩ := DataW.trod_int Try.underlying2 t2
      simp at e0 e1 e2
      subst e0 e1 e2
      obtain ⟨D, l, d, rfl, h1, h2, h3, h4⟩ := row_bytes t3
      exact ⟨⟨z0, z1, z2, l⟩, D, d, c0, c1, c2, c3, h1, h2, h3, h4⟩
    obtain ⟨zs, hzl, hz⟩ := list_of len _ key
    refine ⟨some ad, len, cap, zs, rfl, hzl, fun h0 => ?_, hl, hm⟩
    obtain ⟨D, d, c0, _⟩ := hz 0 h0
    rw [Nat.zero_mul] at c0
    obtain ⟨b, o, rfl⟩ := spot_of c0
    refine ⟨b, o, rfl, fun j hj => ?_⟩
    obtain ⟨D, d, c0, c1, c2, c3, h1⟩ := hz j hj
    rw [Addr.add_lit] at c0 c1 c2 c3
    exact ⟨D, d, c0, by rw [Nat.add_assoc]; exact c1, by rw [Nat.add_assoc]; exact c2, by rw [Nat.add_assoc]; exact c3, h1⟩
end

end Bps
end Go.Proofs.Ytokfcknfkhlmfaa
