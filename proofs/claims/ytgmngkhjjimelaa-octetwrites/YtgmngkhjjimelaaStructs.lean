/-
  An argument that is a slice of structs of one-cell fields, opened to its cells: of no program; then at the law's own types.
-/
import Derived.Test.YtgmngkhjjimelaaRef3
import Derived.Deep.Slices
import Derived.Deep.Fields
import Derived.ChangeSame
import Derived.OpenShut
namespace Go.Proofs.Ytgmngkhjjimelaa
open Go.RowKit Go.Deep

section
variable {H : Type} {enc : TypeId × Value → H} {P : Program} {w : World} {base : Nat} {spare : Nat → Bool} {held : Bool}
theorem open_structs {t e : TypeId} {fs : Array Field} {fuel : Nat} {a : Option Addr} {len cap : Nat} {x : DataW H × List MemPlace} (ht : P.underlying t = some (.slice e)) (he : P.underlying e = some (.struct fs))
    (hone : oneCellFields P fs = true) (hC : P.cellsOf e = fs.size) (h : DataW.trod enc P w base spare held fuel t [.slice a len cap] = some x) :
    (a = none ∧ len = 0 ∧ cap = 0) ∨ ∃ ad, a = some ad ∧ len ≤ cap ∧ cap ≤ maxLen ∧
      ∀ i, i < len → ∀ (j : Nat) (f : Field), fs[j]? = some f → ∃ v y n, w.cell? (ad.add (i * fs.size + j)) = some v ∧ DataW.trod enc P w base spare held n f.type [v] = some y := by
  rcases open_slice ht h with ⟨hcs, _⟩ | ⟨ad, l, c, m, n, D, Pl, hcs, _, hl, hm, hmm, _, hi⟩
  · simp at hcs
    exact .inl hcs
  · simp at hcs
    obtain ⟨rfl, rfl, rfl⟩ := hcs
    refine .inr ⟨ad, rfl, hl, hm, fun i hil j f hj => ?_⟩
    have him : i < m := by rw [hmm]; split <;> omega
    obtain ⟨cs', hc, ht'⟩ := hi i him
    rw [hC] at hc
    obtain ⟨ys, n', _, _, hlen, hyl, hf⟩ := DataW.trod_struct he ht'
    obtain ⟨_, hcl, hat⟩ := World.cells?_some hc
    obtain ⟨ho, hk⟩ := hone_of hone j f hj
    have hjl : j < fs.size := (Array.getElem?_eq_some_iff.1 hj).1
    have h1 := hf j f hj
    rw [ho, hk, List.drop_eq_getElem_cons (by omega), List.getElem?_eq_getElem (by omega)] at h1
    refine ⟨cs'[j]'(by omega), _, n', ?_, h1⟩
    rw [← add_add, hat j hjl, List.getElem?_eq_getElem]
end

/-- The integer that lies in a cell. -/
def intAt (w : World) (a : Addr) : Int := match w.cell? a with
  | some (.int _ z) => z
  | _ => 0

theorem add_some {w : World} {ad : Addr} {v : Value} (h : w.cell? (ad.add 0) = some v) : ∃ b o, ad = ⟨b, o, none⟩ := by
  obtain ⟨b, o, sp⟩ := ad
  have hs : sp = none := by simpa [Addr.add] using World.cell?_spot h
  exact ⟨b, o, by rw [hs]⟩

/-- The law's ops. -/
theorem row_ops {H : Type} {enc : TypeId × Value → H} {w : World} {base : Nat} {spare : Nat → Bool} {held : Bool} {fuel : Nat} {a : Option Addr} {len cap : Nat} {x : DataW H × List MemPlace}
    (h : DataW.trod enc Try.prog w base spare held fuel 23 [.slice a len cap] = some x) : ∃ zs : List (Int × Int), zs.length = len ∧ RdS w a zs ∧ len ≤ cap ∧ cap ≤ maxLen := by
  rcases open_structs Try.underlying23 Try.underlying31 (by kernel_rfl) (by kernel_rfl) h with ⟨rfl, rfl, rfl⟩ | ⟨ad, rfl, hl, hm, hf⟩
  · exact ⟨[], rfl, fun h0 => by simp at h0, by omega, by simp [maxLen]⟩
  · refine ⟨(List.range len).map fun i => (intAt w (ad.add (i * 2)), intAt w (ad.add (i * 2 + 1))), by simp, fun h0 => ?_, hl, hm⟩
    have hlen : 0 < len := by simpa using h0
    have hsz : ∀ i, i < len → ∃ z0 z1, w.cell? (ad.add (i * 2)) = some (.int .i64 z0) ∧ w.cell? (ad.add (i * 2 + 1)) = some (.int .i64 z1) := by
      intro i hi
      obtain ⟨v0, y0, n0, c0, t0⟩ := hf i hi 0 _ rfl
      obtain ⟨v1, y1, n1, c1, t1⟩ := hf i hi 1 _ rfl
      obtain ⟨z0, e0, _⟩ := DataW.trod_int Try.underlying3 t0
      obtain ⟨z1, e1, _⟩ := DataW.trod_int Try.underlying3 t1
      simp at e0 e1
      subst e0 e1
      exact ⟨z0, z1, c0, c1⟩
    obtain ⟨z0, z1, c0, _⟩ := hsz 0 hlen
    rw [Nat.zero_mul] at c0
    obtain ⟨b, o, rfl⟩ := add_some c0
    refine ⟨b, o, rfl, fun j hj => ?_⟩
    obtain ⟨z0, z1, c0, c1⟩ := hsz j (by simpa using hj)
    rw [Addr.add_lit] at c0 c1
    simp [intAt, Addr.add_lit, c0, c1, Nat.add_assoc]

end Go.Proofs.Ytgmngkhjjimelaa
