/-
  A slice of bytes that came in, opened to its cells: of no function of the program.
-/
import Derived.Test.YtlnpadekgakghaaDoorApp
import Derived.Deep.Slices
import Derived.Deep.Fields
import Derived.ChangeSame
import Derived.OpenShut
namespace Go.Proofs.YtlnpadekgakghaaDoor
open Go.RowKit Go.Deep Go.WideShapes Go.ChangeShapes
namespace Rb

section
variable {H : Type} {enc : TypeId × Value → H} {w : World} {base : Nat} {spare : Nat → Bool} {held : Bool}
theorem row_bytes {fuel : Nat} {v : Value} {x : DataW H × List MemPlace} (h : DataW.trod enc Tryd.prog w base (fun _ => true) held fuel 38 [v] = some x) : ∃ A l c, v = .slice A l.length c ∧ Rd w A l ∧ (A = none → c = 0) ∧ l.length ≤ c ∧ c ≤ maxLen := by
  have hrow : ∃ A n c zs, v = .slice A n c ∧ ((A = none ∧ n = 0 ∧ c = 0 ∧ zs = []) ∨ ∃ x, A = some x ∧ n ≤ c ∧ c ≤ maxLen ∧ zs.length = c ∧ (∀ i, i < zs.length → w.cell? (x.add i) = some (.int .u8 (zs.getD i 0))) ∧ ∀ n ∈ zs, (Lit.int .u8 n).wf = true) := by
    rcases open_ints Tryd.underlying38 Tryd.underlying5 (by kernel_rfl) h with ⟨hcs, _⟩ | ⟨x, l, c, zs, hcs, _, hl, hm, hz, _, hcell, hwz⟩
    · simp at hcs
      exact ⟨none, 0, 0, [], hcs, .inl ⟨rfl, rfl, rfl, rfl⟩⟩
    · simp at hcs
      exact ⟨some x, l, c, zs, hcs, .inr ⟨x, rfl, hl, hm, by simpa using hz, hcell, hwz⟩⟩
  obtain ⟨A, n, c, zs, rfl, h1⟩ := hrow
  obtain ⟨l, rfl, h2, h3, h4, h5⟩ := row_u8 h1
  exact ⟨A, l, c, rfl, h2, h3, h4, h5⟩

theorem cells1b : Tryd.prog.cellsOf 5 = 1 := by kernel_rfl

/-- A byte among the cells. -/
theorem one_byte {fuel : Nat} {cs : List Value} {x : DataW H × List MemPlace} (h : DataW.trod enc Tryd.prog w base spare held fuel 5 cs = some x) : ∃ y : UInt8, cs = [.int .u8 (y.toNat : Int)] := by
  obtain ⟨z, e, -, hw⟩ := DataW.trod_int Tryd.underlying5 h
  obtain ⟨y, rfl⟩ := byte_of hw
  exact ⟨y, e⟩
end

end Rb
end Go.Proofs.YtlnpadekgakghaaDoor
