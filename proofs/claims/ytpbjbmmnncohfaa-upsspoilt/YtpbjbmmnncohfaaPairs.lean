/-
  An argument that is an array of two integers, opened to its numbers; a number of 32 bits as a register.
-/
import Derived.Test.YtpbjbmmnncohfaaApp
import Derived.Test.YtpbjbmmnncohfaaCrcSpell
import Derived.ChangeOld
import Derived.ProofKit
import Derived.OpenShut
namespace Go.Proofs.Ytpbjbmmnncohfaa
open Go.ChangeShapes Go.WideShapes Go.ChangeAt Go.RowKit

theorem list2 {α : Type} (l : List α) (h : l.length = 2) : ∃ a b, l = [a, b] := by
  match l, h with
  | [a, b], _ => exact ⟨a, b, rfl⟩
theorem cells2i : Try.prog.cellsOf 32 = 2 := by kernel_rfl
theorem cells1i : Try.prog.cellsOf 3 = 1 := by kernel_rfl

theorem open_two {H : Type} {enc : TypeId × Value → H} {W : World} {base b0 : Nat} {spare : Nat → Bool} {held : Bool} {v : Value} {d : DataW H} {p : List MemPlace}
    (hv : Value.okWide Try.prog W .any b0 32 v) (h : DataW.Trod enc Try.prog W base spare held 32 v d p) :
    ∃ z0 z1 : Int, v = .agg #[.int .i64 z0, .int .i64 z1] := by
  obtain ⟨cs, rfl, hsz, _⟩ : ∃ cs, v = .agg cs ∧ cs.size = Try.prog.cellsOf 32 ∧ Row.okWide Try.prog W .any b0 32 cs := by
    simpa [Value.okWide, Try.underlying32] using hv
  rw [cells2i] at hsz
  obtain ⟨l⟩ := cs
  obtain ⟨c0, c1, rfl⟩ := list2 l hsz
  obtain ⟨fuel, hf⟩ := h
  obtain ⟨xs, m, -, -, -, hl, hx⟩ := DataW.trod_array Try.underlying32 hf
  obtain ⟨y0, y1, rfl⟩ := list2 xs hl
  have h0 := hx 0 (by decide)
  have h1 := hx 1 (by decide)
  rw [cells1i] at h0 h1
  obtain ⟨z0, e0, -⟩ := DataW.trod_int Try.underlying3 h0
  obtain ⟨z1, e1, -⟩ := DataW.trod_int Try.underlying3 h1
  simp [Value.cells] at e0 e1
  exact ⟨z0, z1, by rw [e0, e1]⟩

theorem u32_of {n : Int} (h : (Lit.int .u32 n).wf = true) : ∃ r : BitVec 32, n = Crc.u r := by
  have := bounds_u32 h
  exact Crc.u_of this.1 (by omega)

end Go.Proofs.Ytpbjbmmnncohfaa
