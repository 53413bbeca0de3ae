/-
  An argument that is an array of four bytes, opened to its bytes.
-/
import Derived.Test.YtcemljbocaadfaaApp
import Derived.Laws.IdiomArrays
import Derived.ChangeOld
import Derived.ProofKit
namespace Go.Proofs.Ytcemljbocaadfaa
open Go.ChangeShapes Go.WideShapes Go.ChangeAt Go.RowKit

theorem list4 {α : Type} (l : List α) (h : l.length = 4) : ∃ a b c d, l = [a, b, c, d] := by
  match l, h with
  | [a, b, c, d], _ => exact ⟨a, b, c, d, rfl⟩
theorem cells28 : Try.prog.cellsOf 28 = 4 := by kernel_rfl
theorem cells5 : Try.prog.cellsOf 5 = 1 := by kernel_rfl

theorem open_four {H : Type} {enc : TypeId × Value → H} {W : World} {base b0 : Nat} {spare : Nat → Bool} {held : Bool} {v : Value} {d : DataW H} {p : List MemPlace}
    (hv : Value.okWide Try.prog W .any b0 28 v) (h : DataW.Trod enc Try.prog W base spare held 28 v d p) :
    ∃ x0 x1 x2 x3 : UInt8, v = .agg #[.int .u8 (x0.toNat : Int), .int .u8 (x1.toNat : Int), .int .u8 (x2.toNat : Int), .int .u8 (x3.toNat : Int)] := by
  obtain ⟨cs, rfl, hsz, _⟩ : ∃ cs, v = .agg cs ∧ cs.size = Try.prog.cellsOf 28 ∧ Row.okWide Try.prog W .any b0 28 cs := by
    simpa [Value.okWide, Try.underlying28] using hv
  rw [cells28] at hsz
  obtain ⟨l⟩ := cs
  obtain ⟨c0, c1, c2, c3, rfl⟩ := list4 l hsz
  obtain ⟨fuel, hf⟩ := h
  obtain ⟨y0, y1, y2, y3, m, hx, hy0, hy1, hy2, hy3⟩ := trod_array4 Try.underlying28 cells5 hf
  obtain ⟨z0, e0, _, w0⟩ := DataW.trod_int Try.underlying5 hy0
  obtain ⟨z1, e1, _, w1⟩ := DataW.trod_int Try.underlying5 hy1
  obtain ⟨z2, e2, _, w2⟩ := DataW.trod_int Try.underlying5 hy2
  obtain ⟨z3, e3, _, w3⟩ := DataW.trod_int Try.underlying5 hy3
  simp at e0 e1 e2 e3
  subst e0 e1 e2 e3
  obtain ⟨x0, rfl⟩ := byte_of w0
  obtain ⟨x1, rfl⟩ := byte_of w1
  obtain ⟨x2, rfl⟩ := byte_of w2
  obtain ⟨x3, rfl⟩ := byte_of w3
  exact ⟨x0, x1, x2, x3, rfl⟩

end Go.Proofs.Ytcemljbocaadfaa
