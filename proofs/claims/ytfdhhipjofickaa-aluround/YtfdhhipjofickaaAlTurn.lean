/-
  Nine shifts to the left bring all back: of no program. No condition.
-/
import Derived.Test.YtfdhhipjofickaaAlMath
namespace Go.Proofs.Ytfdhhipjofickaa
open Go.RowKit
namespace Al

/-- n times to the left, with the carry that went out. -/
def turns : Nat → Int × Bool → Int × Bool
  | 0, x => x
  | n + 1, x => (leftR (turns n x).1 (turns n x).2, leftC (turns n x).1)
theorem turns_byte (n : Nat) (v : Int) (c : Bool) (hv : byte v) : byte (turns n (v, c)).1 := by
  cases n with
  | zero => exact hv
  | succ n => exact leftR_byte _ _
set_option maxRecDepth 100000 in
theorem turns9 : ∀ v, byte v → turns 9 (v, false) = (v, false) ∧ turns 9 (v, true) = (v, true) := of_byte _ (by decide +kernel)
theorem turns_nine (v : Int) (c : Bool) (hv : byte v) : turns 9 (v, c) = (v, c) := by
  cases c
  · exact (turns9 v hv).1
  · exact (turns9 v hv).2

end Al
end Go.Proofs.Ytfdhhipjofickaa
