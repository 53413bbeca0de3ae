/-
  No cell of these rows narrows 'for every input' (looked for: loops, veiled, ifaces, maps, wideKeys, modest, calm, conditions, laid).
  DERIVED. THE GIVEN ROWS OF THIS SEAT. 5 by the template 'for every input the law returns true; each argument reads behind the call as it read before'; 0 by the template 'total and deterministic' (their statements: YtfdhhipjofickaaTotals.lean).
  GIVEN WITH THE SEED: the statements are not yours to turn. If you find one false, say at which input.
  Laid BY PROGRAM, IN A SANDBOX (cutbox-rows.mjs): the forced cells as the released guide's own fill.sh prints them over the translation f037f079e4075d8f… (all of the seat's roots in one cut). By AI agents, Wed Nov 11 2026. No macro, syntax, notation, axiom, sorry.
-/
import Derived.Test.YtfdhhipjofickaaChecked
import GoSem.Claim
import GoSem.ClaimJoined
import GoSem.ClaimMapViews
import Derived.JoinedTies
import Derived.KernelRfl
namespace Go.Proofs.Ytfdhhipjofickaa
/- THE CELL 'sum', in the pinned program and in every row, IS THE sha256 OF THE DUMP (.gsa) THAT YtfdhhipjofickaaProg.lean LOADS. Nothing in Lean hashes anything: it is a label: what it is worth is what the hold of that sum in a sandbox is worth. -/
noncomputable def Try.pinned : Pinned := { name := "ytfdhhipjofickaa", sum := "f037f079e4075d8fb3098ce96fb8d2ccab71495dd6d0be8e1df38c0bc36d4358", checked := Try.checked }
namespace Rows
def none {H : Type} : Left H := { results := [], args := [] }

/-- 'picklocklaw13.AluSums': WHATEVER THE INPUT: true; the input reads as it did. -/
def aluSumsSpec : ChangeSpec := { name := "aluSums", fn := fun _ => fun
  | [d1, d2, d3] => { results := [.lit (.bool true)], args := [d1, d2, d3] }
  | _ => none }
def aluSumsRow : OpenClaim := { program := "ytfdhhipjofickaa", sum := "f037f079e4075d8fb3098ce96fb8d2ccab71495dd6d0be8e1df38c0bc36d4358", func := "picklock/picklocklaw13.AluSums", spec := "aluSums", apart := false }
def AluSumsSaid : Prop := aluSumsRow.holds Try.pinned (OpenSpec.ofChange aluSumsSpec)

/-- ITS FALSE NEIGHBOUR: 'it returns false'. Refute it at one input. -/
def aluSumsWrong : ChangeSpec := { name := "aluSums", fn := fun _ => fun
  | [d1, d2, d3] => { results := [.lit (.bool false)], args := [d1, d2, d3] }
  | _ => none }
def AluSumsWrongFalsely : Prop := aluSumsRow.holds Try.pinned (OpenSpec.ofChange aluSumsWrong)

/-- 'picklocklaw13.AluTests': WHATEVER THE INPUT: true; the input reads as it did. -/
def aluTestsSpec : ChangeSpec := { name := "aluTests", fn := fun _ => fun
  | [d1, d2] => { results := [.lit (.bool true)], args := [d1, d2] }
  | _ => none }
def aluTestsRow : OpenClaim := { program := "ytfdhhipjofickaa", sum := "f037f079e4075d8fb3098ce96fb8d2ccab71495dd6d0be8e1df38c0bc36d4358", func := "picklock/picklocklaw13.AluTests", spec := "aluTests", apart := false }
def AluTestsSaid : Prop := aluTestsRow.holds Try.pinned (OpenSpec.ofChange aluTestsSpec)

/-- ITS FALSE NEIGHBOUR: 'it returns false'. Refute it at one input. -/
def aluTestsWrong : ChangeSpec := { name := "aluTests", fn := fun _ => fun
  | [d1, d2] => { results := [.lit (.bool false)], args := [d1, d2] }
  | _ => none }
def AluTestsWrongFalsely : Prop := aluTestsRow.holds Try.pinned (OpenSpec.ofChange aluTestsWrong)

/-- 'picklocklaw13.AluShifts': WHATEVER THE INPUT: true; the input reads as it did. -/
def aluShiftsSpec : ChangeSpec := { name := "aluShifts", fn := fun _ => fun
  | [d1, d2] => { results := [.lit (.bool true)], args := [d1, d2] }
  | _ => none }
def aluShiftsRow : OpenClaim := { program := "ytfdhhipjofickaa", sum := "f037f079e4075d8fb3098ce96fb8d2ccab71495dd6d0be8e1df38c0bc36d4358", func := "picklock/picklocklaw13.AluShifts", spec := "aluShifts", apart := false }
def AluShiftsSaid : Prop := aluShiftsRow.holds Try.pinned (OpenSpec.ofChange aluShiftsSpec)

/-- ITS FALSE NEIGHBOUR: 'it returns false'. Refute it at one input. -/
def aluShiftsWrong : ChangeSpec := { name := "aluShifts", fn := fun _ => fun
  | [d1, d2] => { results := [.lit (.bool false)], args := [d1, d2] }
  | _ => none }
def AluShiftsWrongFalsely : Prop := aluShiftsRow.holds Try.pinned (OpenSpec.ofChange aluShiftsWrong)

/-- 'picklocklaw13.AluTurned': WHATEVER THE INPUT: true; the input reads as it did. -/
def aluTurnedSpec : ChangeSpec := { name := "aluTurned", fn := fun _ => fun
  | [d1, d2, d3] => { results := [.lit (.bool true)], args := [d1, d2, d3] }
  | _ => none }
def aluTurnedRow : OpenClaim := { program := "ytfdhhipjofickaa", sum := "f037f079e4075d8fb3098ce96fb8d2ccab71495dd6d0be8e1df38c0bc36d4358", func := "picklock/picklocklaw13.AluTurned", spec := "aluTurned", apart := false }
def AluTurnedSaid : Prop := aluTurnedRow.holds Try.pinned (OpenSpec.ofChange aluTurnedSpec)

/-- ITS FALSE NEIGHBOUR: 'it returns false'. Refute it at one input. -/
def aluTurnedWrong : ChangeSpec := { name := "aluTurned", fn := fun _ => fun
  | [d1, d2, d3] => { results := [.lit (.bool false)], args := [d1, d2, d3] }
  | _ => none }
def AluTurnedWrongFalsely : Prop := aluTurnedRow.holds Try.pinned (OpenSpec.ofChange aluTurnedWrong)

/-- 'picklocklaw13.AluRound': WHATEVER THE INPUT: true; the input reads as it did. -/
def aluRoundSpec : ChangeSpec := { name := "aluRound", fn := fun _ => fun
  | [d1, d2] => { results := [.lit (.bool true)], args := [d1, d2] }
  | _ => none }
def aluRoundRow : OpenClaim := { program := "ytfdhhipjofickaa", sum := "f037f079e4075d8fb3098ce96fb8d2ccab71495dd6d0be8e1df38c0bc36d4358", func := "picklock/picklocklaw13.AluRound", spec := "aluRound", apart := false }
def AluRoundSaid : Prop := aluRoundRow.holds Try.pinned (OpenSpec.ofChange aluRoundSpec)

/-- ITS FALSE NEIGHBOUR: 'it returns false'. Refute it at one input. -/
def aluRoundWrong : ChangeSpec := { name := "aluRound", fn := fun _ => fun
  | [d1, d2] => { results := [.lit (.bool false)], args := [d1, d2] }
  | _ => none }
def AluRoundWrongFalsely : Prop := aluRoundRow.holds Try.pinned (OpenSpec.ofChange aluRoundWrong)

/- THE SECOND FORM. 'bulk': how many values and letters a reading holds, each counted each time it is reached (what is shared counts as often as it is met; a slice's spare places count too). A statement '..UptoSaid' is the law's where the arguments, and the package variables that the reading takes, are together of bulk at most 1048576: NARROWER than '..Said'. Prove '..Said' where nothing that the law and all that it calls make is longer than what came in: it says more and counts as full. Else prove '..UptoSaid'. A law counts once. -/
mutual
def uptoBulk {H : Type} : DataW H → Nat
  | .lit (.string bytes) => bytes.length + 1
  | .lit _ => 1
  | .nil => 1
  | .ptr d => uptoBulk d + 1
  | .slice elems spare => uptoBulkAll elems + uptoBulkAll spare + 1
  | .agg parts => uptoBulkAll parts + 1
  | .iface _ d => uptoBulk d + 1
  | .map entries => uptoBulkEntries entries + 1
  | .held _ => 1
def uptoBulkAll {H : Type} : List (DataW H) → Nat
  | [] => 0
  | d :: r => uptoBulk d + uptoBulkAll r
def uptoBulkEntries {H : Type} : List (Lit × DataW H) → Nat
  | [] => 0
  | x :: r => uptoBulkEntry x + uptoBulkEntries r
def uptoBulkEntry {H : Type} : Lit × DataW H → Nat
  | (.string bytes, d) => bytes.length + uptoBulk d + 1
  | (_, d) => uptoBulk d + 1
 end
def uptoSmall : (H : Type) → List (DataW H) → Bool := fun _ ds => decide (uptoBulkAll ds ≤ 1048576)
def OpenSpec.upto (s : _root_.Go.ChangeSpec) : _root_.Go.OpenSpec := { _root_.Go.OpenSpec.ofChange s with cond := some uptoSmall }

/-- 'picklocklaw13.AluSums', WHERE WHAT IT READS IS OF BULK AT MOST 1048576: true; the input reads as it did. -/
def aluSumsUptoRow : OpenClaim := { program := "ytfdhhipjofickaa", sum := "f037f079e4075d8fb3098ce96fb8d2ccab71495dd6d0be8e1df38c0bc36d4358", func := "picklock/picklocklaw13.AluSums", spec := "aluSums", apart := false, narrowed := true }
def AluSumsUptoSaid : Prop := aluSumsUptoRow.holds Try.pinned (OpenSpec.upto aluSumsSpec)

/-- 'picklocklaw13.AluTests', WHERE WHAT IT READS IS OF BULK AT MOST 1048576: true; the input reads as it did. -/
def aluTestsUptoRow : OpenClaim := { program := "ytfdhhipjofickaa", sum := "f037f079e4075d8fb3098ce96fb8d2ccab71495dd6d0be8e1df38c0bc36d4358", func := "picklock/picklocklaw13.AluTests", spec := "aluTests", apart := false, narrowed := true }
def AluTestsUptoSaid : Prop := aluTestsUptoRow.holds Try.pinned (OpenSpec.upto aluTestsSpec)

/-- 'picklocklaw13.AluShifts', WHERE WHAT IT READS IS OF BULK AT MOST 1048576: true; the input reads as it did. -/
def aluShiftsUptoRow : OpenClaim := { program := "ytfdhhipjofickaa", sum := "f037f079e4075d8fb3098ce96fb8d2ccab71495dd6d0be8e1df38c0bc36d4358", func := "picklock/picklocklaw13.AluShifts", spec := "aluShifts", apart := false, narrowed := true }
def AluShiftsUptoSaid : Prop := aluShiftsUptoRow.holds Try.pinned (OpenSpec.upto aluShiftsSpec)

/-- 'picklocklaw13.AluTurned', WHERE WHAT IT READS IS OF BULK AT MOST 1048576: true; the input reads as it did. -/
def aluTurnedUptoRow : OpenClaim := { program := "ytfdhhipjofickaa", sum := "f037f079e4075d8fb3098ce96fb8d2ccab71495dd6d0be8e1df38c0bc36d4358", func := "picklock/picklocklaw13.AluTurned", spec := "aluTurned", apart := false, narrowed := true }
def AluTurnedUptoSaid : Prop := aluTurnedUptoRow.holds Try.pinned (OpenSpec.upto aluTurnedSpec)

/-- 'picklocklaw13.AluRound', WHERE WHAT IT READS IS OF BULK AT MOST 1048576: true; the input reads as it did. -/
def aluRoundUptoRow : OpenClaim := { program := "ytfdhhipjofickaa", sum := "f037f079e4075d8fb3098ce96fb8d2ccab71495dd6d0be8e1df38c0bc36d4358", func := "picklock/picklocklaw13.AluRound", spec := "aluRound", apart := false, narrowed := true }
def AluRoundUptoSaid : Prop := aluRoundUptoRow.holds Try.pinned (OpenSpec.upto aluRoundSpec)

end Rows
end Go.Proofs.Ytfdhhipjofickaa
