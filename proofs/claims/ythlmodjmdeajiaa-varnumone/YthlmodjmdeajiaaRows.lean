/-
  No cell of these rows narrows 'for every input' (looked for: loops, veiled, ifaces, maps, wideKeys, modest, calm, conditions, laid).
  DERIVED. THE GIVEN ROWS OF THIS SEAT. 5 by the template 'for every input the law returns true; each argument reads behind the call as it read before'; 0 by the template 'total and deterministic' (their statements: YthlmodjmdeajiaaTotals.lean).
  GIVEN WITH THE SEED: the statements are not yours to turn. If you find one false, say at which input.
  Laid BY PROGRAM, IN A SANDBOX (cutbox-rows.mjs): the forced cells as the released guide's own fill.sh prints them over the translation c0a71278c8f47b8b… (all of the seat's roots in one cut). By AI agents, Wed Nov 11 2026. No macro, syntax, notation, axiom, sorry.
-/
import Derived.Test.YthlmodjmdeajiaaChecked
import GoSem.Claim
import GoSem.ClaimJoined
import GoSem.ClaimMapViews
import Derived.JoinedTies
import Derived.KernelRfl
namespace Go.Proofs.Ythlmodjmdeajiaa
/- THE CELL 'sum', in the pinned program and in every row, IS THE sha256 OF THE DUMP (.gsa) THAT YthlmodjmdeajiaaProg.lean LOADS. Nothing in Lean hashes anything: it is a label: what it is worth is what the hold of that sum in a sandbox is worth. -/
noncomputable def Try.pinned : Pinned := { name := "ythlmodjmdeajiaa", sum := "c0a71278c8f47b8b61bcec46760e46c01b5af866c533e9ffce40eeb448c3ff09", checked := Try.checked }
namespace Rows
def none {H : Type} : Left H := { results := [], args := [] }

/-- 'picklocklaw03.VarnumTakes': WHATEVER THE INPUT: true; the input reads as it did. -/
def varnumTakesSpec : ChangeSpec := { name := "varnumTakes", fn := fun _ => fun
  | [d1, d2] => { results := [.lit (.bool true)], args := [d1, d2] }
  | _ => none }
def varnumTakesRow : OpenClaim := { program := "ythlmodjmdeajiaa", sum := "c0a71278c8f47b8b61bcec46760e46c01b5af866c533e9ffce40eeb448c3ff09", func := "picklock/picklocklaw03.VarnumTakes", spec := "varnumTakes", unfollowed := true, recurses := true, apart := false }
def VarnumTakesSaid : Prop := varnumTakesRow.holds Try.pinned (OpenSpec.ofChange varnumTakesSpec)

/-- ITS FALSE NEIGHBOUR: 'it returns false'. Refute it at one input. -/
def varnumTakesWrong : ChangeSpec := { name := "varnumTakes", fn := fun _ => fun
  | [d1, d2] => { results := [.lit (.bool false)], args := [d1, d2] }
  | _ => none }
def VarnumTakesWrongFalsely : Prop := varnumTakesRow.holds Try.pinned (OpenSpec.ofChange varnumTakesWrong)

/-- 'picklocklaw03.VarnumPuts': WHATEVER THE INPUT: true; the input reads as it did. -/
def varnumPutsSpec : ChangeSpec := { name := "varnumPuts", fn := fun _ => fun
  | [d] => { results := [.lit (.bool true)], args := [d] }
  | _ => none }
def varnumPutsRow : OpenClaim := { program := "ythlmodjmdeajiaa", sum := "c0a71278c8f47b8b61bcec46760e46c01b5af866c533e9ffce40eeb448c3ff09", func := "picklock/picklocklaw03.VarnumPuts", spec := "varnumPuts", unfollowed := true, recurses := true, apart := false }
def VarnumPutsSaid : Prop := varnumPutsRow.holds Try.pinned (OpenSpec.ofChange varnumPutsSpec)

/-- ITS FALSE NEIGHBOUR: 'it returns false'. Refute it at one input. -/
def varnumPutsWrong : ChangeSpec := { name := "varnumPuts", fn := fun _ => fun
  | [d] => { results := [.lit (.bool false)], args := [d] }
  | _ => none }
def VarnumPutsWrongFalsely : Prop := varnumPutsRow.holds Try.pinned (OpenSpec.ofChange varnumPutsWrong)

/-- 'picklocklaw03.VarnumTurns': WHATEVER THE INPUT: true; the input reads as it did. -/
def varnumTurnsSpec : ChangeSpec := { name := "varnumTurns", fn := fun _ => fun
  | [d1, d2] => { results := [.lit (.bool true)], args := [d1, d2] }
  | _ => none }
def varnumTurnsRow : OpenClaim := { program := "ythlmodjmdeajiaa", sum := "c0a71278c8f47b8b61bcec46760e46c01b5af866c533e9ffce40eeb448c3ff09", func := "picklock/picklocklaw03.VarnumTurns", spec := "varnumTurns", unfollowed := true, recurses := true, apart := false }
def VarnumTurnsSaid : Prop := varnumTurnsRow.holds Try.pinned (OpenSpec.ofChange varnumTurnsSpec)

/-- ITS FALSE NEIGHBOUR: 'it returns false'. Refute it at one input. -/
def varnumTurnsWrong : ChangeSpec := { name := "varnumTurns", fn := fun _ => fun
  | [d1, d2] => { results := [.lit (.bool false)], args := [d1, d2] }
  | _ => none }
def VarnumTurnsWrongFalsely : Prop := varnumTurnsRow.holds Try.pinned (OpenSpec.ofChange varnumTurnsWrong)

/-- 'picklocklaw03.VarnumBack': WHATEVER THE INPUT: true; the input reads as it did. -/
def varnumBackSpec : ChangeSpec := { name := "varnumBack", fn := fun _ => fun
  | [d1, d2, d3] => { results := [.lit (.bool true)], args := [d1, d2, d3] }
  | _ => none }
def varnumBackRow : OpenClaim := { program := "ythlmodjmdeajiaa", sum := "c0a71278c8f47b8b61bcec46760e46c01b5af866c533e9ffce40eeb448c3ff09", func := "picklock/picklocklaw03.VarnumBack", spec := "varnumBack", unfollowed := true, recurses := true, apart := false }
def VarnumBackSaid : Prop := varnumBackRow.holds Try.pinned (OpenSpec.ofChange varnumBackSpec)

/-- ITS FALSE NEIGHBOUR: 'it returns false'. Refute it at one input. -/
def varnumBackWrong : ChangeSpec := { name := "varnumBack", fn := fun _ => fun
  | [d1, d2, d3] => { results := [.lit (.bool false)], args := [d1, d2, d3] }
  | _ => none }
def VarnumBackWrongFalsely : Prop := varnumBackRow.holds Try.pinned (OpenSpec.ofChange varnumBackWrong)

/-- 'picklocklaw03.VarnumOne': WHATEVER THE INPUT: true; the input reads as it did. -/
def varnumOneSpec : ChangeSpec := { name := "varnumOne", fn := fun _ => fun
  | [d1, d2] => { results := [.lit (.bool true)], args := [d1, d2] }
  | _ => none }
def varnumOneRow : OpenClaim := { program := "ythlmodjmdeajiaa", sum := "c0a71278c8f47b8b61bcec46760e46c01b5af866c533e9ffce40eeb448c3ff09", func := "picklock/picklocklaw03.VarnumOne", spec := "varnumOne", unfollowed := true, recurses := true, apart := false }
def VarnumOneSaid : Prop := varnumOneRow.holds Try.pinned (OpenSpec.ofChange varnumOneSpec)

/-- ITS FALSE NEIGHBOUR: 'it returns false'. Refute it at one input. -/
def varnumOneWrong : ChangeSpec := { name := "varnumOne", fn := fun _ => fun
  | [d1, d2] => { results := [.lit (.bool false)], args := [d1, d2] }
  | _ => none }
def VarnumOneWrongFalsely : Prop := varnumOneRow.holds Try.pinned (OpenSpec.ofChange varnumOneWrong)

/- THE SECOND FORM. 'bulk': how many values and letters a reading holds, each counted each time it is reached (what is shared counts as often as it is met; a slice's spare places count too). A statement '..UptoSaid' is the law's where the arguments, and the package variables that the reading takes, are together of bulk at most 1048576: NARROWER than '..Said'. Prove '..Said' where nothing that the law and all that it calls make is longer than what came in: it says more and counts as full. Else prove '..UptoSaid'. A law counts once. -/
mutual
def uptoBulk {H : Type} : DataW H → Nat
  | .lit (.string bytes) => bytes.length + 1
  | .lit _ => 1
  | .nil => 1
  | .ptr d => uptoBulk d + 1
  | .slice elems spare => uptoBulkAll elems + uptoBulkAll spare + 1
  | .agg parts => uptoBulkAll parts + 1
  | .iface _ d => uptoBulk d + 1
  | .map entries => uptoBulkEntries entries + 1
  | .held _ => 1
def uptoBulkAll {H : Type} : List (DataW H) → Nat
  | [] => 0
  | d :: r => uptoBulk d + uptoBulkAll r
def uptoBulkEntries {H : Type} : List (Lit × DataW H) → Nat
  | [] => 0
  | x :: r => uptoBulkEntry x + uptoBulkEntries r
def uptoBulkEntry {H : Type} : Lit × DataW H → Nat
  | (.string bytes, d) => bytes.length + uptoBulk d + 1
  | (_, d) => uptoBulk d + 1
 end
def uptoSmall : (H : Type) → List (DataW H) → Bool := fun _ ds => decide (uptoBulkAll ds ≤ 1048576)
def OpenSpec.upto (s : _root_.Go.ChangeSpec) : _root_.Go.OpenSpec := { _root_.Go.OpenSpec.ofChange s with cond := some uptoSmall }

/-- 'picklocklaw03.VarnumTakes', WHERE WHAT IT READS IS OF BULK AT MOST 1048576: true; the input reads as it did. -/
def varnumTakesUptoRow : OpenClaim := { program := "ythlmodjmdeajiaa", sum := "c0a71278c8f47b8b61bcec46760e46c01b5af866c533e9ffce40eeb448c3ff09", func := "picklock/picklocklaw03.VarnumTakes", spec := "varnumTakes", unfollowed := true, recurses := true, apart := false, narrowed := true }
def VarnumTakesUptoSaid : Prop := varnumTakesUptoRow.holds Try.pinned (OpenSpec.upto varnumTakesSpec)

/-- 'picklocklaw03.VarnumPuts', WHERE WHAT IT READS IS OF BULK AT MOST 1048576: true; the input reads as it did. -/
def varnumPutsUptoRow : OpenClaim := { program := "ythlmodjmdeajiaa", sum := "c0a71278c8f47b8b61bcec46760e46c01b5af866c533e9ffce40eeb448c3ff09", func := "picklock/picklocklaw03.VarnumPuts", spec := "varnumPuts", unfollowed := true, recurses := true, apart := false, narrowed := true }
def VarnumPutsUptoSaid : Prop := varnumPutsUptoRow.holds Try.pinned (OpenSpec.upto varnumPutsSpec)

/-- 'picklocklaw03.VarnumTurns', WHERE WHAT IT READS IS OF BULK AT MOST 1048576: true; the input reads as it did. -/
def varnumTurnsUptoRow : OpenClaim := { program := "ythlmodjmdeajiaa", sum := "c0a71278c8f47b8b61bcec46760e46c01b5af866c533e9ffce40eeb448c3ff09", func := "picklock/picklocklaw03.VarnumTurns", spec := "varnumTurns", unfollowed := true, recurses := true, apart := false, narrowed := true }
def VarnumTurnsUptoSaid : Prop := varnumTurnsUptoRow.holds Try.pinned (OpenSpec.upto varnumTurnsSpec)

/-- 'picklocklaw03.VarnumBack', WHERE WHAT IT READS IS OF BULK AT MOST 1048576: true; the input reads as it did. -/
def varnumBackUptoRow : OpenClaim := { program := "ythlmodjmdeajiaa", sum := "c0a71278c8f47b8b61bcec46760e46c01b5af866c533e9ffce40eeb448c3ff09", func := "picklock/picklocklaw03.VarnumBack", spec := "varnumBack", unfollowed := true, recurses := true, apart := false, narrowed := true }
def VarnumBackUptoSaid : Prop := varnumBackUptoRow.holds Try.pinned (OpenSpec.upto varnumBackSpec)

/-- 'picklocklaw03.VarnumOne', WHERE WHAT IT READS IS OF BULK AT MOST 1048576: true; the input reads as it did. -/
def varnumOneUptoRow : OpenClaim := { program := "ythlmodjmdeajiaa", sum := "c0a71278c8f47b8b61bcec46760e46c01b5af866c533e9ffce40eeb448c3ff09", func := "picklock/picklocklaw03.VarnumOne", spec := "varnumOne", unfollowed := true, recurses := true, apart := false, narrowed := true }
def VarnumOneUptoSaid : Prop := varnumOneUptoRow.holds Try.pinned (OpenSpec.upto varnumOneSpec)

end Rows
end Go.Proofs.Ythlmodjmdeajiaa
