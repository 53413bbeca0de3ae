/-
  No cell of these rows narrows 'for every input' (looked for: loops, veiled, ifaces, maps, wideKeys, modest, calm, conditions, laid).
  DERIVED. THE GIVEN ROWS OF THIS SEAT. 4 by the template 'for every input the law returns true; each argument reads behind the call as it read before'; 0 by the template 'total and deterministic' (their statements: YthabiaenaicppaaTotals.lean).
  GIVEN WITH THE SEED: the statements are not yours to turn. If you find one false, say at which input.
  Laid BY PROGRAM, IN A SANDBOX (cutbox-rows.mjs): the forced cells as the released guide's own fill.sh prints them over the translation 22799147a13b6f21… (all of the seat's roots in one cut). By AI agents, Wed Nov 11 2026. No macro, syntax, notation, axiom, sorry.
-/
import Derived.Test.YthabiaenaicppaaChecked
import GoSem.Claim
import GoSem.ClaimJoined
import GoSem.ClaimMapViews
import Derived.JoinedTies
import Derived.KernelRfl
namespace Go.Proofs.Ythabiaenaicppaa
/- THE CELL 'sum', in the pinned program and in every row, IS THE sha256 OF THE DUMP (.gsa) THAT YthabiaenaicppaaProg.lean LOADS. Nothing in Lean hashes anything: it is a label: what it is worth is what the hold of that sum in a sandbox is worth. -/
noncomputable def Try.pinned : Pinned := { name := "ythabiaenaicppaa", sum := "22799147a13b6f21e1073bbb9ab7f8f276ad7c9dece7857e5f9515553c4aff1a", checked := Try.checked }
namespace Rows
def none {H : Type} : Left H := { results := [], args := [] }

/-- 'picklocklaw09.InesHeads': WHATEVER THE INPUT: true; the input reads as it did. -/
def inesHeadsSpec : ChangeSpec := { name := "inesHeads", fn := fun _ => fun
  | [d] => { results := [.lit (.bool true)], args := [d] }
  | _ => none }
def inesHeadsRow : OpenClaim := { program := "ythabiaenaicppaa", sum := "22799147a13b6f21e1073bbb9ab7f8f276ad7c9dece7857e5f9515553c4aff1a", func := "picklock/picklocklaw09.InesHeads", spec := "inesHeads", unfollowed := true, recurses := true, apart := false }
def InesHeadsSaid : Prop := inesHeadsRow.holds Try.pinned (OpenSpec.ofChange inesHeadsSpec)

/-- ITS FALSE NEIGHBOUR: 'it returns false'. Refute it at one input. -/
def inesHeadsWrong : ChangeSpec := { name := "inesHeads", fn := fun _ => fun
  | [d] => { results := [.lit (.bool false)], args := [d] }
  | _ => none }
def InesHeadsWrongFalsely : Prop := inesHeadsRow.holds Try.pinned (OpenSpec.ofChange inesHeadsWrong)

/-- 'picklocklaw09.InesRaw': WHATEVER THE INPUT: true; the input reads as it did. -/
def inesRawSpec : ChangeSpec := { name := "inesRaw", fn := fun _ => fun
  | [d1, d2] => { results := [.lit (.bool true)], args := [d1, d2] }
  | _ => none }
def inesRawRow : OpenClaim := { program := "ythabiaenaicppaa", sum := "22799147a13b6f21e1073bbb9ab7f8f276ad7c9dece7857e5f9515553c4aff1a", func := "picklock/picklocklaw09.InesRaw", spec := "inesRaw", unfollowed := true, recurses := true, apart := false }
def InesRawSaid : Prop := inesRawRow.holds Try.pinned (OpenSpec.ofChange inesRawSpec)

/-- ITS FALSE NEIGHBOUR: 'it returns false'. Refute it at one input. -/
def inesRawWrong : ChangeSpec := { name := "inesRaw", fn := fun _ => fun
  | [d1, d2] => { results := [.lit (.bool false)], args := [d1, d2] }
  | _ => none }
def InesRawWrongFalsely : Prop := inesRawRow.holds Try.pinned (OpenSpec.ofChange inesRawWrong)

/-- 'picklocklaw09.InesBuilds': WHATEVER THE INPUT: true; the input reads as it did. -/
def inesBuildsSpec : ChangeSpec := { name := "inesBuilds", fn := fun _ => fun
  | [d1, d2, d3] => { results := [.lit (.bool true)], args := [d1, d2, d3] }
  | _ => none }
def inesBuildsRow : OpenClaim := { program := "ythabiaenaicppaa", sum := "22799147a13b6f21e1073bbb9ab7f8f276ad7c9dece7857e5f9515553c4aff1a", func := "picklock/picklocklaw09.InesBuilds", spec := "inesBuilds", unfollowed := true, recurses := true, apart := false }
def InesBuildsSaid : Prop := inesBuildsRow.holds Try.pinned (OpenSpec.ofChange inesBuildsSpec)

/-- ITS FALSE NEIGHBOUR: 'it returns false'. Refute it at one input. -/
def inesBuildsWrong : ChangeSpec := { name := "inesBuilds", fn := fun _ => fun
  | [d1, d2, d3] => { results := [.lit (.bool false)], args := [d1, d2, d3] }
  | _ => none }
def InesBuildsWrongFalsely : Prop := inesBuildsRow.holds Try.pinned (OpenSpec.ofChange inesBuildsWrong)

/-- 'picklocklaw09.InesOwn': WHATEVER THE INPUT: true; the input reads as it did. -/
def inesOwnSpec : ChangeSpec := { name := "inesOwn", fn := fun _ => fun
  | [d] => { results := [.lit (.bool true)], args := [d] }
  | _ => none }
def inesOwnRow : OpenClaim := { program := "ythabiaenaicppaa", sum := "22799147a13b6f21e1073bbb9ab7f8f276ad7c9dece7857e5f9515553c4aff1a", func := "picklock/picklocklaw09.InesOwn", spec := "inesOwn", unfollowed := true, recurses := true, apart := false }
def InesOwnSaid : Prop := inesOwnRow.holds Try.pinned (OpenSpec.ofChange inesOwnSpec)

/-- ITS FALSE NEIGHBOUR: 'it returns false'. Refute it at one input. -/
def inesOwnWrong : ChangeSpec := { name := "inesOwn", fn := fun _ => fun
  | [d] => { results := [.lit (.bool false)], args := [d] }
  | _ => none }
def InesOwnWrongFalsely : Prop := inesOwnRow.holds Try.pinned (OpenSpec.ofChange inesOwnWrong)

/- THE SECOND FORM. 'bulk': how many values and letters a reading holds, each counted each time it is reached (what is shared counts as often as it is met; a slice's spare places count too). A statement '..UptoSaid' is the law's where the arguments, and the package variables that the reading takes, are together of bulk at most 1048576: NARROWER than '..Said'. Prove '..Said' where nothing that the law and all that it calls make is longer than what came in: it says more and counts as full. Else prove '..UptoSaid'. A law counts once. -/
mutual
def uptoBulk {H : Type} : DataW H → Nat
  | .lit (.string bytes) => bytes.length + 1
  | .lit _ => 1
  | .nil => 1
  | .ptr d => uptoBulk d + 1
  | .slice elems spare => uptoBulkAll elems + uptoBulkAll spare + 1
  | .agg parts => uptoBulkAll parts + 1
  | .iface _ d => uptoBulk d + 1
  | .map entries => uptoBulkEntries entries + 1
  | .held _ => 1
def uptoBulkAll {H : Type} : List (DataW H) → Nat
  | [] => 0
  | d :: r => uptoBulk d + uptoBulkAll r
def uptoBulkEntries {H : Type} : List (Lit × DataW H) → Nat
  | [] => 0
  | x :: r => uptoBulkEntry x + uptoBulkEntries r
def uptoBulkEntry {H : Type} : Lit × DataW H → Nat
  | (.string bytes, d) => bytes.length + uptoBulk d + 1
  | (_, d) => uptoBulk d + 1
 end
def uptoSmall : (H : Type) → List (DataW H) → Bool := fun _ ds => decide (uptoBulkAll ds ≤ 1048576)
def OpenSpec.upto (s : _root_.Go.ChangeSpec) : _root_.Go.OpenSpec := { _root_.Go.OpenSpec.ofChange s with cond := some uptoSmall }

/-- 'picklocklaw09.InesHeads', WHERE WHAT IT READS IS OF BULK AT MOST 1048576: true; the input reads as it did. -/
def inesHeadsUptoRow : OpenClaim := { program := "ythabiaenaicppaa", sum := "22799147a13b6f21e1073bbb9ab7f8f276ad7c9dece7857e5f9515553c4aff1a", func := "picklock/picklocklaw09.InesHeads", spec := "inesHeads", unfollowed := true, recurses := true, apart := false, narrowed := true }
def InesHeadsUptoSaid : Prop := inesHeadsUptoRow.holds Try.pinned (OpenSpec.upto inesHeadsSpec)

/-- 'picklocklaw09.InesRaw', WHERE WHAT IT READS IS OF BULK AT MOST 1048576: true; the input reads as it did. -/
def inesRawUptoRow : OpenClaim := { program := "ythabiaenaicppaa", sum := "22799147a13b6f21e1073bbb9ab7f8f276ad7c9dece7857e5f9515553c4aff1a", func := "picklock/picklocklaw09.InesRaw", spec := "inesRaw", unfollowed := true, recurses := true, apart := false, narrowed := true }
def InesRawUptoSaid : Prop := inesRawUptoRow.holds Try.pinned (OpenSpec.upto inesRawSpec)

/-- 'picklocklaw09.InesBuilds', WHERE WHAT IT READS IS OF BULK AT MOST 1048576: true; the input reads as it did. -/
def inesBuildsUptoRow : OpenClaim := { program := "ythabiaenaicppaa", sum := "22799147a13b6f21e1073bbb9ab7f8f276ad7c9dece7857e5f9515553c4aff1a", func := "picklock/picklocklaw09.InesBuilds", spec := "inesBuilds", unfollowed := true, recurses := true, apart := false, narrowed := true }
def InesBuildsUptoSaid : Prop := inesBuildsUptoRow.holds Try.pinned (OpenSpec.upto inesBuildsSpec)

/-- 'picklocklaw09.InesOwn', WHERE WHAT IT READS IS OF BULK AT MOST 1048576: true; the input reads as it did. -/
def inesOwnUptoRow : OpenClaim := { program := "ythabiaenaicppaa", sum := "22799147a13b6f21e1073bbb9ab7f8f276ad7c9dece7857e5f9515553c4aff1a", func := "picklock/picklocklaw09.InesOwn", spec := "inesOwn", unfollowed := true, recurses := true, apart := false, narrowed := true }
def InesOwnUptoSaid : Prop := inesOwnUptoRow.holds Try.pinned (OpenSpec.upto inesOwnSpec)

end Rows
end Go.Proofs.Ythabiaenaicppaa
