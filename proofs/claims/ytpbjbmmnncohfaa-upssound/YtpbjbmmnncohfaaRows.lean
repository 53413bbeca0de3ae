/-
  No cell of these rows narrows 'for every input' (looked for: loops, veiled, ifaces, maps, wideKeys, modest, calm, conditions, laid).
  DERIVED. THE GIVEN ROWS OF THIS SEAT. 4 by the template 'for every input the law returns true; each argument reads behind the call as it read before'; 0 by the template 'total and deterministic' (their statements: YtpbjbmmnncohfaaTotals.lean).
  GIVEN WITH THE SEED: the statements are not yours to turn. If you find one false, say at which input.
  Laid BY PROGRAM, IN A SANDBOX (cutbox-rows.mjs): the forced cells as the released guide's own fill.sh prints them over the translation 573ca4ea2a94362f… (all of the seat's roots in one cut). By AI agents, Wed Nov 11 2026. No macro, syntax, notation, axiom, sorry.
-/
import Derived.Test.YtpbjbmmnncohfaaChecked
import GoSem.Claim
import GoSem.ClaimJoined
import GoSem.ClaimMapViews
import Derived.JoinedTies
import Derived.KernelRfl
namespace Go.Proofs.Ytpbjbmmnncohfaa
/- THE CELL 'sum', in the pinned program and in every row, IS THE sha256 OF THE DUMP (.gsa) THAT YtpbjbmmnncohfaaProg.lean LOADS. Nothing in Lean hashes anything: it is a label: what it is worth is what the hold of that sum in a sandbox is worth. -/
noncomputable def Try.pinned : Pinned := { name := "ytpbjbmmnncohfaa", sum := "573ca4ea2a94362f28b866f0fa2407f94c66f11e407342a7745153e6f35b4b3a", checked := Try.checked }
namespace Rows
def none {H : Type} : Left H := { results := [], args := [] }

/-- 'picklocklaw06.UpsCreates': WHATEVER THE INPUT: true; the input reads as it did. -/
def upsCreatesSpec : ChangeSpec := { name := "upsCreates", fn := fun _ => fun
  | [d1, d2] => { results := [.lit (.bool true)], args := [d1, d2] }
  | _ => none }
def upsCreatesRow : OpenClaim := { program := "ytpbjbmmnncohfaa", sum := "573ca4ea2a94362f28b866f0fa2407f94c66f11e407342a7745153e6f35b4b3a", func := "picklock/picklocklaw06.UpsCreates", spec := "upsCreates", inPlace := ["internal/bytealg.IndexByte"], unfollowed := true, recurses := true, apart := false }
def UpsCreatesSaid : Prop := upsCreatesRow.holds Try.pinned (OpenSpec.ofChange upsCreatesSpec)

/-- ITS FALSE NEIGHBOUR: 'it returns false'. Refute it at one input. -/
def upsCreatesWrong : ChangeSpec := { name := "upsCreates", fn := fun _ => fun
  | [d1, d2] => { results := [.lit (.bool false)], args := [d1, d2] }
  | _ => none }
def UpsCreatesWrongFalsely : Prop := upsCreatesRow.holds Try.pinned (OpenSpec.ofChange upsCreatesWrong)

/-- 'picklocklaw06.UpsBack': WHATEVER THE INPUT: true; the input reads as it did. -/
def upsBackSpec : ChangeSpec := { name := "upsBack", fn := fun _ => fun
  | [d1, d2] => { results := [.lit (.bool true)], args := [d1, d2] }
  | _ => none }
def upsBackRow : OpenClaim := { program := "ytpbjbmmnncohfaa", sum := "573ca4ea2a94362f28b866f0fa2407f94c66f11e407342a7745153e6f35b4b3a", func := "picklock/picklocklaw06.UpsBack", spec := "upsBack", inPlace := ["internal/bytealg.IndexByte"], unfollowed := true, recurses := true, apart := false }
def UpsBackSaid : Prop := upsBackRow.holds Try.pinned (OpenSpec.ofChange upsBackSpec)

/-- ITS FALSE NEIGHBOUR: 'it returns false'. Refute it at one input. -/
def upsBackWrong : ChangeSpec := { name := "upsBack", fn := fun _ => fun
  | [d1, d2] => { results := [.lit (.bool false)], args := [d1, d2] }
  | _ => none }
def UpsBackWrongFalsely : Prop := upsBackRow.holds Try.pinned (OpenSpec.ofChange upsBackWrong)

/-- 'picklocklaw06.UpsSound': WHATEVER THE INPUT: true; the input reads as it did. -/
def upsSoundSpec : ChangeSpec := { name := "upsSound", fn := fun _ => fun
  | [d1, d2, d3] => { results := [.lit (.bool true)], args := [d1, d2, d3] }
  | _ => none }
def upsSoundRow : OpenClaim := { program := "ytpbjbmmnncohfaa", sum := "573ca4ea2a94362f28b866f0fa2407f94c66f11e407342a7745153e6f35b4b3a", func := "picklock/picklocklaw06.UpsSound", spec := "upsSound", inPlace := ["internal/bytealg.IndexByte"], unfollowed := true, recurses := true, apart := false }
def UpsSoundSaid : Prop := upsSoundRow.holds Try.pinned (OpenSpec.ofChange upsSoundSpec)

/-- ITS FALSE NEIGHBOUR: 'it returns false'. Refute it at one input. -/
def upsSoundWrong : ChangeSpec := { name := "upsSound", fn := fun _ => fun
  | [d1, d2, d3] => { results := [.lit (.bool false)], args := [d1, d2, d3] }
  | _ => none }
def UpsSoundWrongFalsely : Prop := upsSoundRow.holds Try.pinned (OpenSpec.ofChange upsSoundWrong)

/-- 'picklocklaw06.UpsSpoilt': WHATEVER THE INPUT: true; the input reads as it did. -/
def upsSpoiltSpec : ChangeSpec := { name := "upsSpoilt", fn := fun _ => fun
  | [d1, d2, d3] => { results := [.lit (.bool true)], args := [d1, d2, d3] }
  | _ => none }
def upsSpoiltRow : OpenClaim := { program := "ytpbjbmmnncohfaa", sum := "573ca4ea2a94362f28b866f0fa2407f94c66f11e407342a7745153e6f35b4b3a", func := "picklock/picklocklaw06.UpsSpoilt", spec := "upsSpoilt", inPlace := ["internal/bytealg.IndexByte"], unfollowed := true, recurses := true, apart := false }
def UpsSpoiltSaid : Prop := upsSpoiltRow.holds Try.pinned (OpenSpec.ofChange upsSpoiltSpec)

/-- ITS FALSE NEIGHBOUR: 'it returns false'. Refute it at one input. -/
def upsSpoiltWrong : ChangeSpec := { name := "upsSpoilt", fn := fun _ => fun
  | [d1, d2, d3] => { results := [.lit (.bool false)], args := [d1, d2, d3] }
  | _ => none }
def UpsSpoiltWrongFalsely : Prop := upsSpoiltRow.holds Try.pinned (OpenSpec.ofChange upsSpoiltWrong)

/- THE SECOND FORM. 'bulk': how many values and letters a reading holds, each counted each time it is reached (what is shared counts as often as it is met; a slice's spare places count too). A statement '..UptoSaid' is the law's where the arguments, and the package variables that the reading takes, are together of bulk at most 1048576: NARROWER than '..Said'. Prove '..Said' where nothing that the law and all that it calls make is longer than what came in: it says more and counts as full. Else prove '..UptoSaid'. A law counts once. -/
mutual
def uptoBulk {H : Type} : DataW H → Nat
  | .lit (.string bytes) => bytes.length + 1
  | .lit _ => 1
  | .nil => 1
  | .ptr d => uptoBulk d + 1
  | .slice elems spare => uptoBulkAll elems + uptoBulkAll spare + 1
  | .agg parts => uptoBulkAll parts + 1
  | .iface _ d => uptoBulk d + 1
  | .map entries => uptoBulkEntries entries + 1
  | .held _ => 1
def uptoBulkAll {H : Type} : List (DataW H) → Nat
  | [] => 0
  | d :: r => uptoBulk d + uptoBulkAll r
def uptoBulkEntries {H : Type} : List (Lit × DataW H) → Nat
  | [] => 0
  | x :: r => uptoBulkEntry x + uptoBulkEntries r
def uptoBulkEntry {H : Type} : Lit × DataW H → Nat
  | (.string bytes, d) => bytes.length + uptoBulk d + 1
  | (_, d) => uptoBulk d + 1
 end
def uptoSmall : (H : Type) → List (DataW H) → Bool := fun _ ds => decide (uptoBulkAll ds ≤ 1048576)
def OpenSpec.upto (s : _root_.Go.ChangeSpec) : _root_.Go.OpenSpec := { _root_.Go.OpenSpec.ofChange s with cond := some uptoSmall }

/-- 'picklocklaw06.UpsCreates', WHERE WHAT IT READS IS OF BULK AT MOST 1048576: true; the input reads as it did. -/
def upsCreatesUptoRow : OpenClaim := { program := "ytpbjbmmnncohfaa", sum := "573ca4ea2a94362f28b866f0fa2407f94c66f11e407342a7745153e6f35b4b3a", func := "picklock/picklocklaw06.UpsCreates", spec := "upsCreates", inPlace := ["internal/bytealg.IndexByte"], unfollowed := true, recurses := true, apart := false, narrowed := true }
def UpsCreatesUptoSaid : Prop := upsCreatesUptoRow.holds Try.pinned (OpenSpec.upto upsCreatesSpec)

/-- 'picklocklaw06.UpsBack', WHERE WHAT IT READS IS OF BULK AT MOST 1048576: true; the input reads as it did. -/
def upsBackUptoRow : OpenClaim := { program := "ytpbjbmmnncohfaa", sum := "573ca4ea2a94362f28b866f0fa2407f94c66f11e407342a7745153e6f35b4b3a", func := "picklock/picklocklaw06.UpsBack", spec := "upsBack", inPlace := ["internal/bytealg.IndexByte"], unfollowed := true, recurses := true, apart := false, narrowed := true }
def UpsBackUptoSaid : Prop := upsBackUptoRow.holds Try.pinned (OpenSpec.upto upsBackSpec)

/-- 'picklocklaw06.UpsSound', WHERE WHAT IT READS IS OF BULK AT MOST 1048576: true; the input reads as it did. -/
def upsSoundUptoRow : OpenClaim := { program := "ytpbjbmmnncohfaa", sum := "573ca4ea2a94362f28b866f0fa2407f94c66f11e407342a7745153e6f35b4b3a", func := "picklock/picklocklaw06.UpsSound", spec := "upsSound", inPlace := ["internal/bytealg.IndexByte"], unfollowed := true, recurses := true, apart := false, narrowed := true }
def UpsSoundUptoSaid : Prop := upsSoundUptoRow.holds Try.pinned (OpenSpec.upto upsSoundSpec)

/-- 'picklocklaw06.UpsSpoilt', WHERE WHAT IT READS IS OF BULK AT MOST 1048576: true; the input reads as it did. -/
def upsSpoiltUptoRow : OpenClaim := { program := "ytpbjbmmnncohfaa", sum := "573ca4ea2a94362f28b866f0fa2407f94c66f11e407342a7745153e6f35b4b3a", func := "picklock/picklocklaw06.UpsSpoilt", spec := "upsSpoilt", inPlace := ["internal/bytealg.IndexByte"], unfollowed := true, recurses := true, apart := false, narrowed := true }
def UpsSpoiltUptoSaid : Prop := upsSpoiltUptoRow.holds Try.pinned (OpenSpec.upto upsSpoiltSpec)

end Rows
end Go.Proofs.Ytpbjbmmnncohfaa
