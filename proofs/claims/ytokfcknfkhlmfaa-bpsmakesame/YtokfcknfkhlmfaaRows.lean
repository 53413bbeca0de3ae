/-
  No cell of these rows narrows 'for every input' (looked for: loops, veiled, ifaces, maps, wideKeys, modest, calm, conditions, laid).
  DERIVED. THE GIVEN ROWS OF THIS SEAT. 4 by the template 'for every input the law returns true; each argument reads behind the call as it read before'; 0 by the template 'total and deterministic' (their statements: YtokfcknfkhlmfaaTotals.lean).
  GIVEN WITH THE SEED: the statements are not yours to turn. If you find one false, say at which input.
  Laid BY PROGRAM, IN A SANDBOX (cutbox-rows.mjs): the forced cells as the released guide's own fill.sh prints them over the translation 518eed8259b57a1d… (all of the seat's roots in one cut). By AI agents, Wed Nov 11 2026. No macro, syntax, notation, axiom, sorry.
-/
import Derived.Test.YtokfcknfkhlmfaaChecked
import GoSem.Claim
import GoSem.ClaimJoined
import GoSem.ClaimMapViews
import Derived.JoinedTies
import Derived.KernelRfl
namespace Go.Proofs.Ytokfcknfkhlmfaa
/- THE CELL 'sum', in the pinned program and in every row, IS THE sha256 OF THE DUMP (.gsa) THAT YtokfcknfkhlmfaaProg.lean LOADS. Nothing in Lean hashes anything: it is a label: what it is worth is what the hold of that sum in a sandbox is worth. -/
noncomputable def Try.pinned : Pinned := { name := "ytokfcknfkhlmfaa", sum := "518eed8259b57a1d4c018d9413ca6ad0a3dcbf949c848dfe77a38a02cd95e325", checked := Try.checked }
namespace Rows
def none {H : Type} : Left H := { results := [], args := [] }

/-- 'picklocklaw08.BpsmakeApplies': WHATEVER THE INPUT: true; the input reads as it did. -/
def bpsmakeAppliesSpec : ChangeSpec := { name := "bpsmakeApplies", fn := fun _ => fun
  | [d1, d2, d3] => { results := [.lit (.bool true)], args := [d1, d2, d3] }
  | _ => none }
def bpsmakeAppliesRow : OpenClaim := { program := "ytokfcknfkhlmfaa", sum := "518eed8259b57a1d4c018d9413ca6ad0a3dcbf949c848dfe77a38a02cd95e325", func := "picklock/picklocklaw08.BpsmakeApplies", spec := "bpsmakeApplies", unfollowed := true, recurses := true, plainKeys := false, apart := false }
def BpsmakeAppliesSaid : Prop := bpsmakeAppliesRow.holds Try.pinned (OpenSpec.ofChange bpsmakeAppliesSpec)

/-- ITS FALSE NEIGHBOUR: 'it returns false'. Refute it at one input. -/
def bpsmakeAppliesWrong : ChangeSpec := { name := "bpsmakeApplies", fn := fun _ => fun
  | [d1, d2, d3] => { results := [.lit (.bool false)], args := [d1, d2, d3] }
  | _ => none }
def BpsmakeAppliesWrongFalsely : Prop := bpsmakeAppliesRow.holds Try.pinned (OpenSpec.ofChange bpsmakeAppliesWrong)

/-- 'picklocklaw08.BpsmakeSmall': WHATEVER THE INPUT: true; the input reads as it did. -/
def bpsmakeSmallSpec : ChangeSpec := { name := "bpsmakeSmall", fn := fun _ => fun
  | [d1, d2, d3] => { results := [.lit (.bool true)], args := [d1, d2, d3] }
  | _ => none }
def bpsmakeSmallRow : OpenClaim := { program := "ytokfcknfkhlmfaa", sum := "518eed8259b57a1d4c018d9413ca6ad0a3dcbf949c848dfe77a38a02cd95e325", func := "picklock/picklocklaw08.BpsmakeSmall", spec := "bpsmakeSmall", unfollowed := true, recurses := true, plainKeys := false, apart := false }
def BpsmakeSmallSaid : Prop := bpsmakeSmallRow.holds Try.pinned (OpenSpec.ofChange bpsmakeSmallSpec)

/-- ITS FALSE NEIGHBOUR: 'it returns false'. Refute it at one input. -/
def bpsmakeSmallWrong : ChangeSpec := { name := "bpsmakeSmall", fn := fun _ => fun
  | [d1, d2, d3] => { results := [.lit (.bool false)], args := [d1, d2, d3] }
  | _ => none }
def BpsmakeSmallWrongFalsely : Prop := bpsmakeSmallRow.holds Try.pinned (OpenSpec.ofChange bpsmakeSmallWrong)

/-- 'picklocklaw08.BpsmakeSame': WHATEVER THE INPUT: true; the input reads as it did. -/
def bpsmakeSameSpec : ChangeSpec := { name := "bpsmakeSame", fn := fun _ => fun
  | [d] => { results := [.lit (.bool true)], args := [d] }
  | _ => none }
def bpsmakeSameRow : OpenClaim := { program := "ytokfcknfkhlmfaa", sum := "518eed8259b57a1d4c018d9413ca6ad0a3dcbf949c848dfe77a38a02cd95e325", func := "picklock/picklocklaw08.BpsmakeSame", spec := "bpsmakeSame", unfollowed := true, recurses := true, plainKeys := false, apart := false }
def BpsmakeSameSaid : Prop := bpsmakeSameRow.holds Try.pinned (OpenSpec.ofChange bpsmakeSameSpec)

/-- ITS FALSE NEIGHBOUR: 'it returns false'. Refute it at one input. -/
def bpsmakeSameWrong : ChangeSpec := { name := "bpsmakeSame", fn := fun _ => fun
  | [d] => { results := [.lit (.bool false)], args := [d] }
  | _ => none }
def BpsmakeSameWrongFalsely : Prop := bpsmakeSameRow.holds Try.pinned (OpenSpec.ofChange bpsmakeSameWrong)

/-- 'picklocklaw08.BpsmakeMoved': WHATEVER THE INPUT: true; the input reads as it did. -/
def bpsmakeMovedSpec : ChangeSpec := { name := "bpsmakeMoved", fn := fun _ => fun
  | [d1, d2] => { results := [.lit (.bool true)], args := [d1, d2] }
  | _ => none }
def bpsmakeMovedRow : OpenClaim := { program := "ytokfcknfkhlmfaa", sum := "518eed8259b57a1d4c018d9413ca6ad0a3dcbf949c848dfe77a38a02cd95e325", func := "picklock/picklocklaw08.BpsmakeMoved", spec := "bpsmakeMoved", unfollowed := true, recurses := true, plainKeys := false, apart := false }
def BpsmakeMovedSaid : Prop := bpsmakeMovedRow.holds Try.pinned (OpenSpec.ofChange bpsmakeMovedSpec)

/-- ITS FALSE NEIGHBOUR: 'it returns false'. Refute it at one input. -/
def bpsmakeMovedWrong : ChangeSpec := { name := "bpsmakeMoved", fn := fun _ => fun
  | [d1, d2] => { results := [.lit (.bool false)], args := [d1, d2] }
  | _ => none }
def BpsmakeMovedWrongFalsely : Prop := bpsmakeMovedRow.holds Try.pinned (OpenSpec.ofChange bpsmakeMovedWrong)

/- THE SECOND FORM. 'bulk': how many values and letters a reading holds, each counted each time it is reached (what is shared counts as often as it is met; a slice's spare places count too). A statement '..UptoSaid' is the law's where the arguments, and the package variables that the reading takes, are together of bulk at most 1048576: NARROWER than '..Said'. Prove '..Said' where nothing that the law and all that it calls make is longer than what came in: it says more and counts as full. Else prove '..UptoSaid'. A law counts once. -/
mutual
def uptoBulk {H : Type} : DataW H → Nat
  | .lit (.string bytes) => bytes.length + 1
  | .lit _ => 1
  | .nil => 1
  | .ptr d => uptoBulk d + 1
  | .slice elems spare => uptoBulkAll elems + uptoBulkAll spare + 1
  | .agg parts => uptoBulkAll parts + 1
  | .iface _ d => uptoBulk d + 1
  | .map entries => uptoBulkEntries entries + 1
  | .held _ => 1
def uptoBulkAll {H : Type} : List (DataW H) → Nat
  | [] => 0
  | d :: r => uptoBulk d + uptoBulkAll r
def uptoBulkEntries {H : Type} : List (Lit × DataW H) → Nat
  | [] => 0
  | x :: r => uptoBulkEntry x + uptoBulkEntries r
def uptoBulkEntry {H : Type} : Lit × DataW H → Nat
  | (.string bytes, d) => bytes.length + uptoBulk d + 1
  | (_, d) => uptoBulk d + 1
 end
def uptoSmall : (H : Type) → List (DataW H) → Bool := fun _ ds => decide (uptoBulkAll ds ≤ 1048576)
def OpenSpec.upto (s : _root_.Go.ChangeSpec) : _root_.Go.OpenSpec := { _root_.Go.OpenSpec.ofChange s with cond := some uptoSmall }

/-- 'picklocklaw08.BpsmakeApplies', WHERE WHAT IT READS IS OF BULK AT MOST 1048576: true; the input reads as it did. -/
def bpsmakeAppliesUptoRow : OpenClaim := { program := "ytokfcknfkhlmfaa", sum := "518eed8259b57a1d4c018d9413ca6ad0a3dcbf949c848dfe77a38a02cd95e325", func := "picklock/picklocklaw08.BpsmakeApplies", spec := "bpsmakeApplies", unfollowed := true, recurses := true, plainKeys := false, apart := false, narrowed := true }
def BpsmakeAppliesUptoSaid : Prop := bpsmakeAppliesUptoRow.holds Try.pinned (OpenSpec.upto bpsmakeAppliesSpec)

/-- 'picklocklaw08.BpsmakeSmall', WHERE WHAT IT READS IS OF BULK AT MOST 1048576: true; the input reads as it did. -/
def bpsmakeSmallUptoRow : OpenClaim := { program := "ytokfcknfkhlmfaa", sum := "518eed8259b57a1d4c018d9413ca6ad0a3dcbf949c848dfe77a38a02cd95e325", func := "picklock/picklocklaw08.BpsmakeSmall", spec := "bpsmakeSmall", unfollowed := true, recurses := true, plainKeys := false, apart := false, narrowed := true }
def BpsmakeSmallUptoSaid : Prop := bpsmakeSmallUptoRow.holds Try.pinned (OpenSpec.upto bpsmakeSmallSpec)

/-- 'picklocklaw08.BpsmakeSame', WHERE WHAT IT READS IS OF BULK AT MOST 1048576: true; the input reads as it did. -/
def bpsmakeSameUptoRow : OpenClaim := { program := "ytokfcknfkhlmfaa", sum := "518eed8259b57a1d4c018d9413ca6ad0a3dcbf949c848dfe77a38a02cd95e325", func := "picklock/picklocklaw08.BpsmakeSame", spec := "bpsmakeSame", unfollowed := true, recurses := true, plainKeys := false, apart := false, narrowed := true }
def BpsmakeSameUptoSaid : Prop := bpsmakeSameUptoRow.holds Try.pinned (OpenSpec.upto bpsmakeSameSpec)

/-- 'picklocklaw08.BpsmakeMoved', WHERE WHAT IT READS IS OF BULK AT MOST 1048576: true; the input reads as it did. -/
def bpsmakeMovedUptoRow : OpenClaim := { program := "ytokfcknfkhlmfaa", sum := "518eed8259b57a1d4c018d9413ca6ad0a3dcbf949c848dfe77a38a02cd95e325", func := "picklock/picklocklaw08.BpsmakeMoved", spec := "bpsmakeMoved", unfollowed := true, recurses := true, plainKeys := false, apart := false, narrowed := true }
def BpsmakeMovedUptoSaid : Prop := bpsmakeMovedUptoRow.holds Try.pinned (OpenSpec.upto bpsmakeMovedSpec)

end Rows
end Go.Proofs.Ytokfcknfkhlmfaa
