/-
  No cell of these rows narrows 'for every input' (looked for: loops, veiled, ifaces, maps, wideKeys, modest, calm, conditions, laid).
  DERIVED. THE GIVEN ROWS OF THIS SEAT. 6 by the template 'for every input the law returns true; each argument reads behind the call as it read before'; 0 by the template 'total and deterministic' (their statements: YtgakdlbdbiacgaaTotals.lean).
  GIVEN WITH THE SEED: the statements are not yours to turn. If you find one false, say at which input.
  Laid BY PROGRAM, IN A SANDBOX (cutbox-rows.mjs): the forced cells as the released guide's own fill.sh prints them over the translation 49b7bf42f4a76ac0… (all of the seat's roots in one cut). By AI agents, Wed Nov 11 2026. No macro, syntax, notation, axiom, sorry.
-/
import Derived.Test.YtgakdlbdbiacgaaChecked
import GoSem.Claim
import GoSem.ClaimJoined
import GoSem.ClaimMapViews
import Derived.JoinedTies
import Derived.KernelRfl
namespace Go.Proofs.Ytgakdlbdbiacgaa
/- THE CELL 'sum', in the pinned program and in every row, IS THE sha256 OF THE DUMP (.gsa) THAT YtgakdlbdbiacgaaProg.lean LOADS. Nothing in Lean hashes anything: it is a label: what it is worth is what the hold of that sum in a sandbox is worth. -/
noncomputable def Try.pinned : Pinned := { name := "ytgakdlbdbiacgaa", sum := "49b7bf42f4a76ac078ca30b931f0bfaf52afdf97617d66ce44e377f161154c06", checked := Try.checked }
namespace Rows
def none {H : Type} : Left H := { results := [], args := [] }

/-- 'picklocklaw11.NesmapPlays': WHATEVER THE INPUT: true; the input reads as it did. -/
def nesmapPlaysSpec : ChangeSpec := { name := "nesmapPlays", fn := fun _ => fun
  | [d1, d2, d3] => { results := [.lit (.bool true)], args := [d1, d2, d3] }
  | _ => none }
def nesmapPlaysRow : OpenClaim := { program := "ytgakdlbdbiacgaa", sum := "49b7bf42f4a76ac078ca30b931f0bfaf52afdf97617d66ce44e377f161154c06", func := "picklock/picklocklaw11.NesmapPlays", spec := "nesmapPlays", unfollowed := true, recurses := true, apart := false }
def NesmapPlaysSaid : Prop := nesmapPlaysRow.holds Try.pinned (OpenSpec.ofChange nesmapPlaysSpec)

/-- ITS FALSE NEIGHBOUR: 'it returns false'. Refute it at one input. -/
def nesmapPlaysWrong : ChangeSpec := { name := "nesmapPlays", fn := fun _ => fun
  | [d1, d2, d3] => { results := [.lit (.bool false)], args := [d1, d2, d3] }
  | _ => none }
def NesmapPlaysWrongFalsely : Prop := nesmapPlaysRow.holds Try.pinned (OpenSpec.ofChange nesmapPlaysWrong)

/-- 'picklocklaw11.NesmapThere': WHATEVER THE INPUT: true; the input reads as it did. -/
def nesmapThereSpec : ChangeSpec := { name := "nesmapThere", fn := fun _ => fun
  | [d1, d2, d3] => { results := [.lit (.bool true)], args := [d1, d2, d3] }
  | _ => none }
def nesmapThereRow : OpenClaim := { program := "ytgakdlbdbiacgaa", sum := "49b7bf42f4a76ac078ca30b931f0bfaf52afdf97617d66ce44e377f161154c06", func := "picklock/picklocklaw11.NesmapThere", spec := "nesmapThere", unfollowed := true, recurses := true, apart := false }
def NesmapThereSaid : Prop := nesmapThereRow.holds Try.pinned (OpenSpec.ofChange nesmapThereSpec)

/-- ITS FALSE NEIGHBOUR: 'it returns false'. Refute it at one input. -/
def nesmapThereWrong : ChangeSpec := { name := "nesmapThere", fn := fun _ => fun
  | [d1, d2, d3] => { results := [.lit (.bool false)], args := [d1, d2, d3] }
  | _ => none }
def NesmapThereWrongFalsely : Prop := nesmapThereRow.holds Try.pinned (OpenSpec.ofChange nesmapThereWrong)

/-- 'picklocklaw11.NesmapMakes': WHATEVER THE INPUT: true; the input reads as it did. -/
def nesmapMakesSpec : ChangeSpec := { name := "nesmapMakes", fn := fun _ => fun
  | [d1, d2, d3] => { results := [.lit (.bool true)], args := [d1, d2, d3] }
  | _ => none }
def nesmapMakesRow : OpenClaim := { program := "ytgakdlbdbiacgaa", sum := "49b7bf42f4a76ac078ca30b931f0bfaf52afdf97617d66ce44e377f161154c06", func := "picklock/picklocklaw11.NesmapMakes", spec := "nesmapMakes", unfollowed := true, recurses := true, apart := false }
def NesmapMakesSaid : Prop := nesmapMakesRow.holds Try.pinned (OpenSpec.ofChange nesmapMakesSpec)

/-- ITS FALSE NEIGHBOUR: 'it returns false'. Refute it at one input. -/
def nesmapMakesWrong : ChangeSpec := { name := "nesmapMakes", fn := fun _ => fun
  | [d1, d2, d3] => { results := [.lit (.bool false)], args := [d1, d2, d3] }
  | _ => none }
def NesmapMakesWrongFalsely : Prop := nesmapMakesRow.holds Try.pinned (OpenSpec.ofChange nesmapMakesWrong)

/-- 'picklocklaw11.NesmapSerial': WHATEVER THE INPUT: true; the input reads as it did. -/
def nesmapSerialSpec : ChangeSpec := { name := "nesmapSerial", fn := fun _ => fun
  | [d] => { results := [.lit (.bool true)], args := [d] }
  | _ => none }
def nesmapSerialRow : OpenClaim := { program := "ytgakdlbdbiacgaa", sum := "49b7bf42f4a76ac078ca30b931f0bfaf52afdf97617d66ce44e377f161154c06", func := "picklock/picklocklaw11.NesmapSerial", spec := "nesmapSerial", unfollowed := true, recurses := true, apart := false }
def NesmapSerialSaid : Prop := nesmapSerialRow.holds Try.pinned (OpenSpec.ofChange nesmapSerialSpec)

/-- ITS FALSE NEIGHBOUR: 'it returns false'. Refute it at one input. -/
def nesmapSerialWrong : ChangeSpec := { name := "nesmapSerial", fn := fun _ => fun
  | [d] => { results := [.lit (.bool false)], args := [d] }
  | _ => none }
def NesmapSerialWrongFalsely : Prop := nesmapSerialRow.holds Try.pinned (OpenSpec.ofChange nesmapSerialWrong)

/-- 'picklocklaw11.NesmapCounts': WHATEVER THE INPUT: true; the input reads as it did. -/
def nesmapCountsSpec : ChangeSpec := { name := "nesmapCounts", fn := fun _ => fun
  | [d1, d2] => { results := [.lit (.bool true)], args := [d1, d2] }
  | _ => none }
def nesmapCountsRow : OpenClaim := { program := "ytgakdlbdbiacgaa", sum := "49b7bf42f4a76ac078ca30b931f0bfaf52afdf97617d66ce44e377f161154c06", func := "picklock/picklocklaw11.NesmapCounts", spec := "nesmapCounts", unfollowed := true, recurses := true, apart := false }
def NesmapCountsSaid : Prop := nesmapCountsRow.holds Try.pinned (OpenSpec.ofChange nesmapCountsSpec)

/-- ITS FALSE NEIGHBOUR: 'it returns false'. Refute it at one input. -/
def nesmapCountsWrong : ChangeSpec := { name := "nesmapCounts", fn := fun _ => fun
  | [d1, d2] => { results := [.lit (.bool false)], args := [d1, d2] }
  | _ => none }
def NesmapCountsWrongFalsely : Prop := nesmapCountsRow.holds Try.pinned (OpenSpec.ofChange nesmapCountsWrong)

/-- 'picklocklaw11.NesmapApart': WHATEVER THE INPUT: true; the input reads as it did. -/
def nesmapApartSpec : ChangeSpec := { name := "nesmapApart", fn := fun _ => fun
  | [d1, d2, d3] => { results := [.lit (.bool true)], args := [d1, d2, d3] }
  | _ => none }
def nesmapApartRow : OpenClaim := { program := "ytgakdlbdbiacgaa", sum := "49b7bf42f4a76ac078ca30b931f0bfaf52afdf97617d66ce44e377f161154c06", func := "picklock/picklocklaw11.NesmapApart", spec := "nesmapApart", unfollowed := true, recurses := true, apart := false }
def NesmapApartSaid : Prop := nesmapApartRow.holds Try.pinned (OpenSpec.ofChange nesmapApartSpec)

/-- ITS FALSE NEIGHBOUR: 'it returns false'. Refute it at one input. -/
def nesmapApartWrong : ChangeSpec := { name := "nesmapApart", fn := fun _ => fun
  | [d1, d2, d3] => { results := [.lit (.bool false)], args := [d1, d2, d3] }
  | _ => none }
def NesmapApartWrongFalsely : Prop := nesmapApartRow.holds Try.pinned (OpenSpec.ofChange nesmapApartWrong)

/- THE SECOND FORM. 'bulk': how many values and letters a reading holds, each counted each time it is reached (what is shared counts as often as it is met; a slice's spare places count too). A statement '..UptoSaid' is the law's where the arguments, and the package variables that the reading takes, are together of bulk at most 1048576: NARROWER than '..Said'. Prove '..Said' where nothing that the law and all that it calls make is longer than what came in: it says more and counts as full. Else prove '..UptoSaid'. A law counts once. -/
mutual
def uptoBulk {H : Type} : DataW H → Nat
  | .lit (.string bytes) => bytes.length + 1
  | .lit _ => 1
  | .nil => 1
  | .ptr d => uptoBulk d + 1
  | .slice elems spare => uptoBulkAll elems + uptoBulkAll spare + 1
  | .agg parts => uptoBulkAll parts + 1
  | .iface _ d => uptoBulk d + 1
  | .map entries => uptoBulkEntries entries + 1
  | .held _ => 1
def uptoBulkAll {H : Type} : List (DataW H) → Nat
  | [] => 0
  | d :: r => uptoBulk d + uptoBulkAll r
def uptoBulkEntries {H : Type} : List (Lit × DataW H) → Nat
  | [] => 0
  | x :: r => uptoBulkEntry x + uptoBulkEntries r
def uptoBulkEntry {H : Type} : Lit × DataW H → Nat
  | (.string bytes, d) => bytes.length + uptoBulk d + 1
  | (_, d) => uptoBulk d + 1
 end
def uptoSmall : (H : Type) → List (DataW H) → Bool := fun _ ds => decide (uptoBulkAll ds ≤ 1048576)
def OpenSpec.upto (s : _root_.Go.ChangeSpec) : _root_.Go.OpenSpec := { _root_.Go.OpenSpec.ofChange s with cond := some uptoSmall }

/-- 'picklocklaw11.NesmapPlays', WHERE WHAT IT READS IS OF BULK AT MOST 1048576: true; the input reads as it did. -/
def nesmapPlaysUptoRow : OpenClaim := { program := "ytgakdlbdbiacgaa", sum := "49b7bf42f4a76ac078ca30b931f0bfaf52afdf97617d66ce44e377f161154c06", func := "picklock/picklocklaw11.NesmapPlays", spec := "nesmapPlays", unfollowed := true, recurses := true, apart := false, narrowed := true }
def NesmapPlaysUptoSaid : Prop := nesmapPlaysUptoRow.holds Try.pinned (OpenSpec.upto nesmapPlaysSpec)

/-- 'picklocklaw11.NesmapThere', WHERE WHAT IT READS IS OF BULK AT MOST 1048576: true; the input reads as it did. -/
def nesmapThereUptoRow : OpenClaim := { program := "ytgakdlbdbiacgaa", sum := "49b7bf42f4a76ac078ca30b931f0bfaf52afdf97617d66ce44e377f161154c06", func := "picklock/picklocklaw11.NesmapThere", spec := "nesmapThere", unfollowed := true, recurses := true, apart := false, narrowed := true }
def NesmapThereUptoSaid : Prop := nesmapThereUptoRow.holds Try.pinned (OpenSpec.upto nesmapThereSpec)

/-- 'picklocklaw11.NesmapMakes', WHERE WHAT IT READS IS OF BULK AT MOST 1048576: true; the input reads as it did. -/
def nesmapMakesUptoRow : OpenClaim := { program := "ytgakdlbdbiacgaa", sum := "49b7bf42f4a76ac078ca30b931f0bfaf52afdf97617d66ce44e377f161154c06", func := "picklock/picklocklaw11.NesmapMakes", spec := "nesmapMakes", unfollowed := true, recurses := true, apart := false, narrowed := true }
def NesmapMakesUptoSaid : Prop := nesmapMakesUptoRow.holds Try.pinned (OpenSpec.upto nesmapMakesSpec)

/-- 'picklocklaw11.NesmapSerial', WHERE WHAT IT READS IS OF BULK AT MOST 1048576: true; the input reads as it did. -/
def nesmapSerialUptoRow : OpenClaim := { program := "ytgakdlbdbiacgaa", sum := "49b7bf42f4a76ac078ca30b931f0bfaf52afdf97617d66ce44e377f161154c06", func := "picklock/picklocklaw11.NesmapSerial", spec := "nesmapSerial", unfollowed := true, recurses := true, apart := false, narrowed := true }
def NesmapSerialUptoSaid : Prop := nesmapSerialUptoRow.holds Try.pinned (OpenSpec.upto nesmapSerialSpec)

/-- 'picklocklaw11.NesmapCounts', WHERE WHAT IT READS IS OF BULK AT MOST 1048576: true; the input reads as it did. -/
def nesmapCountsUptoRow : OpenClaim := { program := "ytgakdlbdbiacgaa", sum := "49b7bf42f4a76ac078ca30b931f0bfaf52afdf97617d66ce44e377f161154c06", func := "picklock/picklocklaw11.NesmapCounts", spec := "nesmapCounts", unfollowed := true, recurses := true, apart := false, narrowed := true }
def NesmapCountsUptoSaid : Prop := nesmapCountsUptoRow.holds Try.pinned (OpenSpec.upto nesmapCountsSpec)

/-- 'picklocklaw11.NesmapApart', WHERE WHAT IT READS IS OF BULK AT MOST 1048576: true; the input reads as it did. -/
def nesmapApartUptoRow : OpenClaim := { program := "ytgakdlbdbiacgaa", sum := "49b7bf42f4a76ac078ca30b931f0bfaf52afdf97617d66ce44e377f161154c06", func := "picklock/picklocklaw11.NesmapApart", spec := "nesmapApart", unfollowed := true, recurses := true, apart := false, narrowed := true }
def NesmapApartUptoSaid : Prop := nesmapApartUptoRow.holds Try.pinned (OpenSpec.upto nesmapApartSpec)

end Rows
end Go.Proofs.Ytgakdlbdbiacgaa
