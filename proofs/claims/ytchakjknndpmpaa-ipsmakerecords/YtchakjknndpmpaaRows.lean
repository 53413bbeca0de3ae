/-
  No cell of these rows narrows 'for every input' (looked for: loops, veiled, ifaces, maps, wideKeys, modest, calm, conditions, laid).
  DERIVED. THE GIVEN ROWS OF THIS SEAT. 5 by the template 'for every input the law returns true; each argument reads behind the call as it read before'; 0 by the template 'total and deterministic' (their statements: YtchakjknndpmpaaTotals.lean).
  GIVEN WITH THE SEED: the statements are not yours to turn. If you find one false, say at which input.
  Laid BY PROGRAM, IN A SANDBOX (cutbox-rows.mjs): the forced cells as the released guide's own fill.sh prints them over the translation 2464500882baac5f… (all of the seat's roots in one cut). By AI agents, Wed Nov 11 2026. No macro, syntax, notation, axiom, sorry.
-/
import Derived.Test.YtchakjknndpmpaaChecked
import GoSem.Claim
import GoSem.ClaimJoined
import GoSem.ClaimMapViews
import Derived.JoinedTies
import Derived.KernelRfl
namespace Go.Proofs.Ytchakjknndpmpaa
/- THE CELL 'sum', in the pinned program and in every row, IS THE sha256 OF THE DUMP (.gsa) THAT YtchakjknndpmpaaProg.lean LOADS. Nothing in Lean hashes anything: it is a label: what it is worth is what the hold of that sum in a sandbox is worth. -/
noncomputable def Try.pinned : Pinned := { name := "ytchakjknndpmpaa", sum := "2464500882baac5f92d5dd403ab45d3c22a7bd94a06df2460026094177583c24", checked := Try.checked }
namespace Rows
def none {H : Type} : Left H := { results := [], args := [] }

/-- 'picklocklaw05.IpsmakeApplies': WHATEVER THE INPUT: true; the input reads as it did. -/
def ipsmakeAppliesSpec : ChangeSpec := { name := "ipsmakeApplies", fn := fun _ => fun
  | [d1, d2] => { results := [.lit (.bool true)], args := [d1, d2] }
  | _ => none }
def ipsmakeAppliesRow : OpenClaim := { program := "ytchakjknndpmpaa", sum := "2464500882baac5f92d5dd403ab45d3c22a7bd94a06df2460026094177583c24", func := "picklock/picklocklaw05.IpsmakeApplies", spec := "ipsmakeApplies", unfollowed := true, recurses := true, apart := false }
def IpsmakeAppliesSaid : Prop := ipsmakeAppliesRow.holds Try.pinned (OpenSpec.ofChange ipsmakeAppliesSpec)

/-- ITS FALSE NEIGHBOUR: 'it returns false'. Refute it at one input. -/
def ipsmakeAppliesWrong : ChangeSpec := { name := "ipsmakeApplies", fn := fun _ => fun
  | [d1, d2] => { results := [.lit (.bool false)], args := [d1, d2] }
  | _ => none }
def IpsmakeAppliesWrongFalsely : Prop := ipsmakeAppliesRow.holds Try.pinned (OpenSpec.ofChange ipsmakeAppliesWrong)

/-- 'picklocklaw05.IpsmakeRecords': WHATEVER THE INPUT: true; the input reads as it did. -/
def ipsmakeRecordsSpec : ChangeSpec := { name := "ipsmakeRecords", fn := fun _ => fun
  | [d1, d2] => { results := [.lit (.bool true)], args := [d1, d2] }
  | _ => none }
def ipsmakeRecordsRow : OpenClaim := { program := "ytchakjknndpmpaa", sum := "2464500882baac5f92d5dd403ab45d3c22a7bd94a06df2460026094177583c24", func := "picklock/picklocklaw05.IpsmakeRecords", spec := "ipsmakeRecords", unfollowed := true, recurses := true, apart := false }
def IpsmakeRecordsSaid : Prop := ipsmakeRecordsRow.holds Try.pinned (OpenSpec.ofChange ipsmakeRecordsSpec)

/-- ITS FALSE NEIGHBOUR: 'it returns false'. Refute it at one input. -/
def ipsmakeRecordsWrong : ChangeSpec := { name := "ipsmakeRecords", fn := fun _ => fun
  | [d1, d2] => { results := [.lit (.bool false)], args := [d1, d2] }
  | _ => none }
def IpsmakeRecordsWrongFalsely : Prop := ipsmakeRecordsRow.holds Try.pinned (OpenSpec.ofChange ipsmakeRecordsWrong)

/-- 'picklocklaw05.IpsmakeSmall': WHATEVER THE INPUT: true; the input reads as it did. -/
def ipsmakeSmallSpec : ChangeSpec := { name := "ipsmakeSmall", fn := fun _ => fun
  | [d1, d2] => { results := [.lit (.bool true)], args := [d1, d2] }
  | _ => none }
def ipsmakeSmallRow : OpenClaim := { program := "ytchakjknndpmpaa", sum := "2464500882baac5f92d5dd403ab45d3c22a7bd94a06df2460026094177583c24", func := "picklock/picklocklaw05.IpsmakeSmall", spec := "ipsmakeSmall", unfollowed := true, recurses := true, apart := false }
def IpsmakeSmallSaid : Prop := ipsmakeSmallRow.holds Try.pinned (OpenSpec.ofChange ipsmakeSmallSpec)

/-- ITS FALSE NEIGHBOUR: 'it returns false'. Refute it at one input. -/
def ipsmakeSmallWrong : ChangeSpec := { name := "ipsmakeSmall", fn := fun _ => fun
  | [d1, d2] => { results := [.lit (.bool false)], args := [d1, d2] }
  | _ => none }
def IpsmakeSmallWrongFalsely : Prop := ipsmakeSmallRow.holds Try.pinned (OpenSpec.ofChange ipsmakeSmallWrong)

/-- 'picklocklaw05.IpsmakeLong': WHATEVER THE INPUT: true; the input reads as it did. -/
def ipsmakeLongSpec : ChangeSpec := { name := "ipsmakeLong", fn := fun _ => fun
  | [d1, d2, d3] => { results := [.lit (.bool true)], args := [d1, d2, d3] }
  | _ => none }
def ipsmakeLongRow : OpenClaim := { program := "ytchakjknndpmpaa", sum := "2464500882baac5f92d5dd403ab45d3c22a7bd94a06df2460026094177583c24", func := "picklock/picklocklaw05.IpsmakeLong", spec := "ipsmakeLong", unfollowed := true, recurses := true, apart := false }
def IpsmakeLongSaid : Prop := ipsmakeLongRow.holds Try.pinned (OpenSpec.ofChange ipsmakeLongSpec)

/-- ITS FALSE NEIGHBOUR: 'it returns false'. Refute it at one input. -/
def ipsmakeLongWrong : ChangeSpec := { name := "ipsmakeLong", fn := fun _ => fun
  | [d1, d2, d3] => { results := [.lit (.bool false)], args := [d1, d2, d3] }
  | _ => none }
def IpsmakeLongWrongFalsely : Prop := ipsmakeLongRow.holds Try.pinned (OpenSpec.ofChange ipsmakeLongWrong)

/-- 'picklocklaw05.IpsmakeEof': WHATEVER THE INPUT: true; the input reads as it did. -/
def ipsmakeEofSpec : ChangeSpec := { name := "ipsmakeEof", fn := fun _ => fun
  | [d1, d2, d3] => { results := [.lit (.bool true)], args := [d1, d2, d3] }
  | _ => none }
def ipsmakeEofRow : OpenClaim := { program := "ytchakjknndpmpaa", sum := "2464500882baac5f92d5dd403ab45d3c22a7bd94a06df2460026094177583c24", func := "picklock/picklocklaw05.IpsmakeEof", spec := "ipsmakeEof", unfollowed := true, recurses := true, apart := false }
def IpsmakeEofSaid : Prop := ipsmakeEofRow.holds Try.pinned (OpenSpec.ofChange ipsmakeEofSpec)

/-- ITS FALSE NEIGHBOUR: 'it returns false'. Refute it at one input. -/
def ipsmakeEofWrong : ChangeSpec := { name := "ipsmakeEof", fn := fun _ => fun
  | [d1, d2, d3] => { results := [.lit (.bool false)], args := [d1, d2, d3] }
  | _ => none }
def IpsmakeEofWrongFalsely : Prop := ipsmakeEofRow.holds Try.pinned (OpenSpec.ofChange ipsmakeEofWrong)

/- THE SECOND FORM. 'bulk': how many values and letters a reading holds, each counted each time it is reached (what is shared counts as often as it is met; a slice's spare places count too). A statement '..UptoSaid' is the law's where the arguments, and the package variables that the reading takes, are together of bulk at most 1048576: NARROWER than '..Said'. Prove '..Said' where nothing that the law and all that it calls make is longer than what came in: it says more and counts as full. Else prove '..UptoSaid'. A law counts once. -/
mutual
def uptoBulk {H : Type} : DataW H → Nat
  | .lit (.string bytes) => bytes.length + 1
  | .lit _ => 1
  | .nil => 1
  | .ptr d => uptoBulk d + 1
  | .slice elems spare => uptoBulkAll elems + uptoBulkAll spare + 1
  | .agg parts => uptoBulkAll parts + 1
  | .iface _ d => uptoBulk d + 1
  | .map entries => uptoBulkEntries entries + 1
  | .held _ => 1
def uptoBulkAll {H : Type} : List (DataW H) → Nat
  | [] => 0
  | d :: r => uptoBulk d + uptoBulkAll r
def uptoBulkEntries {H : Type} : List (Lit × DataW H) → Nat
  | [] => 0
  | x :: r => uptoBulkEntry x + uptoBulkEntries r
def uptoBulkEntry {H : Type} : Lit × DataW H → Nat
  | (.string bytes, d) => bytes.length + uptoBulk d + 1
  | (_, d) => uptoBulk d + 1
 end
def uptoSmall : (H : Type) → List (DataW H) → Bool := fun _ ds => decide (uptoBulkAll ds ≤ 1048576)
def OpenSpec.upto (s : _root_.Go.ChangeSpec) : _root_.Go.OpenSpec := { _root_.Go.OpenSpec.ofChange s with cond := some uptoSmall }

/-- 'picklocklaw05.IpsmakeApplies', WHERE WHAT IT READS IS OF BULK AT MOST 1048576: true; the input reads as it did. -/
def ipsmakeAppliesUptoRow : OpenClaim := { program := "ytchakjknndpmpaa", sum := "2464500882baac5f92d5dd403ab45d3c22a7bd94a06df2460026094177583c24", func := "picklock/picklocklaw05.IpsmakeApplies", spec := "ipsmakeApplies", unfollowed := true, recurses := true, apart := false, narrowed := true }
def IpsmakeAppliesUptoSaid : Prop := ipsmakeAppliesUptoRow.holds Try.pinned (OpenSpec.upto ipsmakeAppliesSpec)

/-- 'picklocklaw05.IpsmakeRecords', WHERE WHAT IT READS IS OF BULK AT MOST 1048576: true; the input reads as it did. -/
def ipsmakeRecordsUptoRow : OpenClaim := { program := "ytchakjknndpmpaa", sum := "2464500882baac5f92d5dd403ab45d3c22a7bd94a06df2460026094177583c24", func := "picklock/picklocklaw05.IpsmakeRecords", spec := "ipsmakeRecords", unfollowed := true, recurses := true, apart := false, narrowed := true }
def IpsmakeRecordsUptoSaid : Prop := ipsmakeRecordsUptoRow.holds Try.pinned (OpenSpec.upto ipsmakeRecordsSpec)

/-- 'picklocklaw05.IpsmakeSmall', WHERE WHAT IT READS IS OF BULK AT MOST 1048576: true; the input reads as it did. -/
def ipsmakeSmallUptoRow : OpenClaim := { program := "ytchakjknndpmpaa", sum := "2464500882baac5f92d5dd403ab45d3c22a7bd94a06df2460026094177583c24", func := "picklock/picklocklaw05.IpsmakeSmall", spec := "ipsmakeSmall", unfollowed := true, recurses := true, apart := false, narrowed := true }
def IpsmakeSmallUptoSaid : Prop := ipsmakeSmallUptoRow.holds Try.pinned (OpenSpec.upto ipsmakeSmallSpec)

/-- 'picklocklaw05.IpsmakeLong', WHERE WHAT IT READS IS OF BULK AT MOST 1048576: true; the input reads as it did. -/
def ipsmakeLongUptoRow : OpenClaim := { program := "ytchakjknndpmpaa", sum := "2464500882baac5f92d5dd403ab45d3c22a7bd94a06df2460026094177583c24", func := "picklock/picklocklaw05.IpsmakeLong", spec := "ipsmakeLong", unfollowed := true, recurses := true, apart := false, narrowed := true }
def IpsmakeLongUptoSaid : Prop := ipsmakeLongUptoRow.holds Try.pinned (OpenSpec.upto ipsmakeLongSpec)

/-- 'picklocklaw05.IpsmakeEof', WHERE WHAT IT READS IS OF BULK AT MOST 1048576: true; the input reads as it did. -/
def ipsmakeEofUptoRow : OpenClaim := { program := "ytchakjknndpmpaa", sum := "2464500882baac5f92d5dd403ab45d3c22a7bd94a06df2460026094177583c24", func := "picklock/picklocklaw05.IpsmakeEof", spec := "ipsmakeEof", unfollowed := true, recurses := true, apart := false, narrowed := true }
def IpsmakeEofUptoSaid : Prop := ipsmakeEofUptoRow.holds Try.pinned (OpenSpec.upto ipsmakeEofSpec)

end Rows
end Go.Proofs.Ytchakjknndpmpaa
