/-
  No cell of these rows narrows 'for every input' (looked for: loops, veiled, ifaces, maps, wideKeys, modest, calm, conditions, laid).
  DERIVED. THE GIVEN ROWS OF THIS SEAT. 5 by the template 'for every input the law returns true; each argument reads behind the call as it read before'; 0 by the template 'total and deterministic' (their statements: YtglnpgdigdfjiaaTotals.lean).
  GIVEN WITH THE SEED: the statements are not yours to turn. If you find one false, say at which input.
  Laid BY PROGRAM, IN A SANDBOX (cutbox-rows.mjs): the forced cells as the released guide's own fill.sh prints them over the translation 14115a3483f4ff17… (all of the seat's roots in one cut). By AI agents, Wed Nov 11 2026. No macro, syntax, notation, axiom, sorry.
-/
import Derived.Test.YtglnpgdigdfjiaaChecked
import GoSem.Claim
import GoSem.ClaimJoined
import GoSem.ClaimMapViews
import Derived.JoinedTies
import Derived.KernelRfl
namespace Go.Proofs.Ytglnpgdigdfjiaa
/- THE CELL 'sum', in the pinned program and in every row, IS THE sha256 OF THE DUMP (.gsa) THAT YtglnpgdigdfjiaaProg.lean LOADS. Nothing in Lean hashes anything: it is a label: what it is worth is what the hold of that sum in a sandbox is worth. -/
noncomputable def Try.pinned : Pinned := { name := "ytglnpgdigdfjiaa", sum := "14115a3483f4ff17133f98e6da69381ff14cca06310092e29b3aa17bbe656adb", checked := Try.checked }
namespace Rows
def none {H : Type} : Left H := { results := [], args := [] }

/-- 'picklocklaw12.GbmapPlays': WHATEVER THE INPUT: true; the input reads as it did. -/
def gbmapPlaysSpec : ChangeSpec := { name := "gbmapPlays", fn := fun _ => fun
  | [d1, d2, d3] => { results := [.lit (.bool true)], args := [d1, d2, d3] }
  | _ => none }
def gbmapPlaysRow : OpenClaim := { program := "ytglnpgdigdfjiaa", sum := "14115a3483f4ff17133f98e6da69381ff14cca06310092e29b3aa17bbe656adb", func := "picklock/picklocklaw12.GbmapPlays", spec := "gbmapPlays", unfollowed := true, recurses := true, apart := false }
def GbmapPlaysSaid : Prop := gbmapPlaysRow.holds Try.pinned (OpenSpec.ofChange gbmapPlaysSpec)

/-- ITS FALSE NEIGHBOUR: 'it returns false'. Refute it at one input. -/
def gbmapPlaysWrong : ChangeSpec := { name := "gbmapPlays", fn := fun _ => fun
  | [d1, d2, d3] => { results := [.lit (.bool false)], args := [d1, d2, d3] }
  | _ => none }
def GbmapPlaysWrongFalsely : Prop := gbmapPlaysRow.holds Try.pinned (OpenSpec.ofChange gbmapPlaysWrong)

/-- 'picklocklaw12.GbmapThere': WHATEVER THE INPUT: true; the input reads as it did. -/
def gbmapThereSpec : ChangeSpec := { name := "gbmapThere", fn := fun _ => fun
  | [d1, d2, d3] => { results := [.lit (.bool true)], args := [d1, d2, d3] }
  | _ => none }
def gbmapThereRow : OpenClaim := { program := "ytglnpgdigdfjiaa", sum := "14115a3483f4ff17133f98e6da69381ff14cca06310092e29b3aa17bbe656adb", func := "picklock/picklocklaw12.GbmapThere", spec := "gbmapThere", unfollowed := true, recurses := true, apart := false }
def GbmapThereSaid : Prop := gbmapThereRow.holds Try.pinned (OpenSpec.ofChange gbmapThereSpec)

/-- ITS FALSE NEIGHBOUR: 'it returns false'. Refute it at one input. -/
def gbmapThereWrong : ChangeSpec := { name := "gbmapThere", fn := fun _ => fun
  | [d1, d2, d3] => { results := [.lit (.bool false)], args := [d1, d2, d3] }
  | _ => none }
def GbmapThereWrongFalsely : Prop := gbmapThereRow.holds Try.pinned (OpenSpec.ofChange gbmapThereWrong)

/-- 'picklocklaw12.GbmapMakes': WHATEVER THE INPUT: true; the input reads as it did. -/
def gbmapMakesSpec : ChangeSpec := { name := "gbmapMakes", fn := fun _ => fun
  | [d1, d2, d3] => { results := [.lit (.bool true)], args := [d1, d2, d3] }
  | _ => none }
def gbmapMakesRow : OpenClaim := { program := "ytglnpgdigdfjiaa", sum := "14115a3483f4ff17133f98e6da69381ff14cca06310092e29b3aa17bbe656adb", func := "picklock/picklocklaw12.GbmapMakes", spec := "gbmapMakes", unfollowed := true, recurses := true, apart := false }
def GbmapMakesSaid : Prop := gbmapMakesRow.holds Try.pinned (OpenSpec.ofChange gbmapMakesSpec)

/-- ITS FALSE NEIGHBOUR: 'it returns false'. Refute it at one input. -/
def gbmapMakesWrong : ChangeSpec := { name := "gbmapMakes", fn := fun _ => fun
  | [d1, d2, d3] => { results := [.lit (.bool false)], args := [d1, d2, d3] }
  | _ => none }
def GbmapMakesWrongFalsely : Prop := gbmapMakesRow.holds Try.pinned (OpenSpec.ofChange gbmapMakesWrong)

/-- 'picklocklaw12.GbmapEnables': WHATEVER THE INPUT: true; the input reads as it did. -/
def gbmapEnablesSpec : ChangeSpec := { name := "gbmapEnables", fn := fun _ => fun
  | [d1, d2, d3] => { results := [.lit (.bool true)], args := [d1, d2, d3] }
  | _ => none }
def gbmapEnablesRow : OpenClaim := { program := "ytglnpgdigdfjiaa", sum := "14115a3483f4ff17133f98e6da69381ff14cca06310092e29b3aa17bbe656adb", func := "picklock/picklocklaw12.GbmapEnables", spec := "gbmapEnables", unfollowed := true, recurses := true, apart := false }
def GbmapEnablesSaid : Prop := gbmapEnablesRow.holds Try.pinned (OpenSpec.ofChange gbmapEnablesSpec)

/-- ITS FALSE NEIGHBOUR: 'it returns false'. Refute it at one input. -/
def gbmapEnablesWrong : ChangeSpec := { name := "gbmapEnables", fn := fun _ => fun
  | [d1, d2, d3] => { results := [.lit (.bool false)], args := [d1, d2, d3] }
  | _ => none }
def GbmapEnablesWrongFalsely : Prop := gbmapEnablesRow.holds Try.pinned (OpenSpec.ofChange gbmapEnablesWrong)

/-- 'picklocklaw12.GbmapApart': WHATEVER THE INPUT: true; the input reads as it did. -/
def gbmapApartSpec : ChangeSpec := { name := "gbmapApart", fn := fun _ => fun
  | [d1, d2, d3] => { results := [.lit (.bool true)], args := [d1, d2, d3] }
  | _ => none }
def gbmapApartRow : OpenClaim := { program := "ytglnpgdigdfjiaa", sum := "14115a3483f4ff17133f98e6da69381ff14cca06310092e29b3aa17bbe656adb", func := "picklock/picklocklaw12.GbmapApart", spec := "gbmapApart", unfollowed := true, recurses := true, apart := false }
def GbmapApartSaid : Prop := gbmapApartRow.holds Try.pinned (OpenSpec.ofChange gbmapApartSpec)

/-- ITS FALSE NEIGHBOUR: 'it returns false'. Refute it at one input. -/
def gbmapApartWrong : ChangeSpec := { name := "gbmapApart", fn := fun _ => fun
  | [d1, d2, d3] => { results := [.lit (.bool false)], args := [d1, d2, d3] }
  | _ => none }
def GbmapApartWrongFalsely : Prop := gbmapApartRow.holds Try.pinned (OpenSpec.ofChange gbmapApartWrong)

/- THE SECOND FORM. 'bulk': how many values and letters a reading holds, each counted each time it is reached (what is shared counts as often as it is met; a slice's spare places count too). A statement '..UptoSaid' is the law's where the arguments, and the package variables that the reading takes, are together of bulk at most 1048576: NARROWER than '..Said'. Prove '..Said' where nothing that the law and all that it calls make is longer than what came in: it says more and counts as full. Else prove '..UptoSaid'. A law counts once. -/
mutual
def uptoBulk {H : Type} : DataW H → Nat
  | .lit (.string bytes) => bytes.length + 1
  | .lit _ => 1
  | .nil => 1
  | .ptr d => uptoBulk d + 1
  | .slice elems spare => uptoBulkAll elems + uptoBulkAll spare + 1
  | .agg parts => uptoBulkAll parts + 1
  | .iface _ d => uptoBulk d + 1
  | .map entries => uptoBulkEntries entries + 1
  | .held _ => 1
def uptoBulkAll {H : Type} : List (DataW H) → Nat
  | [] => 0
  | d :: r => uptoBulk d + uptoBulkAll r
def uptoBulkEntries {H : Type} : List (Lit × DataW H) → Nat
  | [] => 0
  | x :: r => uptoBulkEntry x + uptoBulkEntries r
def uptoBulkEntry {H : Type} : Lit × DataW H → Nat
  | (.string bytes, d) => bytes.length + uptoBulk d + 1
  | (_, d) => uptoBulk d + 1
 end
def uptoSmall : (H : Type) → List (DataW H) → Bool := fun _ ds => decide (uptoBulkAll ds ≤ 1048576)
def OpenSpec.upto (s : _root_.Go.ChangeSpec) : _root_.Go.OpenSpec := { _root_.Go.OpenSpec.ofChange s with cond := some uptoSmall }

/-- 'picklocklaw12.GbmapPlays', WHERE WHAT IT READS IS OF BULK AT MOST 1048576: true; the input reads as it did. -/
def gbmapPlaysUptoRow : OpenClaim := { program := "ytglnpgdigdfjiaa", sum := "14115a3483f4ff17133f98e6da69381ff14cca06310092e29b3aa17bbe656adb", func := "picklock/picklocklaw12.GbmapPlays", spec := "gbmapPlays", unfollowed := true, recurses := true, apart := false, narrowed := true }
def GbmapPlaysUptoSaid : Prop := gbmapPlaysUptoRow.holds Try.pinned (OpenSpec.upto gbmapPlaysSpec)

/-- 'picklocklaw12.GbmapThere', WHERE WHAT IT READS IS OF BULK AT MOST 1048576: true; the input reads as it did. -/
def gbmapThereUptoRow : OpenClaim := { program := "ytglnpgdigdfjiaa", sum := "14115a3483f4ff17133f98e6da69381ff14cca06310092e29b3aa17bbe656adb", func := "picklock/picklocklaw12.GbmapThere", spec := "gbmapThere", unfollowed := true, recurses := true, apart := false, narrowed := true }
def GbmapThereUptoSaid : Prop := gbmapThereUptoRow.holds Try.pinned (OpenSpec.upto gbmapThereSpec)

/-- 'picklocklaw12.GbmapMakes', WHERE WHAT IT READS IS OF BULK AT MOST 1048576: true; the input reads as it did. -/
def gbmapMakesUptoRow : OpenClaim := { program := "ytglnpgdigdfjiaa", sum := "14115a3483f4ff17133f98e6da69381ff14cca06310092e29b3aa17bbe656adb", func := "picklock/picklocklaw12.GbmapMakes", spec := "gbmapMakes", unfollowed := true, recurses := true, apart := false, narrowed := true }
def GbmapMakesUptoSaid : Prop := gbmapMakesUptoRow.holds Try.pinned (OpenSpec.upto gbmapMakesSpec)

/-- 'picklocklaw12.GbmapEnables', WHERE WHAT IT READS IS OF BULK AT MOST 1048576: true; the input reads as it did. -/
def gbmapEnablesUptoRow : OpenClaim := { program := "ytglnpgdigdfjiaa", sum := "14115a3483f4ff17133f98e6da69381ff14cca06310092e29b3aa17bbe656adb", func := "picklock/picklocklaw12.GbmapEnables", spec := "gbmapEnables", unfollowed := true, recurses := true, apart := false, narrowed := true }
def GbmapEnablesUptoSaid : Prop := gbmapEnablesUptoRow.holds Try.pinned (OpenSpec.upto gbmapEnablesSpec)

/-- 'picklocklaw12.GbmapApart', WHERE WHAT IT READS IS OF BULK AT MOST 1048576: true; the input reads as it did. -/
def gbmapApartUptoRow : OpenClaim := { program := "ytglnpgdigdfjiaa", sum := "14115a3483f4ff17133f98e6da69381ff14cca06310092e29b3aa17bbe656adb", func := "picklock/picklocklaw12.GbmapApart", spec := "gbmapApart", unfollowed := true, recurses := true, apart := false, narrowed := true }
def GbmapApartUptoSaid : Prop := gbmapApartUptoRow.holds Try.pinned (OpenSpec.upto gbmapApartSpec)

end Rows
end Go.Proofs.Ytglnpgdigdfjiaa
