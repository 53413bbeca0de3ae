/-
  NARROWER THAN 'FOR EVERY INPUT', by the rows' own cells (each row's printed sentence says how): GbheadParses: laid · GbheadTypes: laid · GbheadSigns: laid · GbheadOne: laid · GbheadMore: laid.
  DERIVED. THE GIVEN ROWS OF THIS SEAT. 5 by the template 'for every input the law returns true; each argument reads behind the call as it read before'; 0 by the template 'total and deterministic' (their statements: YthomlnaabkfcpaaDoorTotals.lean).
  GIVEN WITH THE SEED: the statements are not yours to turn. If you find one false, say at which input.
  Laid BY PROGRAM, IN A SANDBOX (cutbox-rows.mjs): the forced cells as the released guide's own fill.sh prints them over the translation 751d64683d07f37b… (all of the seat's roots in one cut). By AI agents, Wed Nov 11 2026. No macro, syntax, notation, axiom, sorry.
-/
import Derived.Test.YthomlnaabkfcpaaDoorChecked
import GoSem.Claim
import GoSem.ClaimJoined
import GoSem.ClaimMapViews
import Derived.JoinedTies
import Derived.KernelRfl
namespace Go.Proofs.YthomlnaabkfcpaaDoor
/- THE CELL 'sum', in the pinned program and in every row, IS THE sha256 OF THE DUMP (.gsa) THAT YthomlnaabkfcpaaDoorProg.lean LOADS. Nothing in Lean hashes anything: it is a label: what it is worth is what the hold of that sum in a sandbox is worth. -/
noncomputable def Tryd.pinned : Pinned := { name := "ythomlnaabkfcpaadoor", sum := "751d64683d07f37b69386c88a6d5c1c7b51036a37bba2a4d78767fae382018a6", checked := Tryd.checked }
namespace Rows
def none {H : Type} : Left H := { results := [], args := [] }

/- WHAT THE LISTED PACKAGE-LEVEL VARIABLES READ AS WHEN THE CALL BEGINS. Each datum BY PROGRAM (the guide's laid-datum.mjs) off the statement by which the dump's own 'gosem.cut.vars' lays the variable. In a bare row this is a premise. The card (YthomlnaabkfcpaaDoorCards.lean) ties it to the program's text. -/
def laid_picklock_gbhead_ramBytes {H : Type} : DataW H := .agg [.lit (.int .i64 0), .lit (.int .i64 2048), .lit (.int .i64 8192), .lit (.int .i64 32768), .lit (.int .i64 131072), .lit (.int .i64 65536)]

/-- 'picklocklaw10.GbheadParses': WHATEVER THE INPUT: true; the input reads as it did. -/
def gbheadParsesSpec : ChangeSpec := { name := "gbheadParses", fn := fun _ => fun
  | [d] => { results := [.lit (.bool true)], args := [d] }
  | _ => none }
def gbheadParsesRow : OpenClaim := { program := "ythomlnaabkfcpaadoor", sum := "751d64683d07f37b69386c88a6d5c1c7b51036a37bba2a4d78767fae382018a6", func := "picklock/picklocklaw10.GbheadParses", spec := "gbheadParses", named := ["picklock/gbhead.ramBytes"], apart := false, laid := [("picklock/gbhead.ramBytes", laid_picklock_gbhead_ramBytes)] }
def GbheadParsesSaid : Prop := gbheadParsesRow.holds Tryd.pinned (OpenSpec.ofChange gbheadParsesSpec)

/-- ITS FALSE NEIGHBOUR: 'it returns false'. Refute it at one input. -/
def gbheadParsesWrong : ChangeSpec := { name := "gbheadParses", fn := fun _ => fun
  | [d] => { results := [.lit (.bool false)], args := [d] }
  | _ => none }
def GbheadParsesWrongFalsely : Prop := gbheadParsesRow.holds Tryd.pinned (OpenSpec.ofChange gbheadParsesWrong)

/-- 'picklocklaw10.GbheadTypes': WHATEVER THE INPUT: true; the input reads as it did. -/
def gbheadTypesSpec : ChangeSpec := { name := "gbheadTypes", fn := fun _ => fun
  | [d] => { results := [.lit (.bool true)], args := [d] }
  | _ => none }
def gbheadTypesRow : OpenClaim := { program := "ythomlnaabkfcpaadoor", sum := "751d64683d07f37b69386c88a6d5c1c7b51036a37bba2a4d78767fae382018a6", func := "picklock/picklocklaw10.GbheadTypes", spec := "gbheadTypes", named := ["picklock/gbhead.ramBytes"], apart := false, laid := [("picklock/gbhead.ramBytes", laid_picklock_gbhead_ramBytes)] }
def GbheadTypesSaid : Prop := gbheadTypesRow.holds Tryd.pinned (OpenSpec.ofChange gbheadTypesSpec)

/-- ITS FALSE NEIGHBOUR: 'it returns false'. Refute it at one input. -/
def gbheadTypesWrong : ChangeSpec := { name := "gbheadTypes", fn := fun _ => fun
  | [d] => { results := [.lit (.bool false)], args := [d] }
  | _ => none }
def GbheadTypesWrongFalsely : Prop := gbheadTypesRow.holds Tryd.pinned (OpenSpec.ofChange gbheadTypesWrong)

/-- 'picklocklaw10.GbheadSigns': WHATEVER THE INPUT: true; the input reads as it did. -/
def gbheadSignsSpec : ChangeSpec := { name := "gbheadSigns", fn := fun _ => fun
  | [d] => { results := [.lit (.bool true)], args := [d] }
  | _ => none }
def gbheadSignsRow : OpenClaim := { program := "ythomlnaabkfcpaadoor", sum := "751d64683d07f37b69386c88a6d5c1c7b51036a37bba2a4d78767fae382018a6", func := "picklock/picklocklaw10.GbheadSigns", spec := "gbheadSigns", named := ["picklock/gbhead.ramBytes"], apart := false, laid := [("picklock/gbhead.ramBytes", laid_picklock_gbhead_ramBytes)] }
def GbheadSignsSaid : Prop := gbheadSignsRow.holds Tryd.pinned (OpenSpec.ofChange gbheadSignsSpec)

/-- ITS FALSE NEIGHBOUR: 'it returns false'. Refute it at one input. -/
def gbheadSignsWrong : ChangeSpec := { name := "gbheadSigns", fn := fun _ => fun
  | [d] => { results := [.lit (.bool false)], args := [d] }
  | _ => none }
def GbheadSignsWrongFalsely : Prop := gbheadSignsRow.holds Tryd.pinned (OpenSpec.ofChange gbheadSignsWrong)

/-- 'picklocklaw10.GbheadOne': WHATEVER THE INPUT: true; the input reads as it did. -/
def gbheadOneSpec : ChangeSpec := { name := "gbheadOne", fn := fun _ => fun
  | [d1, d2, d3] => { results := [.lit (.bool true)], args := [d1, d2, d3] }
  | _ => none }
def gbheadOneRow : OpenClaim := { program := "ythomlnaabkfcpaadoor", sum := "751d64683d07f37b69386c88a6d5c1c7b51036a37bba2a4d78767fae382018a6", func := "picklock/picklocklaw10.GbheadOne", spec := "gbheadOne", named := ["picklock/gbhead.ramBytes"], apart := false, laid := [("picklock/gbhead.ramBytes", laid_picklock_gbhead_ramBytes)] }
def GbheadOneSaid : Prop := gbheadOneRow.holds Tryd.pinned (OpenSpec.ofChange gbheadOneSpec)

/-- ITS FALSE NEIGHBOUR: 'it returns false'. Refute it at one input. -/
def gbheadOneWrong : ChangeSpec := { name := "gbheadOne", fn := fun _ => fun
  | [d1, d2, d3] => { results := [.lit (.bool false)], args := [d1, d2, d3] }
  | _ => none }
def GbheadOneWrongFalsely : Prop := gbheadOneRow.holds Tryd.pinned (OpenSpec.ofChange gbheadOneWrong)

/-- 'picklocklaw10.GbheadMore': WHATEVER THE INPUT: true; the input reads as it did. -/
def gbheadMoreSpec : ChangeSpec := { name := "gbheadMore", fn := fun _ => fun
  | [d1, d2] => { results := [.lit (.bool true)], args := [d1, d2] }
  | _ => none }
def gbheadMoreRow : OpenClaim := { program := "ythomlnaabkfcpaadoor", sum := "751d64683d07f37b69386c88a6d5c1c7b51036a37bba2a4d78767fae382018a6", func := "picklock/picklocklaw10.GbheadMore", spec := "gbheadMore", named := ["picklock/gbhead.ramBytes"], apart := false, laid := [("picklock/gbhead.ramBytes", laid_picklock_gbhead_ramBytes)] }
def GbheadMoreSaid : Prop := gbheadMoreRow.holds Tryd.pinned (OpenSpec.ofChange gbheadMoreSpec)

/-- ITS FALSE NEIGHBOUR: 'it returns false'. Refute it at one input. -/
def gbheadMoreWrong : ChangeSpec := { name := "gbheadMore", fn := fun _ => fun
  | [d1, d2] => { results := [.lit (.bool false)], args := [d1, d2] }
  | _ => none }
def GbheadMoreWrongFalsely : Prop := gbheadMoreRow.holds Tryd.pinned (OpenSpec.ofChange gbheadMoreWrong)

/- THE SECOND FORM. 'bulk': how many values and letters a reading holds, each counted each time it is reached (what is shared counts as often as it is met; a slice's spare places count too). A statement '..UptoSaid' is the law's where the arguments, and the package variables that the reading takes, are together of bulk at most 1048576: NARROWER than '..Said'. Prove '..Said' where nothing that the law and all that it calls make is longer than what came in: it says more and counts as full. Else prove '..UptoSaid'. A law counts once. -/
mutual
def uptoBulk {H : Type} : DataW H → Nat
  | .lit (.string bytes) => bytes.length + 1
  | .lit _ => 1
  | .nil => 1
  | .ptr d => uptoBulk d + 1
  | .slice elems spare => uptoBulkAll elems + uptoBulkAll spare + 1
  | .agg parts => uptoBulkAll parts + 1
  | .iface _ d => uptoBulk d + 1
  | .map entries => uptoBulkEntries entries + 1
  | .held _ => 1
def uptoBulkAll {H : Type} : List (DataW H) → Nat
  | [] => 0
  | d :: r => uptoBulk d + uptoBulkAll r
def uptoBulkEntries {H : Type} : List (Lit × DataW H) → Nat
  | [] => 0
  | x :: r => uptoBulkEntry x + uptoBulkEntries r
def uptoBulkEntry {H : Type} : Lit × DataW H → Nat
  | (.string bytes, d) => bytes.length + uptoBulk d + 1
  | (_, d) => uptoBulk d + 1
 end
def uptoSmall : (H : Type) → List (DataW H) → Bool := fun _ ds => decide (uptoBulkAll ds ≤ 1048576)
def OpenSpec.upto (s : _root_.Go.ChangeSpec) : _root_.Go.OpenSpec := { _root_.Go.OpenSpec.ofChange s with cond := some uptoSmall }

/-- 'picklocklaw10.GbheadParses', WHERE WHAT IT READS IS OF BULK AT MOST 1048576: true; the input reads as it did. -/
def gbheadParsesUptoRow : OpenClaim := { program := "ythomlnaabkfcpaadoor", sum := "751d64683d07f37b69386c88a6d5c1c7b51036a37bba2a4d78767fae382018a6", func := "picklock/picklocklaw10.GbheadParses", spec := "gbheadParses", named := ["picklock/gbhead.ramBytes"], apart := false, laid := [("picklock/gbhead.ramBytes", laid_picklock_gbhead_ramBytes)], narrowed := true }
def GbheadParsesUptoSaid : Prop := gbheadParsesUptoRow.holds Tryd.pinned (OpenSpec.upto gbheadParsesSpec)

/-- 'picklocklaw10.GbheadTypes', WHERE WHAT IT READS IS OF BULK AT MOST 1048576: true; the input reads as it did. -/
def gbheadTypesUptoRow : OpenClaim := { program := "ythomlnaabkfcpaadoor", sum := "751d64683d07f37b69386c88a6d5c1c7b51036a37bba2a4d78767fae382018a6", func := "picklock/picklocklaw10.GbheadTypes", spec := "gbheadTypes", named := ["picklock/gbhead.ramBytes"], apart := false, laid := [("picklock/gbhead.ramBytes", laid_picklock_gbhead_ramBytes)], narrowed := true }
def GbheadTypesUptoSaid : Prop := gbheadTypesUptoRow.holds Tryd.pinned (OpenSpec.upto gbheadTypesSpec)

/-- 'picklocklaw10.GbheadSigns', WHERE WHAT IT READS IS OF BULK AT MOST 1048576: true; the input reads as it did. -/
def gbheadSignsUptoRow : OpenClaim := { program := "ythomlnaabkfcpaadoor", sum := "751d64683d07f37b69386c88a6d5c1c7b51036a37bba2a4d78767fae382018a6", func := "picklock/picklocklaw10.GbheadSigns", spec := "gbheadSigns", named := ["picklock/gbhead.ramBytes"], apart := false, laid := [("picklock/gbhead.ramBytes", laid_picklock_gbhead_ramBytes)], narrowed := true }
def GbheadSignsUptoSaid : Prop := gbheadSignsUptoRow.holds Tryd.pinned (OpenSpec.upto gbheadSignsSpec)

/-- 'picklocklaw10.GbheadOne', WHERE WHAT IT READS IS OF BULK AT MOST 1048576: true; the input reads as it did. -/
def gbheadOneUptoRow : OpenClaim := { program := "ythomlnaabkfcpaadoor", sum := "751d64683d07f37b69386c88a6d5c1c7b51036a37bba2a4d78767fae382018a6", func := "picklock/picklocklaw10.GbheadOne", spec := "gbheadOne", named := ["picklock/gbhead.ramBytes"], apart := false, laid := [("picklock/gbhead.ramBytes", laid_picklock_gbhead_ramBytes)], narrowed := true }
def GbheadOneUptoSaid : Prop := gbheadOneUptoRow.holds Tryd.pinned (OpenSpec.upto gbheadOneSpec)

/-- 'picklocklaw10.GbheadMore', WHERE WHAT IT READS IS OF BULK AT MOST 1048576: true; the input reads as it did. -/
def gbheadMoreUptoRow : OpenClaim := { program := "ythomlnaabkfcpaadoor", sum := "751d64683d07f37b69386c88a6d5c1c7b51036a37bba2a4d78767fae382018a6", func := "picklock/picklocklaw10.GbheadMore", spec := "gbheadMore", named := ["picklock/gbhead.ramBytes"], apart := false, laid := [("picklock/gbhead.ramBytes", laid_picklock_gbhead_ramBytes)], narrowed := true }
def GbheadMoreUptoSaid : Prop := gbheadMoreUptoRow.holds Tryd.pinned (OpenSpec.upto gbheadMoreSpec)

end Rows
end Go.Proofs.YthomlnaabkfcpaaDoor
