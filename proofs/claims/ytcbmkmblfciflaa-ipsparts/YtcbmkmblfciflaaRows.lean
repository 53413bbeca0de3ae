/-
  No cell of these rows narrows 'for every input' (looked for: loops, veiled, ifaces, maps, wideKeys, modest, calm, conditions, laid).
  DERIVED. THE GIVEN ROWS OF THIS SEAT. 5 by the template 'for every input the law returns true; each argument reads behind the call as it read before'; 0 by the template 'total and deterministic' (their statements: YtcbmkmblfciflaaTotals.lean).
  GIVEN WITH THE SEED: the statements are not yours to turn. If you find one false, say at which input.
  Laid BY PROGRAM, IN A SANDBOX (cutbox-rows.mjs): the forced cells as the released guide's own fill.sh prints them over the translation 90f5da4de70bb503… (all of the seat's roots in one cut). By AI agents, Wed Nov 11 2026. No macro, syntax, notation, axiom, sorry.
-/
import Derived.Test.YtcbmkmblfciflaaChecked
import GoSem.Claim
import GoSem.ClaimJoined
import GoSem.ClaimMapViews
import Derived.JoinedTies
import Derived.KernelRfl
namespace Go.Proofs.Ytcbmkmblfciflaa
/- THE CELL 'sum', in the pinned program and in every row, IS THE sha256 OF THE DUMP (.gsa) THAT YtcbmkmblfciflaaProg.lean LOADS. Nothing in Lean hashes anything: it is a label: what it is worth is what the hold of that sum in a sandbox is worth. -/
noncomputable def Try.pinned : Pinned := { name := "ytcbmkmblfciflaa", sum := "90f5da4de70bb50361697d8120d3efd894ae9e94863fc4417c2d92649db32157", checked := Try.checked }
namespace Rows
def none {H : Type} : Left H := { results := [], args := [] }

/-- 'picklocklaw04.IpsParses': WHATEVER THE INPUT: true; the input reads as it did. -/
def ipsParsesSpec : ChangeSpec := { name := "ipsParses", fn := fun _ => fun
  | [d1, d2] => { results := [.lit (.bool true)], args := [d1, d2] }
  | _ => none }
def ipsParsesRow : OpenClaim := { program := "ytcbmkmblfciflaa", sum := "90f5da4de70bb50361697d8120d3efd894ae9e94863fc4417c2d92649db32157", func := "picklock/picklocklaw04.IpsParses", spec := "ipsParses", unfollowed := true, recurses := true, apart := false }
def IpsParsesSaid : Prop := ipsParsesRow.holds Try.pinned (OpenSpec.ofChange ipsParsesSpec)

/-- ITS FALSE NEIGHBOUR: 'it returns false'. Refute it at one input. -/
def ipsParsesWrong : ChangeSpec := { name := "ipsParses", fn := fun _ => fun
  | [d1, d2] => { results := [.lit (.bool false)], args := [d1, d2] }
  | _ => none }
def IpsParsesWrongFalsely : Prop := ipsParsesRow.holds Try.pinned (OpenSpec.ofChange ipsParsesWrong)

/-- 'picklocklaw04.IpsApplies': WHATEVER THE INPUT: true; the input reads as it did. -/
def ipsAppliesSpec : ChangeSpec := { name := "ipsApplies", fn := fun _ => fun
  | [d1, d2] => { results := [.lit (.bool true)], args := [d1, d2] }
  | _ => none }
def ipsAppliesRow : OpenClaim := { program := "ytcbmkmblfciflaa", sum := "90f5da4de70bb50361697d8120d3efd894ae9e94863fc4417c2d92649db32157", func := "picklock/picklocklaw04.IpsApplies", spec := "ipsApplies", unfollowed := true, recurses := true, apart := false }
def IpsAppliesSaid : Prop := ipsAppliesRow.holds Try.pinned (OpenSpec.ofChange ipsAppliesSpec)

/-- ITS FALSE NEIGHBOUR: 'it returns false'. Refute it at one input. -/
def ipsAppliesWrong : ChangeSpec := { name := "ipsApplies", fn := fun _ => fun
  | [d1, d2] => { results := [.lit (.bool false)], args := [d1, d2] }
  | _ => none }
def IpsAppliesWrongFalsely : Prop := ipsAppliesRow.holds Try.pinned (OpenSpec.ofChange ipsAppliesWrong)

/-- 'picklocklaw04.IpsRaw': WHATEVER THE INPUT: true; the input reads as it did. -/
def ipsRawSpec : ChangeSpec := { name := "ipsRaw", fn := fun _ => fun
  | [d1, d2] => { results := [.lit (.bool true)], args := [d1, d2] }
  | _ => none }
def ipsRawRow : OpenClaim := { program := "ytcbmkmblfciflaa", sum := "90f5da4de70bb50361697d8120d3efd894ae9e94863fc4417c2d92649db32157", func := "picklock/picklocklaw04.IpsRaw", spec := "ipsRaw", unfollowed := true, recurses := true, apart := false }
def IpsRawSaid : Prop := ipsRawRow.holds Try.pinned (OpenSpec.ofChange ipsRawSpec)

/-- ITS FALSE NEIGHBOUR: 'it returns false'. Refute it at one input. -/
def ipsRawWrong : ChangeSpec := { name := "ipsRaw", fn := fun _ => fun
  | [d1, d2] => { results := [.lit (.bool false)], args := [d1, d2] }
  | _ => none }
def IpsRawWrongFalsely : Prop := ipsRawRow.holds Try.pinned (OpenSpec.ofChange ipsRawWrong)

/-- 'picklocklaw04.IpsParts': WHATEVER THE INPUT: true; the input reads as it did. -/
def ipsPartsSpec : ChangeSpec := { name := "ipsParts", fn := fun _ => fun
  | [d1, d2, d3] => { results := [.lit (.bool true)], args := [d1, d2, d3] }
  | _ => none }
def ipsPartsRow : OpenClaim := { program := "ytcbmkmblfciflaa", sum := "90f5da4de70bb50361697d8120d3efd894ae9e94863fc4417c2d92649db32157", func := "picklock/picklocklaw04.IpsParts", spec := "ipsParts", unfollowed := true, recurses := true, apart := false }
def IpsPartsSaid : Prop := ipsPartsRow.holds Try.pinned (OpenSpec.ofChange ipsPartsSpec)

/-- ITS FALSE NEIGHBOUR: 'it returns false'. Refute it at one input. -/
def ipsPartsWrong : ChangeSpec := { name := "ipsParts", fn := fun _ => fun
  | [d1, d2, d3] => { results := [.lit (.bool false)], args := [d1, d2, d3] }
  | _ => none }
def IpsPartsWrongFalsely : Prop := ipsPartsRow.holds Try.pinned (OpenSpec.ofChange ipsPartsWrong)

/-- 'picklocklaw04.IpsFar': WHATEVER THE INPUT: true; the input reads as it did. -/
def ipsFarSpec : ChangeSpec := { name := "ipsFar", fn := fun _ => fun
  | [d1, d2, d3] => { results := [.lit (.bool true)], args := [d1, d2, d3] }
  | _ => none }
def ipsFarRow : OpenClaim := { program := "ytcbmkmblfciflaa", sum := "90f5da4de70bb50361697d8120d3efd894ae9e94863fc4417c2d92649db32157", func := "picklock/picklocklaw04.IpsFar", spec := "ipsFar", unfollowed := true, recurses := true, apart := false }
def IpsFarSaid : Prop := ipsFarRow.holds Try.pinned (OpenSpec.ofChange ipsFarSpec)

/-- ITS FALSE NEIGHBOUR: 'it returns false'. Refute it at one input. -/
def ipsFarWrong : ChangeSpec := { name := "ipsFar", fn := fun _ => fun
  | [d1, d2, d3] => { results := [.lit (.bool false)], args := [d1, d2, d3] }
  | _ => none }
def IpsFarWrongFalsely : Prop := ipsFarRow.holds Try.pinned (OpenSpec.ofChange ipsFarWrong)

/- THE SECOND FORM. 'bulk': how many values and letters a reading holds, each counted each time it is reached (what is shared counts as often as it is met; a slice's spare places count too). A statement '..UptoSaid' is the law's where the arguments, and the package variables that the reading takes, are together of bulk at most 1048576: NARROWER than '..Said'. Prove '..Said' where nothing that the law and all that it calls make is longer than what came in: it says more and counts as full. Else prove '..UptoSaid'. A law counts once. -/
mutual
def uptoBulk {H : Type} : DataW H → Nat
  | .lit (.string bytes) => bytes.length + 1
  | .lit _ => 1
  | .nil => 1
  | .ptr d => uptoBulk d + 1
  | .slice elems spare => uptoBulkAll elems + uptoBulkAll spare + 1
  | .agg parts => uptoBulkAll parts + 1
  | .iface _ d => uptoBulk d + 1
  | .map entries => uptoBulkEntries entries + 1
  | .held _ => 1
def uptoBulkAll {H : Type} : List (DataW H) → Nat
  | [] => 0
  | d :: r => uptoBulk d + uptoBulkAll r
def uptoBulkEntries {H : Type} : List (Lit × DataW H) → Nat
  | [] => 0
  | x :: r => uptoBulkEntry x + uptoBulkEntries r
def uptoBulkEntry {H : Type} : Lit × DataW H → Nat
  | (.string bytes, d) => bytes.length + uptoBulk d + 1
  | (_, d) => uptoBulk d + 1
 end
def uptoSmall : (H : Type) → List (DataW H) → Bool := fun _ ds => decide (uptoBulkAll ds ≤ 1048576)
def OpenSpec.upto (s : _root_.Go.ChangeSpec) : _root_.Go.OpenSpec := { _root_.Go.OpenSpec.ofChange s with cond := some uptoSmall }

/-- 'picklocklaw04.IpsParses', WHERE WHAT IT READS IS OF BULK AT MOST 1048576: true; the input reads as it did. -/
def ipsParsesUptoRow : OpenClaim := { program := "ytcbmkmblfciflaa", sum := "90f5da4de70bb50361697d8120d3efd894ae9e94863fc4417c2d92649db32157", func := "picklock/picklocklaw04.IpsParses", spec := "ipsParses", unfollowed := true, recurses := true, apart := false, narrowed := true }
def IpsParsesUptoSaid : Prop := ipsParsesUptoRow.holds Try.pinned (OpenSpec.upto ipsParsesSpec)

/-- 'picklocklaw04.IpsApplies', WHERE WHAT IT READS IS OF BULK AT MOST 1048576: true; the input reads as it did. -/
def ipsAppliesUptoRow : OpenClaim := { program := "ytcbmkmblfciflaa", sum := "90f5da4de70bb50361697d8120d3efd894ae9e94863fc4417c2d92649db32157", func := "picklock/picklocklaw04.IpsApplies", spec := "ipsApplies", unfollowed := true, recurses := true, apart := false, narrowed := true }
def IpsAppliesUptoSaid : Prop := ipsAppliesUptoRow.holds Try.pinned (OpenSpec.upto ipsAppliesSpec)

/-- 'picklocklaw04.IpsRaw', WHERE WHAT IT READS IS OF BULK AT MOST 1048576: true; the input reads as it did. -/
def ipsRawUptoRow : OpenClaim := { program := "ytcbmkmblfciflaa", sum := "90f5da4de70bb50361697d8120d3efd894ae9e94863fc4417c2d92649db32157", func := "picklock/picklocklaw04.IpsRaw", spec := "ipsRaw", unfollowed := true, recurses := true, apart := false, narrowed := true }
def IpsRawUptoSaid : Prop := ipsRawUptoRow.holds Try.pinned (OpenSpec.upto ipsRawSpec)

/-- 'picklocklaw04.IpsParts', WHERE WHAT IT READS IS OF BULK AT MOST 1048576: true; the input reads as it did. -/
def ipsPartsUptoRow : OpenClaim := { program := "ytcbmkmblfciflaa", sum := "90f5da4de70bb50361697d8120d3efd894ae9e94863fc4417c2d92649db32157", func := "picklock/picklocklaw04.IpsParts", spec := "ipsParts", unfollowed := true, recurses := true, apart := false, narrowed := true }
def IpsPartsUptoSaid : Prop := ipsPartsUptoRow.holds Try.pinned (OpenSpec.upto ipsPartsSpec)

/-- 'picklocklaw04.IpsFar', WHERE WHAT IT READS IS OF BULK AT MOST 1048576: true; the input reads as it did. -/
def ipsFarUptoRow : OpenClaim := { program := "ytcbmkmblfciflaa", sum := "90f5da4de70bb50361697d8120d3efd894ae9e94863fc4417c2d92649db32157", func := "picklock/picklocklaw04.IpsFar", spec := "ipsFar", unfollowed := true, recurses := true, apart := false, narrowed := true }
def IpsFarUptoSaid : Prop := ipsFarUptoRow.holds Try.pinned (OpenSpec.upto ipsFarSpec)

end Rows
end Go.Proofs.Ytcbmkmblfciflaa
