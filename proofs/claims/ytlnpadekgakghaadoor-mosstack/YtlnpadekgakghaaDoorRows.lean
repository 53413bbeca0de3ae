/-
  NARROWER THAN 'FOR EVERY INPUT', by the rows' own cells (each row's printed sentence says how): MosOne: laid · MosPlays: laid · MosHalts: laid · MosStack: laid · MosFlags: laid · MosLoads: laid · MosBranches: laid.
  DERIVED. THE GIVEN ROWS OF THIS SEAT. 7 by the template 'for every input the law returns true; each argument reads behind the call as it read before'; 0 by the template 'total and deterministic' (their statements: YtlnpadekgakghaaDoorTotals.lean).
  GIVEN WITH THE SEED: the statements are not yours to turn. If you find one false, say at which input.
  Laid BY PROGRAM, IN A SANDBOX (cutbox-rows.mjs): the forced cells as the released guide's own fill.sh prints them over the translation e51617f9846ed5a5… (all of the seat's roots in one cut). By AI agents, Wed Nov 11 2026. No macro, syntax, notation, axiom, sorry.
-/
import Derived.Test.YtlnpadekgakghaaDoorChecked
import GoSem.Claim
import GoSem.ClaimJoined
import GoSem.ClaimMapViews
import Derived.JoinedTies
import Derived.KernelRfl
namespace Go.Proofs.YtlnpadekgakghaaDoor
/- THE CELL 'sum', in the pinned program and in every row, IS THE sha256 OF THE DUMP (.gsa) THAT YtlnpadekgakghaaDoorProg.lean LOADS. Nothing in Lean hashes anything: it is a label: what it is worth is what the hold of that sum in a sandbox is worth. -/
noncomputable def Tryd.pinned : Pinned := { name := "ytlnpadekgakghaadoor", sum := "e51617f9846ed5a517ba4222b0fa077889bf4b77bec6fd1378f6902c95ebabf8", checked := Tryd.checked }
namespace Rows
def none {H : Type} : Left H := { results := [], args := [] }

/- WHAT THE LISTED PACKAGE-LEVEL VARIABLES READ AS WHEN THE CALL BEGINS. Each datum BY PROGRAM (the guide's laid-datum.mjs) off the statement by which the dump's own 'gosem.cut.vars' lays the variable. In a bare row this is a premise. The card (YtlnpadekgakghaaDoorCards.lean) ties it to the program's text. -/
def laid_picklock_mos_opcodes {H : Type} : DataW H := .agg [.lit (.int .u32 14087), .lit (.int .u32 65702), .lit (.int .u32 327731), .lit (.int .u32 397109), .lit (.int .u32 537347), .lit (.int .u32 589858), .lit (.int .u32 659218), .lit (.int .u32 852068), .lit (.int .u32 921446), .lit (.int .u32 1056706), .lit (.int .u32 1114293), .lit (.int .u32 1376324), .lit (.int .u32 1445702), .lit (.int .u32 1582850), .lit (.int .u32 1638532), .lit (.int .u32 1900660), .lit (.int .u32 1970039), .lit (.int .u32 2109542), .lit (.int .u32 2163110), .lit (.int .u32 2361395), .lit (.int .u32 2425139), .lit (.int .u32 2494517), .lit (.int .u32 2635012), .lit (.int .u32 2687266), .lit (.int .u32 2756626), .lit (.int .u32 2885732), .lit (.int .u32 2949476), .lit (.int .u32 3018854), .lit (.int .u32 3154114), .lit (.int .u32 3211701), .lit (.int .u32 3473732), .lit (.int .u32 3543110), .lit (.int .u32 3681026), .lit (.int .u32 3735940), .lit (.int .u32 3998068), .lit (.int .u32 4067447), .lit (.int .u32 4208134), .lit (.int .u32 4260518), .lit (.int .u32 4522547), .lit (.int .u32 4591925), .lit (.int .u32 4731395), .lit (.int .u32 4784674), .lit (.int .u32 4854034), .lit (.int .u32 4992867), .lit (.int .u32 5046884), .lit (.int .u32 5116262), .lit (.int .u32 5251522), .lit (.int .u32 5309109), .lit (.int .u32 5571140), .lit (.int .u32 5640518), .lit (.int .u32 5777410), .lit (.int .u32 5833348), .lit (.int .u32 6095476), .lit (.int .u32 6164855), .lit (.int .u32 6304006), .lit (.int .u32 6357926), .lit (.int .u32 6619955), .lit (.int .u32 6689333), .lit (.int .u32 6829060), .lit (.int .u32 6882082), .lit (.int .u32 6951442), .lit (.int .u32 7090069), .lit (.int .u32 7144292), .lit (.int .u32 7213670), .lit (.int .u32 7348930), .lit (.int .u32 7406517), .lit (.int .u32 7668548), .lit (.int .u32 7737926), .lit (.int .u32 7875586), .lit (.int .u32 7930756), .lit (.int .u32 8192884), .lit (.int .u32 8262263), .lit (.int .u32 8457382), .lit (.int .u32 8654387), .lit (.int .u32 8719411), .lit (.int .u32 8785203), .lit (.int .u32 8918530), .lit (.int .u32 9050882), .lit (.int .u32 9178724), .lit (.int .u32 9243748), .lit (.int .u32 9309540), .lit (.int .u32 9446338), .lit (.int .u32 9505974), .lit (.int .u32 9702980), .lit (.int .u32 9768004), .lit (.int .u32 9833812), .lit (.int .u32 9968642), .lit (.int .u32 10030213), .lit (.int .u32 10100226), .lit (.int .u32 10292341), .lit (.int .u32 10488610), .lit (.int .u32 10553766), .lit (.int .u32 10619426), .lit (.int .u32 10750771), .lit (.int .u32 10815795), .lit (.int .u32 10881587), .lit (.int .u32 11016706), .lit (.int .u32 11077922), .lit (.int .u32 11147522), .lit (.int .u32 11275108), .lit (.int .u32 11340132), .lit (.int .u32 11405924), .lit (.int .u32 11543746), .lit (.int .u32 11602357), .lit (.int .u32 11799364), .lit (.int .u32 11864388), .lit (.int .u32 11930196), .lit (.int .u32 12069122), .lit (.int .u32 12126596), .lit (.int .u32 12197122), .lit (.int .u32 12323700), .lit (.int .u32 12388724), .lit (.int .u32 12454532), .lit (.int .u32 12584738), .lit (.int .u32 12649894), .lit (.int .u32 12846899), .lit (.int .u32 12911923), .lit (.int .u32 12981045), .lit (.int .u32 13113346), .lit (.int .u32 13174050), .lit (.int .u32 13243650), .lit (.int .u32 13371236), .lit (.int .u32 13436260), .lit (.int .u32 13505382), .lit (.int .u32 13641154), .lit (.int .u32 13698485), .lit (.int .u32 13960516), .lit (.int .u32 14029638), .lit (.int .u32 14166530), .lit (.int .u32 14222724), .lit (.int .u32 14484852), .lit (.int .u32 14553975), .lit (.int .u32 14681634), .lit (.int .u32 14746790), .lit (.int .u32 14943795), .lit (.int .u32 15008819), .lit (.int .u32 15078453), .lit (.int .u32 15210242), .lit (.int .u32 15270946), .lit (.int .u32 15347202), .lit (.int .u32 15468132), .lit (.int .u32 15533156), .lit (.int .u32 15602790), .lit (.int .u32 15738562), .lit (.int .u32 15795381), .lit (.int .u32 16057412), .lit (.int .u32 16127046), .lit (.int .u32 16264450), .lit (.int .u32 16319620), .lit (.int .u32 16581748), .lit (.int .u32 16651383)]

/-- 'picklocklaw14.MosOne': WHATEVER THE INPUT: true; the input reads as it did. -/
def mosOneSpec : ChangeSpec := { name := "mosOne", fn := fun _ => fun
  | [d1, d2, d3] => { results := [.lit (.bool true)], args := [d1, d2, d3] }
  | _ => none }
def mosOneRow : OpenClaim := { program := "ytlnpadekgakghaadoor", sum := "e51617f9846ed5a517ba4222b0fa077889bf4b77bec6fd1378f6902c95ebabf8", func := "picklock/picklocklaw14.MosOne", spec := "mosOne", unfollowed := true, recurses := true, named := ["picklock/mos.opcodes"], apart := false, laid := [("picklock/mos.opcodes", laid_picklock_mos_opcodes)] }
def MosOneSaid : Prop := mosOneRow.holds Tryd.pinned (OpenSpec.ofChange mosOneSpec)

/-- ITS FALSE NEIGHBOUR: 'it returns false'. Refute it at one input. -/
def mosOneWrong : ChangeSpec := { name := "mosOne", fn := fun _ => fun
  | [d1, d2, d3] => { results := [.lit (.bool false)], args := [d1, d2, d3] }
  | _ => none }
def MosOneWrongFalsely : Prop := mosOneRow.holds Tryd.pinned (OpenSpec.ofChange mosOneWrong)

/-- 'picklocklaw14.MosPlays': WHATEVER THE INPUT: true; the input reads as it did. -/
def mosPlaysSpec : ChangeSpec := { name := "mosPlays", fn := fun _ => fun
  | [d1, d2, d3] => { results := [.lit (.bool true)], args := [d1, d2, d3] }
  | _ => none }
def mosPlaysRow : OpenClaim := { program := "ytlnpadekgakghaadoor", sum := "e51617f9846ed5a517ba4222b0fa077889bf4b77bec6fd1378f6902c95ebabf8", func := "picklock/picklocklaw14.MosPlays", spec := "mosPlays", unfollowed := true, recurses := true, named := ["picklock/mos.opcodes"], apart := false, laid := [("picklock/mos.opcodes", laid_picklock_mos_opcodes)] }
def MosPlaysSaid : Prop := mosPlaysRow.holds Tryd.pinned (OpenSpec.ofChange mosPlaysSpec)

/-- ITS FALSE NEIGHBOUR: 'it returns false'. Refute it at one input. -/
def mosPlaysWrong : ChangeSpec := { name := "mosPlays", fn := fun _ => fun
  | [d1, d2, d3] => { results := [.lit (.bool false)], args := [d1, d2, d3] }
  | _ => none }
def MosPlaysWrongFalsely : Prop := mosPlaysRow.holds Tryd.pinned (OpenSpec.ofChange mosPlaysWrong)

/-- 'picklocklaw14.MosHalts': WHATEVER THE INPUT: true; the input reads as it did. -/
def mosHaltsSpec : ChangeSpec := { name := "mosHalts", fn := fun _ => fun
  | [d1, d2, d3] => { results := [.lit (.bool true)], args := [d1, d2, d3] }
  | _ => none }
def mosHaltsRow : OpenClaim := { program := "ytlnpadekgakghaadoor", sum := "e51617f9846ed5a517ba4222b0fa077889bf4b77bec6fd1378f6902c95ebabf8", func := "picklock/picklocklaw14.MosHalts", spec := "mosHalts", unfollowed := true, recurses := true, named := ["picklock/mos.opcodes"], apart := false, laid := [("picklock/mos.opcodes", laid_picklock_mos_opcodes)] }
def MosHaltsSaid : Prop := mosHaltsRow.holds Tryd.pinned (OpenSpec.ofChange mosHaltsSpec)

/-- ITS FALSE NEIGHBOUR: 'it returns false'. Refute it at one input. -/
def mosHaltsWrong : ChangeSpec := { name := "mosHalts", fn := fun _ => fun
  | [d1, d2, d3] => { results := [.lit (.bool false)], args := [d1, d2, d3] }
  | _ => none }
def MosHaltsWrongFalsely : Prop := mosHaltsRow.holds Tryd.pinned (OpenSpec.ofChange mosHaltsWrong)

/-- 'picklocklaw14.MosStack': WHATEVER THE INPUT: true; the input reads as it did. -/
def mosStackSpec : ChangeSpec := { name := "mosStack", fn := fun _ => fun
  | [d1, d2, d3] => { results := [.lit (.bool true)], args := [d1, d2, d3] }
  | _ => none }
def mosStackRow : OpenClaim := { program := "ytlnpadekgakghaadoor", sum := "e51617f9846ed5a517ba4222b0fa077889bf4b77bec6fd1378f6902c95ebabf8", func := "picklock/picklocklaw14.MosStack", spec := "mosStack", unfollowed := true, recurses := true, named := ["picklock/mos.opcodes"], apart := false, laid := [("picklock/mos.opcodes", laid_picklock_mos_opcodes)] }
def MosStackSaid : Prop := mosStackRow.holds Tryd.pinned (OpenSpec.ofChange mosStackSpec)

/-- ITS FALSE NEIGHBOUR: 'it returns false'. Refute it at one input. -/
def mosStackWrong : ChangeSpec := { name := "mosStack", fn := fun _ => fun
  | [d1, d2, d3] => { results := [.lit (.bool false)], args := [d1, d2, d3] }
  | _ => none }
def MosStackWrongFalsely : Prop := mosStackRow.holds Tryd.pinned (OpenSpec.ofChange mosStackWrong)

/-- 'picklocklaw14.MosFlags': WHATEVER THE INPUT: true; the input reads as it did. -/
def mosFlagsSpec : ChangeSpec := { name := "mosFlags", fn := fun _ => fun
  | [d1, d2, d3] => { results := [.lit (.bool true)], args := [d1, d2, d3] }
  | _ => none }
def mosFlagsRow : OpenClaim := { program := "ytlnpadekgakghaadoor", sum := "e51617f9846ed5a517ba4222b0fa077889bf4b77bec6fd1378f6902c95ebabf8", func := "picklock/picklocklaw14.MosFlags", spec := "mosFlags", unfollowed := true, recurses := true, named := ["picklock/mos.opcodes"], apart := false, laid := [("picklock/mos.opcodes", laid_picklock_mos_opcodes)] }
def MosFlagsSaid : Prop := mosFlagsRow.holds Tryd.pinned (OpenSpec.ofChange mosFlagsSpec)

/-- ITS FALSE NEIGHBOUR: 'it returns false'. Refute it at one input. -/
def mosFlagsWrong : ChangeSpec := { name := "mosFlags", fn := fun _ => fun
  | [d1, d2, d3] => { results := [.lit (.bool false)], args := [d1, d2, d3] }
  | _ => none }
def MosFlagsWrongFalsely : Prop := mosFlagsRow.holds Tryd.pinned (OpenSpec.ofChange mosFlagsWrong)

/-- 'picklocklaw14.MosLoads': WHATEVER THE INPUT: true; the input reads as it did. -/
def mosLoadsSpec : ChangeSpec := { name := "mosLoads", fn := fun _ => fun
  | [d1, d2, d3] => { results := [.lit (.bool true)], args := [d1, d2, d3] }
  | _ => none }
def mosLoadsRow : OpenClaim := { program := "ytlnpadekgakghaadoor", sum := "e51617f9846ed5a517ba4222b0fa077889bf4b77bec6fd1378f6902c95ebabf8", func := "picklock/picklocklaw14.MosLoads", spec := "mosLoads", unfollowed := true, recurses := true, named := ["picklock/mos.opcodes"], apart := false, laid := [("picklock/mos.opcodes", laid_picklock_mos_opcodes)] }
def MosLoadsSaid : Prop := mosLoadsRow.holds Tryd.pinned (OpenSpec.ofChange mosLoadsSpec)

/-- ITS FALSE NEIGHBOUR: 'it returns false'. Refute it at one input. -/
def mosLoadsWrong : ChangeSpec := { name := "mosLoads", fn := fun _ => fun
  | [d1, d2, d3] => { results := [.lit (.bool false)], args := [d1, d2, d3] }
  | _ => none }
def MosLoadsWrongFalsely : Prop := mosLoadsRow.holds Tryd.pinned (OpenSpec.ofChange mosLoadsWrong)

/-- 'picklocklaw14.MosBranches': WHATEVER THE INPUT: true; the input reads as it did. -/
def mosBranchesSpec : ChangeSpec := { name := "mosBranches", fn := fun _ => fun
  | [d1, d2, d3] => { results := [.lit (.bool true)], args := [d1, d2, d3] }
  | _ => none }
def mosBranchesRow : OpenClaim := { program := "ytlnpadekgakghaadoor", sum := "e51617f9846ed5a517ba4222b0fa077889bf4b77bec6fd1378f6902c95ebabf8", func := "picklock/picklocklaw14.MosBranches", spec := "mosBranches", unfollowed := true, recurses := true, named := ["picklock/mos.opcodes"], apart := false, laid := [("picklock/mos.opcodes", laid_picklock_mos_opcodes)] }
def MosBranchesSaid : Prop := mosBranchesRow.holds Tryd.pinned (OpenSpec.ofChange mosBranchesSpec)

/-- ITS FALSE NEIGHBOUR: 'it returns false'. Refute it at one input. -/
def mosBranchesWrong : ChangeSpec := { name := "mosBranches", fn := fun _ => fun
  | [d1, d2, d3] => { results := [.lit (.bool false)], args := [d1, d2, d3] }
  | _ => none }
def MosBranchesWrongFalsely : Prop := mosBranchesRow.holds Tryd.pinned (OpenSpec.ofChange mosBranchesWrong)

/- THE SECOND FORM. 'bulk': how many values and letters a reading holds, each counted each time it is reached (what is shared counts as often as it is met; a slice's spare places count too). A statement '..UptoSaid' is the law's where the arguments, and the package variables that the reading takes, are together of bulk at most 1048576: NARROWER than '..Said'. Prove '..Said' where nothing that the law and all that it calls make is longer than what came in: it says more and counts as full. Else prove '..UptoSaid'. A law counts once. -/
mutual
def uptoBulk {H : Type} : DataW H → Nat
  | .lit (.string bytes) => bytes.length + 1
  | .lit _ => 1
  | .nil => 1
  | .ptr d => uptoBulk d + 1
  | .slice elems spare => uptoBulkAll elems + uptoBulkAll spare + 1
  | .agg parts => uptoBulkAll parts + 1
  | .iface _ d => uptoBulk d + 1
  | .map entries => uptoBulkEntries entries + 1
  | .held _ => 1
def uptoBulkAll {H : Type} : List (DataW H) → Nat
  | [] => 0
  | d :: r => uptoBulk d + uptoBulkAll r
def uptoBulkEntries {H : Type} : List (Lit × DataW H) → Nat
  | [] => 0
  | x :: r => uptoBulkEntry x + uptoBulkEntries r
def uptoBulkEntry {H : Type} : Lit × DataW H → Nat
  | (.string bytes, d) => bytes.length + uptoBulk d + 1
  | (_, d) => uptoBulk d + 1
 end
def uptoSmall : (H : Type) → List (DataW H) → Bool := fun _ ds => decide (uptoBulkAll ds ≤ 1048576)
def OpenSpec.upto (s : _root_.Go.ChangeSpec) : _root_.Go.OpenSpec := { _root_.Go.OpenSpec.ofChange s with cond := some uptoSmall }

/-- 'picklocklaw14.MosOne', WHERE WHAT IT READS IS OF BULK AT MOST 1048576: true; the input reads as it did. -/
def mosOneUptoRow : OpenClaim := { program := "ytlnpadekgakghaadoor", sum := "e51617f9846ed5a517ba4222b0fa077889bf4b77bec6fd1378f6902c95ebabf8", func := "picklock/picklocklaw14.MosOne", spec := "mosOne", unfollowed := true, recurses := true, named := ["picklock/mos.opcodes"], apart := false, laid := [("picklock/mos.opcodes", laid_picklock_mos_opcodes)], narrowed := true }
def MosOneUptoSaid : Prop := mosOneUptoRow.holds Tryd.pinned (OpenSpec.upto mosOneSpec)

/-- 'picklocklaw14.MosPlays', WHERE WHAT IT READS IS OF BULK AT MOST 1048576: true; the input reads as it did. -/
def mosPlaysUptoRow : OpenClaim := { program := "ytlnpadekgakghaadoor", sum := "e51617f9846ed5a517ba4222b0fa077889bf4b77bec6fd1378f6902c95ebabf8", func := "picklock/picklocklaw14.MosPlays", spec := "mosPlays", unfollowed := true, recurses := true, named := ["picklock/mos.opcodes"], apart := false, laid := [("picklock/mos.opcodes", laid_picklock_mos_opcodes)], narrowed := true }
def MosPlaysUptoSaid : Prop := mosPlaysUptoRow.holds Tryd.pinned (OpenSpec.upto mosPlaysSpec)

/-- 'picklocklaw14.MosHalts', WHERE WHAT IT READS IS OF BULK AT MOST 1048576: true; the input reads as it did. -/
def mosHaltsUptoRow : OpenClaim := { program := "ytlnpadekgakghaadoor", sum := "e51617f9846ed5a517ba4222b0fa077889bf4b77bec6fd1378f6902c95ebabf8", func := "picklock/picklocklaw14.MosHalts", spec := "mosHalts", unfollowed := true, recurses := true, named := ["picklock/mos.opcodes"], apart := false, laid := [("picklock/mos.opcodes", laid_picklock_mos_opcodes)], narrowed := true }
def MosHaltsUptoSaid : Prop := mosHaltsUptoRow.holds Tryd.pinned (OpenSpec.upto mosHaltsSpec)

/-- 'picklocklaw14.MosStack', WHERE WHAT IT READS IS OF BULK AT MOST 1048576: true; the input reads as it did. -/
def mosStackUptoRow : OpenClaim := { program := "ytlnpadekgakghaadoor", sum := "e51617f9846ed5a517ba4222b0fa077889bf4b77bec6fd1378f6902c95ebabf8", func := "picklock/picklocklaw14.MosStack", spec := "mosStack", unfollowed := true, recurses := true, named := ["picklock/mos.opcodes"], apart := false, laid := [("picklock/mos.opcodes", laid_picklock_mos_opcodes)], narrowed := true }
def MosStackUptoSaid : Prop := mosStackUptoRow.holds Tryd.pinned (OpenSpec.upto mosStackSpec)

/-- 'picklocklaw14.MosFlags', WHERE WHAT IT READS IS OF BULK AT MOST 1048576: true; the input reads as it did. -/
def mosFlagsUptoRow : OpenClaim := { program := "ytlnpadekgakghaadoor", sum := "e51617f9846ed5a517ba4222b0fa077889bf4b77bec6fd1378f6902c95ebabf8", func := "picklock/picklocklaw14.MosFlags", spec := "mosFlags", unfollowed := true, recurses := true, named := ["picklock/mos.opcodes"], apart := false, laid := [("picklock/mos.opcodes", laid_picklock_mos_opcodes)], narrowed := true }
def MosFlagsUptoSaid : Prop := mosFlagsUptoRow.holds Tryd.pinned (OpenSpec.upto mosFlagsSpec)

/-- 'picklocklaw14.MosLoads', WHERE WHAT IT READS IS OF BULK AT MOST 1048576: true; the input reads as it did. -/
def mosLoadsUptoRow : OpenClaim := { program := "ytlnpadekgakghaadoor", sum := "e51617f9846ed5a517ba4222b0fa077889bf4b77bec6fd1378f6902c95ebabf8", func := "picklock/picklocklaw14.MosLoads", spec := "mosLoads", unfollowed := true, recurses := true, named := ["picklock/mos.opcodes"], apart := false, laid := [("picklock/mos.opcodes", laid_picklock_mos_opcodes)], narrowed := true }
def MosLoadsUptoSaid : Prop := mosLoadsUptoRow.holds Tryd.pinned (OpenSpec.upto mosLoadsSpec)

/-- 'picklocklaw14.MosBranches', WHERE WHAT IT READS IS OF BULK AT MOST 1048576: true; the input reads as it did. -/
def mosBranchesUptoRow : OpenClaim := { program := "ytlnpadekgakghaadoor", sum := "e51617f9846ed5a517ba4222b0fa077889bf4b77bec6fd1378f6902c95ebabf8", func := "picklock/picklocklaw14.MosBranches", spec := "mosBranches", unfollowed := true, recurses := true, named := ["picklock/mos.opcodes"], apart := false, laid := [("picklock/mos.opcodes", laid_picklock_mos_opcodes)], narrowed := true }
def MosBranchesUptoSaid : Prop := mosBranchesUptoRow.holds Tryd.pinned (OpenSpec.upto mosBranchesSpec)

end Rows
end Go.Proofs.YtlnpadekgakghaaDoor
