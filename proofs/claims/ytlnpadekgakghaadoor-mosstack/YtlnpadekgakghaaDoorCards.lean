/-
  DERIVED. GIVEN WITH THE SEED: THE CARDS: each row of YtlnpadekgakghaaDoorRows.lean that lists a variable, with what it lists TIED to the program's text (the seventh form; the later family's looks); each row that meets fmt, with fmt's text TOLD by the authors' own Lean function (tested against real Go, not proved from fmt's source: count such statements apart). THE CARD IS WHAT COUNTS. Prove the row's statement (the work); the ties are given (YtlnpadekgakghaaDoorTie.lean); close each card by the builder's one call (the guide's Derived/Test/ToyasCard.lean, 'card_holds'). Laid BY PROGRAM, IN A SANDBOX (cutbox-door.mjs). By AI agents, Wed Nov 11 2026. No macro, syntax, notation, axiom, sorry.
-/
import Derived.Test.YtlnpadekgakghaaDoorRows
import GoSem.ClaimSeven
namespace Go.Proofs.YtlnpadekgakghaaDoor
namespace Rows

/-- THE TIED CARD OF 'picklocklaw14.MosOne'. -/
def mosOneCard : Claim7 := { stood := { row := mosOneRow, standIns := [], harness := (true, "9952dadea32a392aa673cd50a12c8f2912870ffa0bc3002df14781accc6f6585"), looks := false }, kinds := [], alts := [], laidByText := true, laidKinds := [.data], laidTests := true, laidLooks := .later }
def MosOneCardSaid : Prop := Claim7.holds Tryd.pinned (.plain (OpenSpec.ofChange mosOneSpec)) mosOneCard

/-- THE TIED CARD OF 'picklocklaw14.MosPlays'. -/
def mosPlaysCard : Claim7 := { stood := { row := mosPlaysRow, standIns := [], harness := (true, "9952dadea32a392aa673cd50a12c8f2912870ffa0bc3002df14781accc6f6585"), looks := false }, kinds := [], alts := [], laidByText := true, laidKinds := [.data], laidTests := true, laidLooks := .later }
def MosPlaysCardSaid : Prop := Claim7.holds Tryd.pinned (.plain (OpenSpec.ofChange mosPlaysSpec)) mosPlaysCard

/-- THE TIED CARD OF 'picklocklaw14.MosHalts'. -/
def mosHaltsCard : Claim7 := { stood := { row := mosHaltsRow, standIns := [], harness := (true, "9952dadea32a392aa673cd50a12c8f2912870ffa0bc3002df14781accc6f6585"), looks := false }, kinds := [], alts := [], laidByText := true, laidKinds := [.data], laidTests := true, laidLooks := .later }
def MosHaltsCardSaid : Prop := Claim7.holds Tryd.pinned (.plain (OpenSpec.ofChange mosHaltsSpec)) mosHaltsCard

/-- THE TIED CARD OF 'picklocklaw14.MosStack'. -/
def mosStackCard : Claim7 := { stood := { row := mosStackRow, standIns := [], harness := (true, "9952dadea32a392aa673cd50a12c8f2912870ffa0bc3002df14781accc6f6585"), looks := false }, kinds := [], alts := [], laidByText := true, laidKinds := [.data], laidTests := true, laidLooks := .later }
def MosStackCardSaid : Prop := Claim7.holds Tryd.pinned (.plain (OpenSpec.ofChange mosStackSpec)) mosStackCard

/-- THE TIED CARD OF 'picklocklaw14.MosFlags'. -/
def mosFlagsCard : Claim7 := { stood := { row := mosFlagsRow, standIns := [], harness := (true, "9952dadea32a392aa673cd50a12c8f2912870ffa0bc3002df14781accc6f6585"), looks := false }, kinds := [], alts := [], laidByText := true, laidKinds := [.data], laidTests := true, laidLooks := .later }
def MosFlagsCardSaid : Prop := Claim7.holds Tryd.pinned (.plain (OpenSpec.ofChange mosFlagsSpec)) mosFlagsCard

/-- THE TIED CARD OF 'picklocklaw14.MosLoads'. -/
def mosLoadsCard : Claim7 := { stood := { row := mosLoadsRow, standIns := [], harness := (true, "9952dadea32a392aa673cd50a12c8f2912870ffa0bc3002df14781accc6f6585"), looks := false }, kinds := [], alts := [], laidByText := true, laidKinds := [.data], laidTests := true, laidLooks := .later }
def MosLoadsCardSaid : Prop := Claim7.holds Tryd.pinned (.plain (OpenSpec.ofChange mosLoadsSpec)) mosLoadsCard

/-- THE TIED CARD OF 'picklocklaw14.MosBranches'. -/
def mosBranchesCard : Claim7 := { stood := { row := mosBranchesRow, standIns := [], harness := (true, "9952dadea32a392aa673cd50a12c8f2912870ffa0bc3002df14781accc6f6585"), looks := false }, kinds := [], alts := [], laidByText := true, laidKinds := [.data], laidTests := true, laidLooks := .later }
def MosBranchesCardSaid : Prop := Claim7.holds Tryd.pinned (.plain (OpenSpec.ofChange mosBranchesSpec)) mosBranchesCard

/-- THE SECOND FORM's CARD OF 'picklocklaw14.MosOne'. -/
def mosOneUptoCard : Claim7 := { stood := { row := mosOneUptoRow, standIns := [], harness := (true, "9952dadea32a392aa673cd50a12c8f2912870ffa0bc3002df14781accc6f6585"), looks := false }, kinds := [], alts := [], laidByText := true, laidKinds := [.data], laidTests := true, laidLooks := .later }
def MosOneUptoCardSaid : Prop := Claim7.holds Tryd.pinned (.plain (OpenSpec.upto mosOneSpec)) mosOneUptoCard

/-- THE SECOND FORM's CARD OF 'picklocklaw14.MosPlays'. -/
def mosPlaysUptoCard : Claim7 := { stood := { row := mosPlaysUptoRow, standIns := [], harness := (true, "9952dadea32a392aa673cd50a12c8f2912870ffa0bc3002df14781accc6f6585"), looks := false }, kinds := [], alts := [], laidByText := true, laidKinds := [.data], laidTests := true, laidLooks := .later }
def MosPlaysUptoCardSaid : Prop := Claim7.holds Tryd.pinned (.plain (OpenSpec.upto mosPlaysSpec)) mosPlaysUptoCard

/-- THE SECOND FORM's CARD OF 'picklocklaw14.MosHalts'. -/
def mosHaltsUptoCard : Claim7 := { stood := { row := mosHaltsUptoRow, standIns := [], harness := (true, "9952dadea32a392aa673cd50a12c8f2912870ffa0bc3002df14781accc6f6585"), looks := false }, kinds := [], alts := [], laidByText := true, laidKinds := [.data], laidTests := true, laidLooks := .later }
def MosHaltsUptoCardSaid : Prop := Claim7.holds Tryd.pinned (.plain (OpenSpec.upto mosHaltsSpec)) mosHaltsUptoCard

/-- THE SECOND FORM's CARD OF 'picklocklaw14.MosStack'. -/
def mosStackUptoCard : Claim7 := { stood := { row := mosStackUptoRow, standIns := [], harness := (true, "9952dadea32a392aa673cd50a12c8f2912870ffa0bc3002df14781accc6f6585"), looks := false }, kinds := [], alts := [], laidByText := true, laidKinds := [.data], laidTests := true, laidLooks := .later }
def MosStackUptoCardSaid : Prop := Claim7.holds Tryd.pinned (.plain (OpenSpec.upto mosStackSpec)) mosStackUptoCard

/-- THE SECOND FORM's CARD OF 'picklocklaw14.MosFlags'. -/
def mosFlagsUptoCard : Claim7 := { stood := { row := mosFlagsUptoRow, standIns := [], harness := (true, "9952dadea32a392aa673cd50a12c8f2912870ffa0bc3002df14781accc6f6585"), looks := false }, kinds := [], alts := [], laidByText := true, laidKinds := [.data], laidTests := true, laidLooks := .later }
def MosFlagsUptoCardSaid : Prop := Claim7.holds Tryd.pinned (.plain (OpenSpec.upto mosFlagsSpec)) mosFlagsUptoCard

/-- THE SECOND FORM's CARD OF 'picklocklaw14.MosLoads'. -/
def mosLoadsUptoCard : Claim7 := { stood := { row := mosLoadsUptoRow, standIns := [], harness := (true, "9952dadea32a392aa673cd50a12c8f2912870ffa0bc3002df14781accc6f6585"), looks := false }, kinds := [], alts := [], laidByText := true, laidKinds := [.data], laidTests := true, laidLooks := .later }
def MosLoadsUptoCardSaid : Prop := Claim7.holds Tryd.pinned (.plain (OpenSpec.upto mosLoadsSpec)) mosLoadsUptoCard

/-- THE SECOND FORM's CARD OF 'picklocklaw14.MosBranches'. -/
def mosBranchesUptoCard : Claim7 := { stood := { row := mosBranchesUptoRow, standIns := [], harness := (true, "9952dadea32a392aa673cd50a12c8f2912870ffa0bc3002df14781accc6f6585"), looks := false }, kinds := [], alts := [], laidByText := true, laidKinds := [.data], laidTests := true, laidLooks := .later }
def MosBranchesUptoCardSaid : Prop := Claim7.holds Tryd.pinned (.plain (OpenSpec.upto mosBranchesSpec)) mosBranchesUptoCard
end Rows
end Go.Proofs.YtlnpadekgakghaaDoor
