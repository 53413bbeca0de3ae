/-
  DERIVED. GIVEN WITH THE SEED: THE CARDS: each row of YthomlnaabkfcpaaDoorRows.lean that lists a variable, with what it lists TIED to the program's text (the seventh form; the later family's looks); each row that meets fmt, with fmt's text TOLD by the authors' own Lean function (tested against real Go, not proved from fmt's source: count such statements apart). THE CARD IS WHAT COUNTS. Prove the row's statement (the work); the ties are given (YthomlnaabkfcpaaDoorTie.lean); close each card by the builder's one call (the guide's Derived/Test/ToyasCard.lean, 'card_holds'). Laid BY PROGRAM, IN A SANDBOX (cutbox-door.mjs). By AI agents, Wed Nov 11 2026. No macro, syntax, notation, axiom, sorry.
-/
import Derived.Test.YthomlnaabkfcpaaDoorRows
import GoSem.ClaimSeven
namespace Go.Proofs.YthomlnaabkfcpaaDoor
namespace Rows

/-- THE TIED CARD OF 'picklocklaw10.GbheadParses'. -/
def gbheadParsesCard : Claim7 := { stood := { row := gbheadParsesRow, standIns := [], harness := (true, "1b7ed3509f0bcd0e2320f4661958fa0bfe6a201ae830fece5e5c8caf56c94da7"), looks := false }, kinds := [], alts := [], laidByText := true, laidKinds := [.data], laidTests := true, laidLooks := .later }
def GbheadParsesCardSaid : Prop := Claim7.holds Tryd.pinned (.plain (OpenSpec.ofChange gbheadParsesSpec)) gbheadParsesCard

/-- THE TIED CARD OF 'picklocklaw10.GbheadTypes'. -/
def gbheadTypesCard : Claim7 := { stood := { row := gbheadTypesRow, standIns := [], harness := (true, "1b7ed3509f0bcd0e2320f4661958fa0bfe6a201ae830fece5e5c8caf56c94da7"), looks := false }, kinds := [], alts := [], laidByText := true, laidKinds := [.data], laidTests := true, laidLooks := .later }
def GbheadTypesCardSaid : Prop := Claim7.holds Tryd.pinned (.plain (OpenSpec.ofChange gbheadTypesSpec)) gbheadTypesCard

/-- THE TIED CARD OF 'picklocklaw10.GbheadSigns'. -/
def gbheadSignsCard : Claim7 := { stood := { row := gbheadSignsRow, standIns := [], harness := (true, "1b7ed3509f0bcd0e2320f4661958fa0bfe6a201ae830fece5e5c8caf56c94da7"), looks := false }, kinds := [], alts := [], laidByText := true, laidKinds := [.data], laidTests := true, laidLooks := .later }
def GbheadSignsCardSaid : Prop := Claim7.holds Tryd.pinned (.plain (OpenSpec.ofChange gbheadSignsSpec)) gbheadSignsCard

/-- THE TIED CARD OF 'picklocklaw10.GbheadOne'. -/
def gbheadOneCard : Claim7 := { stood := { row := gbheadOneRow, standIns := [], harness := (true, "1b7ed3509f0bcd0e2320f4661958fa0bfe6a201ae830fece5e5c8caf56c94da7"), looks := false }, kinds := [], alts := [], laidByText := true, laidKinds := [.data], laidTests := true, laidLooks := .later }
def GbheadOneCardSaid : Prop := Claim7.holds Tryd.pinned (.plain (OpenSpec.ofChange gbheadOneSpec)) gbheadOneCard

/-- THE TIED CARD OF 'picklocklaw10.GbheadMore'. -/
def gbheadMoreCard : Claim7 := { stood := { row := gbheadMoreRow, standIns := [], harness := (true, "1b7ed3509f0bcd0e2320f4661958fa0bfe6a201ae830fece5e5c8caf56c94da7"), looks := false }, kinds := [], alts := [], laidByText := true, laidKinds := [.data], laidTests := true, laidLooks := .later }
def GbheadMoreCardSaid : Prop := Claim7.holds Tryd.pinned (.plain (OpenSpec.ofChange gbheadMoreSpec)) gbheadMoreCard

/-- THE SECOND FORM's CARD OF 'picklocklaw10.GbheadParses'. -/
def gbheadParsesUptoCard : Claim7 := { stood := { row := gbheadParsesUptoRow, standIns := [], harness := (true, "1b7ed3509f0bcd0e2320f4661958fa0bfe6a201ae830fece5e5c8caf56c94da7"), looks := false }, kinds := [], alts := [], laidByText := true, laidKinds := [.data], laidTests := true, laidLooks := .later }
def GbheadParsesUptoCardSaid : Prop := Claim7.holds Tryd.pinned (.plain (OpenSpec.upto gbheadParsesSpec)) gbheadParsesUptoCard

/-- THE SECOND FORM's CARD OF 'picklocklaw10.GbheadTypes'. -/
def gbheadTypesUptoCard : Claim7 := { stood := { row := gbheadTypesUptoRow, standIns := [], harness := (true, "1b7ed3509f0bcd0e2320f4661958fa0bfe6a201ae830fece5e5c8caf56c94da7"), looks := false }, kinds := [], alts := [], laidByText := true, laidKinds := [.data], laidTests := true, laidLooks := .later }
def GbheadTypesUptoCardSaid : Prop := Claim7.holds Tryd.pinned (.plain (OpenSpec.upto gbheadTypesSpec)) gbheadTypesUptoCard

/-- THE SECOND FORM's CARD OF 'picklocklaw10.GbheadSigns'. -/
def gbheadSignsUptoCard : Claim7 := { stood := { row := gbheadSignsUptoRow, standIns := [], harness := (true, "1b7ed3509f0bcd0e2320f4661958fa0bfe6a201ae830fece5e5c8caf56c94da7"), looks := false }, kinds := [], alts := [], laidByText := true, laidKinds := [.data], laidTests := true, laidLooks := .later }
def GbheadSignsUptoCardSaid : Prop := Claim7.holds Tryd.pinned (.plain (OpenSpec.upto gbheadSignsSpec)) gbheadSignsUptoCard

/-- THE SECOND FORM's CARD OF 'picklocklaw10.GbheadOne'. -/
def gbheadOneUptoCard : Claim7 := { stood := { row := gbheadOneUptoRow, standIns := [], harness := (true, "1b7ed3509f0bcd0e2320f4661958fa0bfe6a201ae830fece5e5c8caf56c94da7"), looks := false }, kinds := [], alts := [], laidByText := true, laidKinds := [.data], laidTests := true, laidLooks := .later }
def GbheadOneUptoCardSaid : Prop := Claim7.holds Tryd.pinned (.plain (OpenSpec.upto gbheadOneSpec)) gbheadOneUptoCard

/-- THE SECOND FORM's CARD OF 'picklocklaw10.GbheadMore'. -/
def gbheadMoreUptoCard : Claim7 := { stood := { row := gbheadMoreUptoRow, standIns := [], harness := (true, "1b7ed3509f0bcd0e2320f4661958fa0bfe6a201ae830fece5e5c8caf56c94da7"), looks := false }, kinds := [], alts := [], laidByText := true, laidKinds := [.data], laidTests := true, laidLooks := .later }
def GbheadMoreUptoCardSaid : Prop := Claim7.holds Tryd.pinned (.plain (OpenSpec.upto gbheadMoreSpec)) gbheadMoreUptoCard
end Rows
end Go.Proofs.YthomlnaabkfcpaaDoor
