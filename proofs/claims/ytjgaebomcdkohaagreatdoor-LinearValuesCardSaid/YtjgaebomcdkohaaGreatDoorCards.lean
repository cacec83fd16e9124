/-
  DERIVED. GIVEN WITH THE SEED: THE CARDS: each row of YtjgaebomcdkohaaGreatDoorRows.lean that lists a variable, with what it lists TIED to the program's text (the seventh form; the later family's looks); each row that meets fmt, with fmt's text TOLD by the authors' own Lean function (tested against real Go, not proved from fmt's source: count such statements apart). THE CARD IS WHAT COUNTS. Prove the row's statement (the work); the ties are given (YtjgaebomcdkohaaGreatDoorTie.lean); close each card by the builder's one call (the guide's Derived/Test/ToyasCard.lean, 'card_holds'). Laid BY PROGRAM, IN A SANDBOX (cutbox-door.mjs). By AI agents, Wed Nov 11 2026. No macro, syntax, notation, axiom, sorry.
-/
import Derived.Test.YtjgaebomcdkohaaGreatDoorRows
import GoSem.ClaimSeven
namespace Go.Proofs.YtjgaebomcdkohaaGreatDoor
namespace Rows

/-- THE TIED CARD OF 'framewiselaw04.LinearSums'. -/
def linearSumsCard : Claim7 := { stood := { row := linearSumsRow, standIns := [], harness := (true, "8dc37e9e7eec3c746313fdcf074152e8a8f18ada426e4b6a5d07853a31fbd247"), looks := true }, kinds := [], alts := [], laidByText := true, laidKinds := [.data, .data, .data, .data, .sentinel, .sentinel, .pinned], laidTests := true, laidLooks := .later }
def LinearSumsCardSaid : Prop := Claim7.holds Tryz.pinned (.plain (OpenSpec.ofChange linearSumsSpec)) linearSumsCard

/-- THE TIED CARD OF 'framewiselaw04.LinearSubst'. -/
def linearSubstCard : Claim7 := { stood := { row := linearSubstRow, standIns := [], harness := (true, "8dc37e9e7eec3c746313fdcf074152e8a8f18ada426e4b6a5d07853a31fbd247"), looks := true }, kinds := [], alts := [], laidByText := true, laidKinds := [.data, .data, .data, .data, .sentinel, .sentinel, .pinned], laidTests := true, laidLooks := .later }
def LinearSubstCardSaid : Prop := Claim7.holds Tryz.pinned (.plain (OpenSpec.ofChange linearSubstSpec)) linearSubstCard

/-- THE TIED CARD OF 'framewiselaw04.LinearValues'. -/
def linearValuesCard : Claim7 := { stood := { row := linearValuesRow, standIns := [], harness := (true, "8dc37e9e7eec3c746313fdcf074152e8a8f18ada426e4b6a5d07853a31fbd247"), looks := true }, kinds := [], alts := [], laidByText := true, laidKinds := [.data, .data, .data, .data, .sentinel, .sentinel, .pinned], laidTests := true, laidLooks := .later }
def LinearValuesCardSaid : Prop := Claim7.holds Tryz.pinned (.plain (OpenSpec.ofChange linearValuesSpec)) linearValuesCard

/-- THE TIED CARD OF 'framewiselaw04.LinearAlgebra'. -/
def linearAlgebraCard : Claim7 := { stood := { row := linearAlgebraRow, standIns := [], harness := (true, "8dc37e9e7eec3c746313fdcf074152e8a8f18ada426e4b6a5d07853a31fbd247"), looks := true }, kinds := [], alts := [], laidByText := true, laidKinds := [.data, .data, .data, .data, .sentinel, .sentinel, .pinned], laidTests := true, laidLooks := .later }
def LinearAlgebraCardSaid : Prop := Claim7.holds Tryz.pinned (.plain (OpenSpec.ofChange linearAlgebraSpec)) linearAlgebraCard

/-- THE TIED CARD OF 'framewiselaw04.LinearText'. -/
def linearTextCard : Claim7 := { stood := { row := linearTextRow, standIns := [], harness := (true, "8dc37e9e7eec3c746313fdcf074152e8a8f18ada426e4b6a5d07853a31fbd247"), looks := true }, kinds := [], alts := [], laidByText := true, laidKinds := [.data, .data, .data, .data, .sentinel, .sentinel, .pinned], laidTests := true, laidLooks := .later }
def LinearTextCardSaid : Prop := Claim7.holds Tryz.pinned (.plain (OpenSpec.ofChange linearTextSpec)) linearTextCard

/-- THE TIED CARD OF 'framewiselaw04.LinearOrder'. -/
def linearOrderCard : Claim7 := { stood := { row := linearOrderRow, standIns := [], harness := (true, "8dc37e9e7eec3c746313fdcf074152e8a8f18ada426e4b6a5d07853a31fbd247"), looks := true }, kinds := [], alts := [], laidByText := true, laidKinds := [.data, .data, .data, .data, .sentinel, .sentinel, .pinned], laidTests := true, laidLooks := .later }
def LinearOrderCardSaid : Prop := Claim7.holds Tryz.pinned (.plain (OpenSpec.ofChange linearOrderSpec)) linearOrderCard

/-- THE TIED CARD OF 'framewiselaw04.LinearCode'. -/
def linearCodeCard : Claim7 := { stood := { row := linearCodeRow, standIns := [], harness := (true, "8dc37e9e7eec3c746313fdcf074152e8a8f18ada426e4b6a5d07853a31fbd247"), looks := true }, kinds := [], alts := [], laidByText := true, laidKinds := [.data, .data, .data, .data, .sentinel, .sentinel, .pinned], laidTests := true, laidLooks := .later }
def LinearCodeCardSaid : Prop := Claim7.holds Tryz.pinned (.plain (OpenSpec.ofChange linearCodeSpec)) linearCodeCard

/-- THE SECOND FORM's CARD OF 'framewiselaw04.LinearSums'. -/
def linearSumsUptoCard : Claim7 := { stood := { row := linearSumsUptoRow, standIns := [], harness := (true, "8dc37e9e7eec3c746313fdcf074152e8a8f18ada426e4b6a5d07853a31fbd247"), looks := true }, kinds := [], alts := [], laidByText := true, laidKinds := [.data, .data, .data, .data, .sentinel, .sentinel, .pinned], laidTests := true, laidLooks := .later }
def LinearSumsUptoCardSaid : Prop := Claim7.holds Tryz.pinned (.plain (OpenSpec.upto linearSumsSpec)) linearSumsUptoCard

/-- THE SECOND FORM's CARD OF 'framewiselaw04.LinearSubst'. -/
def linearSubstUptoCard : Claim7 := { stood := { row := linearSubstUptoRow, standIns := [], harness := (true, "8dc37e9e7eec3c746313fdcf074152e8a8f18ada426e4b6a5d07853a31fbd247"), looks := true }, kinds := [], alts := [], laidByText := true, laidKinds := [.data, .data, .data, .data, .sentinel, .sentinel, .pinned], laidTests := true, laidLooks := .later }
def LinearSubstUptoCardSaid : Prop := Claim7.holds Tryz.pinned (.plain (OpenSpec.upto linearSubstSpec)) linearSubstUptoCard

/-- THE SECOND FORM's CARD OF 'framewiselaw04.LinearValues'. -/
def linearValuesUptoCard : Claim7 := { stood := { row := linearValuesUptoRow, standIns := [], harness := (true, "8dc37e9e7eec3c746313fdcf074152e8a8f18ada426e4b6a5d07853a31fbd247"), looks := true }, kinds := [], alts := [], laidByText := true, laidKinds := [.data, .data, .data, .data, .sentinel, .sentinel, .pinned], laidTests := true, laidLooks := .later }
def LinearValuesUptoCardSaid : Prop := Claim7.holds Tryz.pinned (.plain (OpenSpec.upto linearValuesSpec)) linearValuesUptoCard

/-- THE SECOND FORM's CARD OF 'framewiselaw04.LinearAlgebra'. -/
def linearAlgebraUptoCard : Claim7 := { stood := { row := linearAlgebraUptoRow, standIns := [], harness := (true, "8dc37e9e7eec3c746313fdcf074152e8a8f18ada426e4b6a5d07853a31fbd247"), looks := true }, kinds := [], alts := [], laidByText := true, laidKinds := [.data, .data, .data, .data, .sentinel, .sentinel, .pinned], laidTests := true, laidLooks := .later }
def LinearAlgebraUptoCardSaid : Prop := Claim7.holds Tryz.pinned (.plain (OpenSpec.upto linearAlgebraSpec)) linearAlgebraUptoCard

/-- THE SECOND FORM's CARD OF 'framewiselaw04.LinearText'. -/
def linearTextUptoCard : Claim7 := { stood := { row := linearTextUptoRow, standIns := [], harness := (true, "8dc37e9e7eec3c746313fdcf074152e8a8f18ada426e4b6a5d07853a31fbd247"), looks := true }, kinds := [], alts := [], laidByText := true, laidKinds := [.data, .data, .data, .data, .sentinel, .sentinel, .pinned], laidTests := true, laidLooks := .later }
def LinearTextUptoCardSaid : Prop := Claim7.holds Tryz.pinned (.plain (OpenSpec.upto linearTextSpec)) linearTextUptoCard

/-- THE SECOND FORM's CARD OF 'framewiselaw04.LinearOrder'. -/
def linearOrderUptoCard : Claim7 := { stood := { row := linearOrderUptoRow, standIns := [], harness := (true, "8dc37e9e7eec3c746313fdcf074152e8a8f18ada426e4b6a5d07853a31fbd247"), looks := true }, kinds := [], alts := [], laidByText := true, laidKinds := [.data, .data, .data, .data, .sentinel, .sentinel, .pinned], laidTests := true, laidLooks := .later }
def LinearOrderUptoCardSaid : Prop := Claim7.holds Tryz.pinned (.plain (OpenSpec.upto linearOrderSpec)) linearOrderUptoCard

/-- THE SECOND FORM's CARD OF 'framewiselaw04.LinearCode'. -/
def linearCodeUptoCard : Claim7 := { stood := { row := linearCodeUptoRow, standIns := [], harness := (true, "8dc37e9e7eec3c746313fdcf074152e8a8f18ada426e4b6a5d07853a31fbd247"), looks := true }, kinds := [], alts := [], laidByText := true, laidKinds := [.data, .data, .data, .data, .sentinel, .sentinel, .pinned], laidTests := true, laidLooks := .later }
def LinearCodeUptoCardSaid : Prop := Claim7.holds Tryz.pinned (.plain (OpenSpec.upto linearCodeSpec)) linearCodeUptoCard
end Rows
end Go.Proofs.YtjgaebomcdkohaaGreatDoor
