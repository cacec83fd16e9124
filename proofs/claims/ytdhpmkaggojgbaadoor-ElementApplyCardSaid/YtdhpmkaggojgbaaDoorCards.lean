/-
  DERIVED. GIVEN WITH THE SEED: THE CARDS: each row of YtdhpmkaggojgbaaDoorRows.lean that lists a variable, with what it lists TIED to the program's text (the seventh form; the later family's looks); each row that meets fmt, with fmt's text TOLD by the authors' own Lean function (tested against real Go, not proved from fmt's source: count such statements apart). THE CARD IS WHAT COUNTS. Prove the row's statement (the work); the ties are given (YtdhpmkaggojgbaaDoorTie.lean); close each card by the builder's one call (the guide's Derived/Test/ToyasCard.lean, 'card_holds'). Laid BY PROGRAM, IN A SANDBOX (cutbox-door.mjs). By AI agents, Wed Nov 11 2026. No macro, syntax, notation, axiom, sorry.
-/
import Derived.Test.YtdhpmkaggojgbaaDoorRows
import GoSem.ClaimSeven
namespace Go.Proofs.YtdhpmkaggojgbaaDoor
namespace Rows

/-- THE TIED CARD OF 'framewiselaw17.ElementApply'. -/
def elementApplyCard : Claim7 := { stood := { row := elementApplyRow, standIns := [], harness := (true, "f61c51938e0be6e8f30e24b3975b08712a69ba5ec379664c03c39266786d34c7"), looks := false }, kinds := [], alts := [], laidByText := true, laidKinds := [.widerDeep], laidTests := true, laidLooks := .later }
def ElementApplyCardSaid : Prop := Claim7.holds Tryd.pinned (.plain (OpenSpec.ofChange elementApplySpec)) elementApplyCard

/-- THE TIED CARD OF 'framewiselaw17.ElementTypes'. -/
def elementTypesCard : Claim7 := { stood := { row := elementTypesRow, standIns := [], harness := (true, "f61c51938e0be6e8f30e24b3975b08712a69ba5ec379664c03c39266786d34c7"), looks := false }, kinds := [], alts := [], laidByText := true, laidKinds := [.widerDeep], laidTests := true, laidLooks := .later }
def ElementTypesCardSaid : Prop := Claim7.holds Tryd.pinned (.plain (OpenSpec.ofChange elementTypesSpec)) elementTypesCard

/-- THE TIED CARD OF 'framewiselaw17.ElementRing'. -/
def elementRingCard : Claim7 := { stood := { row := elementRingRow, standIns := [], harness := (true, "f61c51938e0be6e8f30e24b3975b08712a69ba5ec379664c03c39266786d34c7"), looks := false }, kinds := [], alts := [], laidByText := true, laidKinds := [.widerDeep], laidTests := true, laidLooks := .later }
def ElementRingCardSaid : Prop := Claim7.holds Tryd.pinned (.plain (OpenSpec.ofChange elementRingSpec)) elementRingCard

/-- THE TIED CARD OF 'framewiselaw17.ElementDivision'. -/
def elementDivisionCard : Claim7 := { stood := { row := elementDivisionRow, standIns := [], harness := (true, "f61c51938e0be6e8f30e24b3975b08712a69ba5ec379664c03c39266786d34c7"), looks := false }, kinds := [], alts := [], laidByText := true, laidKinds := [.widerDeep], laidTests := true, laidLooks := .later }
def ElementDivisionCardSaid : Prop := Claim7.holds Tryd.pinned (.plain (OpenSpec.ofChange elementDivisionSpec)) elementDivisionCard

/-- THE TIED CARD OF 'framewiselaw17.ElementOrder'. -/
def elementOrderCard : Claim7 := { stood := { row := elementOrderRow, standIns := [], harness := (true, "f61c51938e0be6e8f30e24b3975b08712a69ba5ec379664c03c39266786d34c7"), looks := false }, kinds := [], alts := [], laidByText := true, laidKinds := [.widerDeep], laidTests := true, laidLooks := .later }
def ElementOrderCardSaid : Prop := Claim7.holds Tryd.pinned (.plain (OpenSpec.ofChange elementOrderSpec)) elementOrderCard

/-- THE TIED CARD OF 'framewiselaw17.ElementBool'. -/
def elementBoolCard : Claim7 := { stood := { row := elementBoolRow, standIns := [], harness := (true, "f61c51938e0be6e8f30e24b3975b08712a69ba5ec379664c03c39266786d34c7"), looks := false }, kinds := [], alts := [], laidByText := true, laidKinds := [.widerDeep], laidTests := true, laidLooks := .later }
def ElementBoolCardSaid : Prop := Claim7.holds Tryd.pinned (.plain (OpenSpec.ofChange elementBoolSpec)) elementBoolCard

/-- THE TIED CARD OF 'framewiselaw17.ElementWrap'. -/
def elementWrapCard : Claim7 := { stood := { row := elementWrapRow, standIns := [], harness := (true, "f61c51938e0be6e8f30e24b3975b08712a69ba5ec379664c03c39266786d34c7"), looks := false }, kinds := [], alts := [], laidByText := true, laidKinds := [.widerDeep], laidTests := true, laidLooks := .later }
def ElementWrapCardSaid : Prop := Claim7.holds Tryd.pinned (.plain (OpenSpec.ofChange elementWrapSpec)) elementWrapCard

/-- THE SECOND FORM's CARD OF 'framewiselaw17.ElementApply'. -/
def elementApplyUptoCard : Claim7 := { stood := { row := elementApplyUptoRow, standIns := [], harness := (true, "f61c51938e0be6e8f30e24b3975b08712a69ba5ec379664c03c39266786d34c7"), looks := false }, kinds := [], alts := [], laidByText := true, laidKinds := [.widerDeep], laidTests := true, laidLooks := .later }
def ElementApplyUptoCardSaid : Prop := Claim7.holds Tryd.pinned (.plain (OpenSpec.upto elementApplySpec)) elementApplyUptoCard

/-- THE SECOND FORM's CARD OF 'framewiselaw17.ElementTypes'. -/
def elementTypesUptoCard : Claim7 := { stood := { row := elementTypesUptoRow, standIns := [], harness := (true, "f61c51938e0be6e8f30e24b3975b08712a69ba5ec379664c03c39266786d34c7"), looks := false }, kinds := [], alts := [], laidByText := true, laidKinds := [.widerDeep], laidTests := true, laidLooks := .later }
def ElementTypesUptoCardSaid : Prop := Claim7.holds Tryd.pinned (.plain (OpenSpec.upto elementTypesSpec)) elementTypesUptoCard

/-- THE SECOND FORM's CARD OF 'framewiselaw17.ElementRing'. -/
def elementRingUptoCard : Claim7 := { stood := { row := elementRingUptoRow, standIns := [], harness := (true, "f61c51938e0be6e8f30e24b3975b08712a69ba5ec379664c03c39266786d34c7"), looks := false }, kinds := [], alts := [], laidByText := true, laidKinds := [.widerDeep], laidTests := true, laidLooks := .later }
def ElementRingUptoCardSaid : Prop := Claim7.holds Tryd.pinned (.plain (OpenSpec.upto elementRingSpec)) elementRingUptoCard

/-- THE SECOND FORM's CARD OF 'framewiselaw17.ElementDivision'. -/
def elementDivisionUptoCard : Claim7 := { stood := { row := elementDivisionUptoRow, standIns := [], harness := (true, "f61c51938e0be6e8f30e24b3975b08712a69ba5ec379664c03c39266786d34c7"), looks := false }, kinds := [], alts := [], laidByText := true, laidKinds := [.widerDeep], laidTests := true, laidLooks := .later }
def ElementDivisionUptoCardSaid : Prop := Claim7.holds Tryd.pinned (.plain (OpenSpec.upto elementDivisionSpec)) elementDivisionUptoCard

/-- THE SECOND FORM's CARD OF 'framewiselaw17.ElementOrder'. -/
def elementOrderUptoCard : Claim7 := { stood := { row := elementOrderUptoRow, standIns := [], harness := (true, "f61c51938e0be6e8f30e24b3975b08712a69ba5ec379664c03c39266786d34c7"), looks := false }, kinds := [], alts := [], laidByText := true, laidKinds := [.widerDeep], laidTests := true, laidLooks := .later }
def ElementOrderUptoCardSaid : Prop := Claim7.holds Tryd.pinned (.plain (OpenSpec.upto elementOrderSpec)) elementOrderUptoCard

/-- THE SECOND FORM's CARD OF 'framewiselaw17.ElementBool'. -/
def elementBoolUptoCard : Claim7 := { stood := { row := elementBoolUptoRow, standIns := [], harness := (true, "f61c51938e0be6e8f30e24b3975b08712a69ba5ec379664c03c39266786d34c7"), looks := false }, kinds := [], alts := [], laidByText := true, laidKinds := [.widerDeep], laidTests := true, laidLooks := .later }
def ElementBoolUptoCardSaid : Prop := Claim7.holds Tryd.pinned (.plain (OpenSpec.upto elementBoolSpec)) elementBoolUptoCard

/-- THE SECOND FORM's CARD OF 'framewiselaw17.ElementWrap'. -/
def elementWrapUptoCard : Claim7 := { stood := { row := elementWrapUptoRow, standIns := [], harness := (true, "f61c51938e0be6e8f30e24b3975b08712a69ba5ec379664c03c39266786d34c7"), looks := false }, kinds := [], alts := [], laidByText := true, laidKinds := [.widerDeep], laidTests := true, laidLooks := .later }
def ElementWrapUptoCardSaid : Prop := Claim7.holds Tryd.pinned (.plain (OpenSpec.upto elementWrapSpec)) elementWrapUptoCard
end Rows
end Go.Proofs.YtdhpmkaggojgbaaDoor
