/-
  NARROWER THAN 'FOR EVERY INPUT', by the rows' own cells (each row's printed sentence says how): ElementApply: laid · ElementTypes: laid · ElementRing: laid · ElementDivision: laid · ElementOrder: laid · ElementBool: laid · ElementWrap: laid.
  DERIVED. THE GIVEN ROWS OF THIS SEAT. 7 by the template 'for every input the law returns true; each argument reads behind the call as it read before'; 0 by the template 'total and deterministic' (their statements: YtdhpmkaggojgbaaDoorTotals.lean).
  GIVEN WITH THE SEED: the statements are not yours to turn. If you find one false, say at which input.
  Laid BY PROGRAM, IN A SANDBOX (cutbox-rows.mjs): the forced cells as the released guide's own fill.sh prints them over the translation b0350d2c4b012f6d… (all of the seat's roots in one cut). By AI agents, Wed Nov 11 2026. No macro, syntax, notation, axiom, sorry.
-/
import Derived.Test.YtdhpmkaggojgbaaDoorChecked
import GoSem.Claim
import GoSem.ClaimJoined
import GoSem.ClaimMapViews
import Derived.JoinedTies
import Derived.KernelRfl
namespace Go.Proofs.YtdhpmkaggojgbaaDoor
/- THE CELL 'sum', in the pinned program and in every row, IS THE sha256 OF THE DUMP (.gsa) THAT YtdhpmkaggojgbaaDoorProg.lean LOADS. Nothing in Lean hashes anything: it is a label: what it is worth is what the hold of that sum in a sandbox is worth. -/
noncomputable def Tryd.pinned : Pinned := { name := "ytdhpmkaggojgbaadoor", sum := "b0350d2c4b012f6dc42465045f18987b422aea0ba0cb3375b3567edc36f94625", checked := Tryd.checked }
namespace Rows
def none {H : Type} : Left H := { results := [], args := [] }

/- WHAT THE LISTED PACKAGE-LEVEL VARIABLES READ AS WHEN THE CALL BEGINS. Each datum BY PROGRAM (the guide's laid-datum.mjs) off the statement by which the dump's own 'gosem.cut.vars' lays the variable. In a bare row this is a premise. The card (YtdhpmkaggojgbaaDoorCards.lean) ties it to the program's text. -/
def laid_framewise_element_table {H : Type} : DataW H := .agg [.agg [.lit (.string [97, 100, 100]), .agg [.lit (.string [105, 110, 116]), .lit (.string [105, 110, 116]), .lit (.string [])], .lit (.string [105, 110, 116])], .agg [.lit (.string [115, 117, 98]), .agg [.lit (.string [105, 110, 116]), .lit (.string [105, 110, 116]), .lit (.string [])], .lit (.string [105, 110, 116])], .agg [.lit (.string [109, 117, 108]), .agg [.lit (.string [105, 110, 116]), .lit (.string [105, 110, 116]), .lit (.string [])], .lit (.string [105, 110, 116])], .agg [.lit (.string [100, 105, 118]), .agg [.lit (.string [105, 110, 116]), .lit (.string [105, 110, 116]), .lit (.string [])], .lit (.string [105, 110, 116])], .agg [.lit (.string [109, 111, 100]), .agg [.lit (.string [105, 110, 116]), .lit (.string [105, 110, 116]), .lit (.string [])], .lit (.string [105, 110, 116])], .agg [.lit (.string [109, 105, 110]), .agg [.lit (.string [105, 110, 116]), .lit (.string [105, 110, 116]), .lit (.string [])], .lit (.string [105, 110, 116])], .agg [.lit (.string [109, 97, 120]), .agg [.lit (.string [105, 110, 116]), .lit (.string [105, 110, 116]), .lit (.string [])], .lit (.string [105, 110, 116])], .agg [.lit (.string [110, 101, 103]), .agg [.lit (.string [105, 110, 116]), .lit (.string []), .lit (.string [])], .lit (.string [105, 110, 116])], .agg [.lit (.string [97, 98, 115]), .agg [.lit (.string [105, 110, 116]), .lit (.string []), .lit (.string [])], .lit (.string [105, 110, 116])], .agg [.lit (.string [115, 105, 103, 110]), .agg [.lit (.string [105, 110, 116]), .lit (.string []), .lit (.string [])], .lit (.string [105, 110, 116])], .agg [.lit (.string [108, 116]), .agg [.lit (.string [105, 110, 116]), .lit (.string [105, 110, 116]), .lit (.string [])], .lit (.string [98, 111, 111, 108])], .agg [.lit (.string [108, 101]), .agg [.lit (.string [105, 110, 116]), .lit (.string [105, 110, 116]), .lit (.string [])], .lit (.string [98, 111, 111, 108])], .agg [.lit (.string [103, 116]), .agg [.lit (.string [105, 110, 116]), .lit (.string [105, 110, 116]), .lit (.string [])], .lit (.string [98, 111, 111, 108])], .agg [.lit (.string [103, 101]), .agg [.lit (.string [105, 110, 116]), .lit (.string [105, 110, 116]), .lit (.string [])], .lit (.string [98, 111, 111, 108])], .agg [.lit (.string [101, 113]), .agg [.lit (.string [65]), .lit (.string [65]), .lit (.string [])], .lit (.string [98, 111, 111, 108])], .agg [.lit (.string [110, 101]), .agg [.lit (.string [65]), .lit (.string [65]), .lit (.string [])], .lit (.string [98, 111, 111, 108])], .agg [.lit (.string [97, 110, 100]), .agg [.lit (.string [98, 111, 111, 108]), .lit (.string [98, 111, 111, 108]), .lit (.string [])], .lit (.string [98, 111, 111, 108])], .agg [.lit (.string [111, 114]), .agg [.lit (.string [98, 111, 111, 108]), .lit (.string [98, 111, 111, 108]), .lit (.string [])], .lit (.string [98, 111, 111, 108])], .agg [.lit (.string [120, 111, 114]), .agg [.lit (.string [98, 111, 111, 108]), .lit (.string [98, 111, 111, 108]), .lit (.string [])], .lit (.string [98, 111, 111, 108])], .agg [.lit (.string [110, 111, 116]), .agg [.lit (.string [98, 111, 111, 108]), .lit (.string []), .lit (.string [])], .lit (.string [98, 111, 111, 108])], .agg [.lit (.string [115, 101, 108, 101, 99, 116]), .agg [.lit (.string [98, 111, 111, 108]), .lit (.string [65]), .lit (.string [65])], .lit (.string [65])], .agg [.lit (.string [116, 111, 105, 110, 116]), .agg [.lit (.string [98, 111, 111, 108]), .lit (.string []), .lit (.string [])], .lit (.string [105, 110, 116])]]

/-- 'framewiselaw17.ElementApply': WHATEVER THE INPUT: true; the input reads as it did. -/
def elementApplySpec : ChangeSpec := { name := "elementApply", fn := fun _ => fun
  | [d1, d2] => { results := [.lit (.bool true)], args := [d1, d2] }
  | _ => none }
def elementApplyRow : OpenClaim := { program := "ytdhpmkaggojgbaadoor", sum := "b0350d2c4b012f6dc42465045f18987b422aea0ba0cb3375b3567edc36f94625", func := "framewise/framewiselaw17.ElementApply", spec := "elementApply", unfollowed := true, recurses := true, named := ["framewise/element.table"], apart := false, laid := [("framewise/element.table", laid_framewise_element_table)] }
def ElementApplySaid : Prop := elementApplyRow.holds Tryd.pinned (OpenSpec.ofChange elementApplySpec)

/-- ITS FALSE NEIGHBOUR: 'it returns false'. Refute it at one input. -/
def elementApplyWrong : ChangeSpec := { name := "elementApply", fn := fun _ => fun
  | [d1, d2] => { results := [.lit (.bool false)], args := [d1, d2] }
  | _ => none }
def ElementApplyWrongFalsely : Prop := elementApplyRow.holds Tryd.pinned (OpenSpec.ofChange elementApplyWrong)

/-- 'framewiselaw17.ElementTypes': WHATEVER THE INPUT: true; the input reads as it did. -/
def elementTypesSpec : ChangeSpec := { name := "elementTypes", fn := fun _ => fun
  | [d1, d2, d3] => { results := [.lit (.bool true)], args := [d1, d2, d3] }
  | _ => none }
def elementTypesRow : OpenClaim := { program := "ytdhpmkaggojgbaadoor", sum := "b0350d2c4b012f6dc42465045f18987b422aea0ba0cb3375b3567edc36f94625", func := "framewise/framewiselaw17.ElementTypes", spec := "elementTypes", unfollowed := true, recurses := true, named := ["framewise/element.table"], apart := false, laid := [("framewise/element.table", laid_framewise_element_table)] }
def ElementTypesSaid : Prop := elementTypesRow.holds Tryd.pinned (OpenSpec.ofChange elementTypesSpec)

/-- ITS FALSE NEIGHBOUR: 'it returns false'. Refute it at one input. -/
def elementTypesWrong : ChangeSpec := { name := "elementTypes", fn := fun _ => fun
  | [d1, d2, d3] => { results := [.lit (.bool false)], args := [d1, d2, d3] }
  | _ => none }
def ElementTypesWrongFalsely : Prop := elementTypesRow.holds Tryd.pinned (OpenSpec.ofChange elementTypesWrong)

/-- 'framewiselaw17.ElementRing': WHATEVER THE INPUT: true; the input reads as it did. -/
def elementRingSpec : ChangeSpec := { name := "elementRing", fn := fun _ => fun
  | [d1, d2, d3] => { results := [.lit (.bool true)], args := [d1, d2, d3] }
  | _ => none }
def elementRingRow : OpenClaim := { program := "ytdhpmkaggojgbaadoor", sum := "b0350d2c4b012f6dc42465045f18987b422aea0ba0cb3375b3567edc36f94625", func := "framewise/framewiselaw17.ElementRing", spec := "elementRing", unfollowed := true, recurses := true, named := ["framewise/element.table"], apart := false, laid := [("framewise/element.table", laid_framewise_element_table)] }
def ElementRingSaid : Prop := elementRingRow.holds Tryd.pinned (OpenSpec.ofChange elementRingSpec)

/-- ITS FALSE NEIGHBOUR: 'it returns false'. Refute it at one input. -/
def elementRingWrong : ChangeSpec := { name := "elementRing", fn := fun _ => fun
  | [d1, d2, d3] => { results := [.lit (.bool false)], args := [d1, d2, d3] }
  | _ => none }
def ElementRingWrongFalsely : Prop := elementRingRow.holds Tryd.pinned (OpenSpec.ofChange elementRingWrong)

/-- 'framewiselaw17.ElementDivision': WHATEVER THE INPUT: true; the input reads as it did. -/
def elementDivisionSpec : ChangeSpec := { name := "elementDivision", fn := fun _ => fun
  | [d1, d2] => { results := [.lit (.bool true)], args := [d1, d2] }
  | _ => none }
def elementDivisionRow : OpenClaim := { program := "ytdhpmkaggojgbaadoor", sum := "b0350d2c4b012f6dc42465045f18987b422aea0ba0cb3375b3567edc36f94625", func := "framewise/framewiselaw17.ElementDivision", spec := "elementDivision", unfollowed := true, recurses := true, named := ["framewise/element.table"], apart := false, laid := [("framewise/element.table", laid_framewise_element_table)] }
def ElementDivisionSaid : Prop := elementDivisionRow.holds Tryd.pinned (OpenSpec.ofChange elementDivisionSpec)

/-- ITS FALSE NEIGHBOUR: 'it returns false'. Refute it at one input. -/
def elementDivisionWrong : ChangeSpec := { name := "elementDivision", fn := fun _ => fun
  | [d1, d2] => { results := [.lit (.bool false)], args := [d1, d2] }
  | _ => none }
def ElementDivisionWrongFalsely : Prop := elementDivisionRow.holds Tryd.pinned (OpenSpec.ofChange elementDivisionWrong)

/-- 'framewiselaw17.ElementOrder': WHATEVER THE INPUT: true; the input reads as it did. -/
def elementOrderSpec : ChangeSpec := { name := "elementOrder", fn := fun _ => fun
  | [d1, d2, d3] => { results := [.lit (.bool true)], args := [d1, d2, d3] }
  | _ => none }
def elementOrderRow : OpenClaim := { program := "ytdhpmkaggojgbaadoor", sum := "b0350d2c4b012f6dc42465045f18987b422aea0ba0cb3375b3567edc36f94625", func := "framewise/framewiselaw17.ElementOrder", spec := "elementOrder", unfollowed := true, recurses := true, named := ["framewise/element.table"], apart := false, laid := [("framewise/element.table", laid_framewise_element_table)] }
def ElementOrderSaid : Prop := elementOrderRow.holds Tryd.pinned (OpenSpec.ofChange elementOrderSpec)

/-- ITS FALSE NEIGHBOUR: 'it returns false'. Refute it at one input. -/
def elementOrderWrong : ChangeSpec := { name := "elementOrder", fn := fun _ => fun
  | [d1, d2, d3] => { results := [.lit (.bool false)], args := [d1, d2, d3] }
  | _ => none }
def ElementOrderWrongFalsely : Prop := elementOrderRow.holds Tryd.pinned (OpenSpec.ofChange elementOrderWrong)

/-- 'framewiselaw17.ElementBool': WHATEVER THE INPUT: true; the input reads as it did. -/
def elementBoolSpec : ChangeSpec := { name := "elementBool", fn := fun _ => fun
  | [d1, d2] => { results := [.lit (.bool true)], args := [d1, d2] }
  | _ => none }
def elementBoolRow : OpenClaim := { program := "ytdhpmkaggojgbaadoor", sum := "b0350d2c4b012f6dc42465045f18987b422aea0ba0cb3375b3567edc36f94625", func := "framewise/framewiselaw17.ElementBool", spec := "elementBool", unfollowed := true, recurses := true, named := ["framewise/element.table"], apart := false, laid := [("framewise/element.table", laid_framewise_element_table)] }
def ElementBoolSaid : Prop := elementBoolRow.holds Tryd.pinned (OpenSpec.ofChange elementBoolSpec)

/-- ITS FALSE NEIGHBOUR: 'it returns false'. Refute it at one input. -/
def elementBoolWrong : ChangeSpec := { name := "elementBool", fn := fun _ => fun
  | [d1, d2] => { results := [.lit (.bool false)], args := [d1, d2] }
  | _ => none }
def ElementBoolWrongFalsely : Prop := elementBoolRow.holds Tryd.pinned (OpenSpec.ofChange elementBoolWrong)

/-- 'framewiselaw17.ElementWrap': WHATEVER THE INPUT: true; the input reads as it did. -/
def elementWrapSpec : ChangeSpec := { name := "elementWrap", fn := fun _ => fun
  | [d1, d2] => { results := [.lit (.bool true)], args := [d1, d2] }
  | _ => none }
def elementWrapRow : OpenClaim := { program := "ytdhpmkaggojgbaadoor", sum := "b0350d2c4b012f6dc42465045f18987b422aea0ba0cb3375b3567edc36f94625", func := "framewise/framewiselaw17.ElementWrap", spec := "elementWrap", unfollowed := true, recurses := true, named := ["framewise/element.table"], apart := false, laid := [("framewise/element.table", laid_framewise_element_table)] }
def ElementWrapSaid : Prop := elementWrapRow.holds Tryd.pinned (OpenSpec.ofChange elementWrapSpec)

/-- ITS FALSE NEIGHBOUR: 'it returns false'. Refute it at one input. -/
def elementWrapWrong : ChangeSpec := { name := "elementWrap", fn := fun _ => fun
  | [d1, d2] => { results := [.lit (.bool false)], args := [d1, d2] }
  | _ => none }
def ElementWrapWrongFalsely : Prop := elementWrapRow.holds Tryd.pinned (OpenSpec.ofChange elementWrapWrong)

/- THE SECOND FORM. 'bulk': how many values and letters a reading holds, each counted each time it is reached (what is shared counts as often as it is met; a slice's spare places count too). A statement '..UptoSaid' is the law's where the arguments, and the package variables that the reading takes, are together of bulk at most 1048576: NARROWER than '..Said'. Prove '..Said' where nothing that the law and all that it calls make is longer than what came in: it says more and counts as full. Else prove '..UptoSaid'. A law counts once. -/
mutual
def uptoBulk {H : Type} : DataW H → Nat
  | .lit (.string bytes) => bytes.length + 1
  | .lit _ => 1
  | .nil => 1
  | .ptr d => uptoBulk d + 1
  | .slice elems spare => uptoBulkAll elems + uptoBulkAll spare + 1
  | .agg parts => uptoBulkAll parts + 1
  | .iface _ d => uptoBulk d + 1
  | .map entries => uptoBulkEntries entries + 1
  | .held _ => 1
def uptoBulkAll {H : Type} : List (DataW H) → Nat
  | [] => 0
  | d :: r => uptoBulk d + uptoBulkAll r
def uptoBulkEntries {H : Type} : List (Lit × DataW H) → Nat
  | [] => 0
  | x :: r => uptoBulkEntry x + uptoBulkEntries r
def uptoBulkEntry {H : Type} : Lit × DataW H → Nat
  | (.string bytes, d) => bytes.length + uptoBulk d + 1
  | (_, d) => uptoBulk d + 1
 end
def uptoSmall : (H : Type) → List (DataW H) → Bool := fun _ ds => decide (uptoBulkAll ds ≤ 1048576)
def OpenSpec.upto (s : _root_.Go.ChangeSpec) : _root_.Go.OpenSpec := { _root_.Go.OpenSpec.ofChange s with cond := some uptoSmall }

/-- 'framewiselaw17.ElementApply', WHERE WHAT IT READS IS OF BULK AT MOST 1048576: true; the input reads as it did. -/
def elementApplyUptoRow : OpenClaim := { program := "ytdhpmkaggojgbaadoor", sum := "b0350d2c4b012f6dc42465045f18987b422aea0ba0cb3375b3567edc36f94625", func := "framewise/framewiselaw17.ElementApply", spec := "elementApply", unfollowed := true, recurses := true, named := ["framewise/element.table"], apart := false, laid := [("framewise/element.table", laid_framewise_element_table)], narrowed := true }
def ElementApplyUptoSaid : Prop := elementApplyUptoRow.holds Tryd.pinned (OpenSpec.upto elementApplySpec)

/-- 'framewiselaw17.ElementTypes', WHERE WHAT IT READS IS OF BULK AT MOST 1048576: true; the input reads as it did. -/
def elementTypesUptoRow : OpenClaim := { program := "ytdhpmkaggojgbaadoor", sum := "b0350d2c4b012f6dc42465045f18987b422aea0ba0cb3375b3567edc36f94625", func := "framewise/framewiselaw17.ElementTypes", spec := "elementTypes", unfollowed := true, recurses := true, named := ["framewise/element.table"], apart := false, laid := [("framewise/element.table", laid_framewise_element_table)], narrowed := true }
def ElementTypesUptoSaid : Prop := elementTypesUptoRow.holds Tryd.pinned (OpenSpec.upto elementTypesSpec)

/-- 'framewiselaw17.ElementRing', WHERE WHAT IT READS IS OF BULK AT MOST 1048576: true; the input reads as it did. -/
def elementRingUptoRow : OpenClaim := { program := "ytdhpmkaggojgbaadoor", sum := "b0350d2c4b012f6dc42465045f18987b422aea0ba0cb3375b3567edc36f94625", func := "framewise/framewiselaw17.ElementRing", spec := "elementRing", unfollowed := true, recurses := true, named := ["framewise/element.table"], apart := false, laid := [("framewise/element.table", laid_framewise_element_table)], narrowed := true }
def ElementRingUptoSaid : Prop := elementRingUptoRow.holds Tryd.pinned (OpenSpec.upto elementRingSpec)

/-- 'framewiselaw17.ElementDivision', WHERE WHAT IT READS IS OF BULK AT MOST 1048576: true; the input reads as it did. -/
def elementDivisionUptoRow : OpenClaim := { program := "ytdhpmkaggojgbaadoor", sum := "b0350d2c4b012f6dc42465045f18987b422aea0ba0cb3375b3567edc36f94625", func := "framewise/framewiselaw17.ElementDivision", spec := "elementDivision", unfollowed := true, recurses := true, named := ["framewise/element.table"], apart := false, laid := [("framewise/element.table", laid_framewise_element_table)], narrowed := true }
def ElementDivisionUptoSaid : Prop := elementDivisionUptoRow.holds Tryd.pinned (OpenSpec.upto elementDivisionSpec)

/-- 'framewiselaw17.ElementOrder', WHERE WHAT IT READS IS OF BULK AT MOST 1048576: true; the input reads as it did. -/
def elementOrderUptoRow : OpenClaim := { program := "ytdhpmkaggojgbaadoor", sum := "b0350d2c4b012f6dc42465045f18987b422aea0ba0cb3375b3567edc36f94625", func := "framewise/framewiselaw17.ElementOrder", spec := "elementOrder", unfollowed := true, recurses := true, named := ["framewise/element.table"], apart := false, laid := [("framewise/element.table", laid_framewise_element_table)], narrowed := true }
def ElementOrderUptoSaid : Prop := elementOrderUptoRow.holds Tryd.pinned (OpenSpec.upto elementOrderSpec)

/-- 'framewiselaw17.ElementBool', WHERE WHAT IT READS IS OF BULK AT MOST 1048576: true; the input reads as it did. -/
def elementBoolUptoRow : OpenClaim := { program := "ytdhpmkaggojgbaadoor", sum := "b0350d2c4b012f6dc42465045f18987b422aea0ba0cb3375b3567edc36f94625", func := "framewise/framewiselaw17.ElementBool", spec := "elementBool", unfollowed := true, recurses := true, named := ["framewise/element.table"], apart := false, laid := [("framewise/element.table", laid_framewise_element_table)], narrowed := true }
def ElementBoolUptoSaid : Prop := elementBoolUptoRow.holds Tryd.pinned (OpenSpec.upto elementBoolSpec)

/-- 'framewiselaw17.ElementWrap', WHERE WHAT IT READS IS OF BULK AT MOST 1048576: true; the input reads as it did. -/
def elementWrapUptoRow : OpenClaim := { program := "ytdhpmkaggojgbaadoor", sum := "b0350d2c4b012f6dc42465045f18987b422aea0ba0cb3375b3567edc36f94625", func := "framewise/framewiselaw17.ElementWrap", spec := "elementWrap", unfollowed := true, recurses := true, named := ["framewise/element.table"], apart := false, laid := [("framewise/element.table", laid_framewise_element_table)], narrowed := true }
def ElementWrapUptoSaid : Prop := elementWrapUptoRow.holds Tryd.pinned (OpenSpec.upto elementWrapSpec)

end Rows
end Go.Proofs.YtdhpmkaggojgbaaDoor
