/-
  No cell of these rows narrows 'for every input' (looked for: loops, veiled, ifaces, maps, wideKeys, modest, calm, conditions, laid).
  DERIVED. THE GIVEN ROWS OF THIS SEAT. 6 by the template 'for every input the law returns true; each argument reads behind the call as it read before'; 0 by the template 'total and deterministic' (their statements: YtoobaeebgnbpjaaTotals.lean).
  GIVEN WITH THE SEED: the statements are not yours to turn. If you find one false, say at which input.
  Laid BY PROGRAM, IN A SANDBOX (cutbox-rows.mjs): the forced cells as the released guide's own fill.sh prints them over the translation 6c1080fb7a309e6c… (all of the seat's roots in one cut). By AI agents, Wed Nov 11 2026. No macro, syntax, notation, axiom, sorry.
-/
import Derived.Test.YtoobaeebgnbpjaaChecked
import GoSem.Claim
import GoSem.ClaimJoined
import GoSem.ClaimMapViews
import Derived.JoinedTies
import Derived.KernelRfl
namespace Go.Proofs.Ytoobaeebgnbpjaa
/- THE CELL 'sum', in the pinned program and in every row, IS THE sha256 OF THE DUMP (.gsa) THAT YtoobaeebgnbpjaaProg.lean LOADS. Nothing in Lean hashes anything: it is a label: what it is worth is what the hold of that sum in a sandbox is worth. -/
noncomputable def Try.pinned : Pinned := { name := "ytoobaeebgnbpjaa", sum := "6c1080fb7a309e6c0ec0139c352fb169f87e1e99fe09bc3065fa661ae8e94883", checked := Try.checked }
namespace Rows
def none {H : Type} : Left H := { results := [], args := [] }

/-- 'framewiselaw20.CellsSplit': WHATEVER THE INPUT: true; the input reads as it did. -/
def cellsSplitSpec : ChangeSpec := { name := "cellsSplit", fn := fun _ => fun
  | [d1, d2, d3] => { results := [.lit (.bool true)], args := [d1, d2, d3] }
  | _ => none }
def cellsSplitRow : OpenClaim := { program := "ytoobaeebgnbpjaa", sum := "6c1080fb7a309e6c0ec0139c352fb169f87e1e99fe09bc3065fa661ae8e94883", func := "framewise/framewiselaw20.CellsSplit", spec := "cellsSplit", unfollowed := true, recurses := true, apart := false }
def CellsSplitSaid : Prop := cellsSplitRow.holds Try.pinned (OpenSpec.ofChange cellsSplitSpec)

/-- ITS FALSE NEIGHBOUR: 'it returns false'. Refute it at one input. -/
def cellsSplitWrong : ChangeSpec := { name := "cellsSplit", fn := fun _ => fun
  | [d1, d2, d3] => { results := [.lit (.bool false)], args := [d1, d2, d3] }
  | _ => none }
def CellsSplitWrongFalsely : Prop := cellsSplitRow.holds Try.pinned (OpenSpec.ofChange cellsSplitWrong)

/-- 'framewiselaw20.CellsFrame': WHATEVER THE INPUT: true; the input reads as it did. -/
def cellsFrameSpec : ChangeSpec := { name := "cellsFrame", fn := fun _ => fun
  | [d1, d2] => { results := [.lit (.bool true)], args := [d1, d2] }
  | _ => none }
def cellsFrameRow : OpenClaim := { program := "ytoobaeebgnbpjaa", sum := "6c1080fb7a309e6c0ec0139c352fb169f87e1e99fe09bc3065fa661ae8e94883", func := "framewise/framewiselaw20.CellsFrame", spec := "cellsFrame", unfollowed := true, recurses := true, apart := false }
def CellsFrameSaid : Prop := cellsFrameRow.holds Try.pinned (OpenSpec.ofChange cellsFrameSpec)

/-- ITS FALSE NEIGHBOUR: 'it returns false'. Refute it at one input. -/
def cellsFrameWrong : ChangeSpec := { name := "cellsFrame", fn := fun _ => fun
  | [d1, d2] => { results := [.lit (.bool false)], args := [d1, d2] }
  | _ => none }
def CellsFrameWrongFalsely : Prop := cellsFrameRow.holds Try.pinned (OpenSpec.ofChange cellsFrameWrong)

/-- 'framewiselaw20.CellsCheck': WHATEVER THE INPUT: true; the input reads as it did. -/
def cellsCheckSpec : ChangeSpec := { name := "cellsCheck", fn := fun _ => fun
  | [d1, d2, d3] => { results := [.lit (.bool true)], args := [d1, d2, d3] }
  | _ => none }
def cellsCheckRow : OpenClaim := { program := "ytoobaeebgnbpjaa", sum := "6c1080fb7a309e6c0ec0139c352fb169f87e1e99fe09bc3065fa661ae8e94883", func := "framewise/framewiselaw20.CellsCheck", spec := "cellsCheck", unfollowed := true, recurses := true, apart := false }
def CellsCheckSaid : Prop := cellsCheckRow.holds Try.pinned (OpenSpec.ofChange cellsCheckSpec)

/-- ITS FALSE NEIGHBOUR: 'it returns false'. Refute it at one input. -/
def cellsCheckWrong : ChangeSpec := { name := "cellsCheck", fn := fun _ => fun
  | [d1, d2, d3] => { results := [.lit (.bool false)], args := [d1, d2, d3] }
  | _ => none }
def CellsCheckWrongFalsely : Prop := cellsCheckRow.holds Try.pinned (OpenSpec.ofChange cellsCheckWrong)

/-- 'framewiselaw20.CellsJoin': WHATEVER THE INPUT: true; the input reads as it did. -/
def cellsJoinSpec : ChangeSpec := { name := "cellsJoin", fn := fun _ => fun
  | [d1, d2, d3] => { results := [.lit (.bool true)], args := [d1, d2, d3] }
  | _ => none }
def cellsJoinRow : OpenClaim := { program := "ytoobaeebgnbpjaa", sum := "6c1080fb7a309e6c0ec0139c352fb169f87e1e99fe09bc3065fa661ae8e94883", func := "framewise/framewiselaw20.CellsJoin", spec := "cellsJoin", unfollowed := true, recurses := true, apart := false }
def CellsJoinSaid : Prop := cellsJoinRow.holds Try.pinned (OpenSpec.ofChange cellsJoinSpec)

/-- ITS FALSE NEIGHBOUR: 'it returns false'. Refute it at one input. -/
def cellsJoinWrong : ChangeSpec := { name := "cellsJoin", fn := fun _ => fun
  | [d1, d2, d3] => { results := [.lit (.bool false)], args := [d1, d2, d3] }
  | _ => none }
def CellsJoinWrongFalsely : Prop := cellsJoinRow.holds Try.pinned (OpenSpec.ofChange cellsJoinWrong)

/-- 'framewiselaw20.CellsBack': WHATEVER THE INPUT: true; the input reads as it did. -/
def cellsBackSpec : ChangeSpec := { name := "cellsBack", fn := fun _ => fun
  | [d1, d2] => { results := [.lit (.bool true)], args := [d1, d2] }
  | _ => none }
def cellsBackRow : OpenClaim := { program := "ytoobaeebgnbpjaa", sum := "6c1080fb7a309e6c0ec0139c352fb169f87e1e99fe09bc3065fa661ae8e94883", func := "framewise/framewiselaw20.CellsBack", spec := "cellsBack", unfollowed := true, recurses := true, apart := false }
def CellsBackSaid : Prop := cellsBackRow.holds Try.pinned (OpenSpec.ofChange cellsBackSpec)

/-- ITS FALSE NEIGHBOUR: 'it returns false'. Refute it at one input. -/
def cellsBackWrong : ChangeSpec := { name := "cellsBack", fn := fun _ => fun
  | [d1, d2] => { results := [.lit (.bool false)], args := [d1, d2] }
  | _ => none }
def CellsBackWrongFalsely : Prop := cellsBackRow.holds Try.pinned (OpenSpec.ofChange cellsBackWrong)

/-- 'framewiselaw20.CellsAgree': WHATEVER THE INPUT: true; the input reads as it did. -/
def cellsAgreeSpec : ChangeSpec := { name := "cellsAgree", fn := fun _ => fun
  | [d1, d2] => { results := [.lit (.bool true)], args := [d1, d2] }
  | _ => none }
def cellsAgreeRow : OpenClaim := { program := "ytoobaeebgnbpjaa", sum := "6c1080fb7a309e6c0ec0139c352fb169f87e1e99fe09bc3065fa661ae8e94883", func := "framewise/framewiselaw20.CellsAgree", spec := "cellsAgree", unfollowed := true, recurses := true, apart := false }
def CellsAgreeSaid : Prop := cellsAgreeRow.holds Try.pinned (OpenSpec.ofChange cellsAgreeSpec)

/-- ITS FALSE NEIGHBOUR: 'it returns false'. Refute it at one input. -/
def cellsAgreeWrong : ChangeSpec := { name := "cellsAgree", fn := fun _ => fun
  | [d1, d2] => { results := [.lit (.bool false)], args := [d1, d2] }
  | _ => none }
def CellsAgreeWrongFalsely : Prop := cellsAgreeRow.holds Try.pinned (OpenSpec.ofChange cellsAgreeWrong)

/- THE SECOND FORM. 'bulk': how many values and letters a reading holds, each counted each time it is reached (what is shared counts as often as it is met; a slice's spare places count too). A statement '..UptoSaid' is the law's where the arguments, and the package variables that the reading takes, are together of bulk at most 1048576: NARROWER than '..Said'. Prove '..Said' where nothing that the law and all that it calls make is longer than what came in: it says more and counts as full. Else prove '..UptoSaid'. A law counts once. -/
mutual
def uptoBulk {H : Type} : DataW H → Nat
  | .lit (.string bytes) => bytes.length + 1
  | .lit _ => 1
  | .nil => 1
  | .ptr d => uptoBulk d + 1
  | .slice elems spare => uptoBulkAll elems + uptoBulkAll spare + 1
  | .agg parts => uptoBulkAll parts + 1
  | .iface _ d => uptoBulk d + 1
  | .map entries => uptoBulkEntries entries + 1
  | .held _ => 1
def uptoBulkAll {H : Type} : List (DataW H) → Nat
  | [] => 0
  | d :: r => uptoBulk d + uptoBulkAll r
def uptoBulkEntries {H : Type} : List (Lit × DataW H) → Nat
  | [] => 0
  | x :: r => uptoBulkEntry x + uptoBulkEntries r
def uptoBulkEntry {H : Type} : Lit × DataW H → Nat
  | (.string bytes, d) => bytes.length + uptoBulk d + 1
  | (_, d) => uptoBulk d + 1
 end
def uptoSmall : (H : Type) → List (DataW H) → Bool := fun _ ds => decide (uptoBulkAll ds ≤ 1048576)
def OpenSpec.upto (s : _root_.Go.ChangeSpec) : _root_.Go.OpenSpec := { _root_.Go.OpenSpec.ofChange s with cond := some uptoSmall }

/-- 'framewiselaw20.CellsSplit', WHERE WHAT IT READS IS OF BULK AT MOST 1048576: true; the input reads as it did. -/
def cellsSplitUptoRow : OpenClaim := { program := "ytoobaeebgnbpjaa", sum := "6c1080fb7a309e6c0ec0139c352fb169f87e1e99fe09bc3065fa661ae8e94883", func := "framewise/framewiselaw20.CellsSplit", spec := "cellsSplit", unfollowed := true, recurses := true, apart := false, narrowed := true }
def CellsSplitUptoSaid : Prop := cellsSplitUptoRow.holds Try.pinned (OpenSpec.upto cellsSplitSpec)

/-- 'framewiselaw20.CellsFrame', WHERE WHAT IT READS IS OF BULK AT MOST 1048576: true; the input reads as it did. -/
def cellsFrameUptoRow : OpenClaim := { program := "ytoobaeebgnbpjaa", sum := "6c1080fb7a309e6c0ec0139c352fb169f87e1e99fe09bc3065fa661ae8e94883", func := "framewise/framewiselaw20.CellsFrame", spec := "cellsFrame", unfollowed := true, recurses := true, apart := false, narrowed := true }
def CellsFrameUptoSaid : Prop := cellsFrameUptoRow.holds Try.pinned (OpenSpec.upto cellsFrameSpec)

/-- 'framewiselaw20.CellsCheck', WHERE WHAT IT READS IS OF BULK AT MOST 1048576: true; the input reads as it did. -/
def cellsCheckUptoRow : OpenClaim := { program := "ytoobaeebgnbpjaa", sum := "6c1080fb7a309e6c0ec0139c352fb169f87e1e99fe09bc3065fa661ae8e94883", func := "framewise/framewiselaw20.CellsCheck", spec := "cellsCheck", unfollowed := true, recurses := true, apart := false, narrowed := true }
def CellsCheckUptoSaid : Prop := cellsCheckUptoRow.holds Try.pinned (OpenSpec.upto cellsCheckSpec)

/-- 'framewiselaw20.CellsJoin', WHERE WHAT IT READS IS OF BULK AT MOST 1048576: true; the input reads as it did. -/
def cellsJoinUptoRow : OpenClaim := { program := "ytoobaeebgnbpjaa", sum := "6c1080fb7a309e6c0ec0139c352fb169f87e1e99fe09bc3065fa661ae8e94883", func := "framewise/framewiselaw20.CellsJoin", spec := "cellsJoin", unfollowed := true, recurses := true, apart := false, narrowed := true }
def CellsJoinUptoSaid : Prop := cellsJoinUptoRow.holds Try.pinned (OpenSpec.upto cellsJoinSpec)

/-- 'framewiselaw20.CellsBack', WHERE WHAT IT READS IS OF BULK AT MOST 1048576: true; the input reads as it did. -/
def cellsBackUptoRow : OpenClaim := { program := "ytoobaeebgnbpjaa", sum := "6c1080fb7a309e6c0ec0139c352fb169f87e1e99fe09bc3065fa661ae8e94883", func := "framewise/framewiselaw20.CellsBack", spec := "cellsBack", unfollowed := true, recurses := true, apart := false, narrowed := true }
def CellsBackUptoSaid : Prop := cellsBackUptoRow.holds Try.pinned (OpenSpec.upto cellsBackSpec)

/-- 'framewiselaw20.CellsAgree', WHERE WHAT IT READS IS OF BULK AT MOST 1048576: true; the input reads as it did. -/
def cellsAgreeUptoRow : OpenClaim := { program := "ytoobaeebgnbpjaa", sum := "6c1080fb7a309e6c0ec0139c352fb169f87e1e99fe09bc3065fa661ae8e94883", func := "framewise/framewiselaw20.CellsAgree", spec := "cellsAgree", unfollowed := true, recurses := true, apart := false, narrowed := true }
def CellsAgreeUptoSaid : Prop := cellsAgreeUptoRow.holds Try.pinned (OpenSpec.upto cellsAgreeSpec)

end Rows
end Go.Proofs.Ytoobaeebgnbpjaa
