/-
  No cell of these rows narrows 'for every input' (looked for: loops, veiled, ifaces, maps, wideKeys, modest, calm, conditions, laid).
  DERIVED. THE GIVEN ROWS OF THIS SEAT. 6 by the template 'for every input the law returns true; each argument reads behind the call as it read before'; 0 by the template 'total and deterministic' (their statements: YtimagnkdgpfamaaTotals.lean).
  GIVEN WITH THE SEED: the statements are not yours to turn. If you find one false, say at which input.
  Laid BY PROGRAM, IN A SANDBOX (cutbox-rows.mjs): the forced cells as the released guide's own fill.sh prints them over the translation 6638c8e8a25191b7… (all of the seat's roots in one cut). By AI agents, Wed Nov 11 2026. No macro, syntax, notation, axiom, sorry.
-/
import Derived.Test.YtimagnkdgpfamaaChecked
import GoSem.Claim
import GoSem.ClaimJoined
import GoSem.ClaimMapViews
import Derived.JoinedTies
import Derived.KernelRfl
namespace Go.Proofs.Ytimagnkdgpfamaa
/- THE CELL 'sum', in the pinned program and in every row, IS THE sha256 OF THE DUMP (.gsa) THAT YtimagnkdgpfamaaProg.lean LOADS. Nothing in Lean hashes anything: it is a label: what it is worth is what the hold of that sum in a sandbox is worth. -/
noncomputable def Try.pinned : Pinned := { name := "ytimagnkdgpfamaa", sum := "6638c8e8a25191b7ac2839ec14c3cf8233aa6bb8b97cdccf9db83938b17fc50f", checked := Try.checked }
namespace Rows
def none {H : Type} : Left H := { results := [], args := [] }

/-- 'framewiselaw19.ViewOf': WHATEVER THE INPUT: true; the input reads as it did. -/
def viewOfSpec : ChangeSpec := { name := "viewOf", fn := fun _ => fun
  | [d1, d2, d3] => { results := [.lit (.bool true)], args := [d1, d2, d3] }
  | _ => none }
def viewOfRow : OpenClaim := { program := "ytimagnkdgpfamaa", sum := "6638c8e8a25191b7ac2839ec14c3cf8233aa6bb8b97cdccf9db83938b17fc50f", func := "framewise/framewiselaw19.ViewOf", spec := "viewOf", unfollowed := true, recurses := true, apart := false }
def ViewOfSaid : Prop := viewOfRow.holds Try.pinned (OpenSpec.ofChange viewOfSpec)

/-- ITS FALSE NEIGHBOUR: 'it returns false'. Refute it at one input. -/
def viewOfWrong : ChangeSpec := { name := "viewOf", fn := fun _ => fun
  | [d1, d2, d3] => { results := [.lit (.bool false)], args := [d1, d2, d3] }
  | _ => none }
def ViewOfWrongFalsely : Prop := viewOfRow.holds Try.pinned (OpenSpec.ofChange viewOfWrong)

/-- 'framewiselaw19.ViewStep': WHATEVER THE INPUT: true; the input reads as it did. -/
def viewStepSpec : ChangeSpec := { name := "viewStep", fn := fun _ => fun
  | [d1, d2] => { results := [.lit (.bool true)], args := [d1, d2] }
  | _ => none }
def viewStepRow : OpenClaim := { program := "ytimagnkdgpfamaa", sum := "6638c8e8a25191b7ac2839ec14c3cf8233aa6bb8b97cdccf9db83938b17fc50f", func := "framewise/framewiselaw19.ViewStep", spec := "viewStep", unfollowed := true, recurses := true, apart := false }
def ViewStepSaid : Prop := viewStepRow.holds Try.pinned (OpenSpec.ofChange viewStepSpec)

/-- ITS FALSE NEIGHBOUR: 'it returns false'. Refute it at one input. -/
def viewStepWrong : ChangeSpec := { name := "viewStep", fn := fun _ => fun
  | [d1, d2] => { results := [.lit (.bool false)], args := [d1, d2] }
  | _ => none }
def ViewStepWrongFalsely : Prop := viewStepRow.holds Try.pinned (OpenSpec.ofChange viewStepWrong)

/-- 'framewiselaw19.ViewCopy': WHATEVER THE INPUT: true; the input reads as it did. -/
def viewCopySpec : ChangeSpec := { name := "viewCopy", fn := fun _ => fun
  | [d1, d2] => { results := [.lit (.bool true)], args := [d1, d2] }
  | _ => none }
def viewCopyRow : OpenClaim := { program := "ytimagnkdgpfamaa", sum := "6638c8e8a25191b7ac2839ec14c3cf8233aa6bb8b97cdccf9db83938b17fc50f", func := "framewise/framewiselaw19.ViewCopy", spec := "viewCopy", unfollowed := true, recurses := true, apart := false }
def ViewCopySaid : Prop := viewCopyRow.holds Try.pinned (OpenSpec.ofChange viewCopySpec)

/-- ITS FALSE NEIGHBOUR: 'it returns false'. Refute it at one input. -/
def viewCopyWrong : ChangeSpec := { name := "viewCopy", fn := fun _ => fun
  | [d1, d2] => { results := [.lit (.bool false)], args := [d1, d2] }
  | _ => none }
def ViewCopyWrongFalsely : Prop := viewCopyRow.holds Try.pinned (OpenSpec.ofChange viewCopyWrong)

/-- 'framewiselaw19.ViewInside': WHATEVER THE INPUT: true; the input reads as it did. -/
def viewInsideSpec : ChangeSpec := { name := "viewInside", fn := fun _ => fun
  | [d1, d2] => { results := [.lit (.bool true)], args := [d1, d2] }
  | _ => none }
def viewInsideRow : OpenClaim := { program := "ytimagnkdgpfamaa", sum := "6638c8e8a25191b7ac2839ec14c3cf8233aa6bb8b97cdccf9db83938b17fc50f", func := "framewise/framewiselaw19.ViewInside", spec := "viewInside", unfollowed := true, recurses := true, apart := false }
def ViewInsideSaid : Prop := viewInsideRow.holds Try.pinned (OpenSpec.ofChange viewInsideSpec)

/-- ITS FALSE NEIGHBOUR: 'it returns false'. Refute it at one input. -/
def viewInsideWrong : ChangeSpec := { name := "viewInside", fn := fun _ => fun
  | [d1, d2] => { results := [.lit (.bool false)], args := [d1, d2] }
  | _ => none }
def ViewInsideWrongFalsely : Prop := viewInsideRow.holds Try.pinned (OpenSpec.ofChange viewInsideWrong)

/-- 'framewiselaw19.ViewTwice': WHATEVER THE INPUT: true; the input reads as it did. -/
def viewTwiceSpec : ChangeSpec := { name := "viewTwice", fn := fun _ => fun
  | [d] => { results := [.lit (.bool true)], args := [d] }
  | _ => none }
def viewTwiceRow : OpenClaim := { program := "ytimagnkdgpfamaa", sum := "6638c8e8a25191b7ac2839ec14c3cf8233aa6bb8b97cdccf9db83938b17fc50f", func := "framewise/framewiselaw19.ViewTwice", spec := "viewTwice", unfollowed := true, recurses := true, apart := false }
def ViewTwiceSaid : Prop := viewTwiceRow.holds Try.pinned (OpenSpec.ofChange viewTwiceSpec)

/-- ITS FALSE NEIGHBOUR: 'it returns false'. Refute it at one input. -/
def viewTwiceWrong : ChangeSpec := { name := "viewTwice", fn := fun _ => fun
  | [d] => { results := [.lit (.bool false)], args := [d] }
  | _ => none }
def ViewTwiceWrongFalsely : Prop := viewTwiceRow.holds Try.pinned (OpenSpec.ofChange viewTwiceWrong)

/-- 'framewiselaw19.ViewParts': WHATEVER THE INPUT: true; the input reads as it did. -/
def viewPartsSpec : ChangeSpec := { name := "viewParts", fn := fun _ => fun
  | [d1, d2, d3] => { results := [.lit (.bool true)], args := [d1, d2, d3] }
  | _ => none }
def viewPartsRow : OpenClaim := { program := "ytimagnkdgpfamaa", sum := "6638c8e8a25191b7ac2839ec14c3cf8233aa6bb8b97cdccf9db83938b17fc50f", func := "framewise/framewiselaw19.ViewParts", spec := "viewParts", unfollowed := true, recurses := true, apart := false }
def ViewPartsSaid : Prop := viewPartsRow.holds Try.pinned (OpenSpec.ofChange viewPartsSpec)

/-- ITS FALSE NEIGHBOUR: 'it returns false'. Refute it at one input. -/
def viewPartsWrong : ChangeSpec := { name := "viewParts", fn := fun _ => fun
  | [d1, d2, d3] => { results := [.lit (.bool false)], args := [d1, d2, d3] }
  | _ => none }
def ViewPartsWrongFalsely : Prop := viewPartsRow.holds Try.pinned (OpenSpec.ofChange viewPartsWrong)

/- THE SECOND FORM. 'bulk': how many values and letters a reading holds, each counted each time it is reached (what is shared counts as often as it is met; a slice's spare places count too). A statement '..UptoSaid' is the law's where the arguments, and the package variables that the reading takes, are together of bulk at most 1048576: NARROWER than '..Said'. Prove '..Said' where nothing that the law and all that it calls make is longer than what came in: it says more and counts as full. Else prove '..UptoSaid'. A law counts once. -/
mutual
def uptoBulk {H : Type} : DataW H → Nat
  | .lit (.string bytes) => bytes.length + 1
  | .lit _ => 1
  | .nil => 1
  | .ptr d => uptoBulk d + 1
  | .slice elems spare => uptoBulkAll elems + uptoBulkAll spare + 1
  | .agg parts => uptoBulkAll parts + 1
  | .iface _ d => uptoBulk d + 1
  | .map entries => uptoBulkEntries entries + 1
  | .held _ => 1
def uptoBulkAll {H : Type} : List (DataW H) → Nat
  | [] => 0
  | d :: r => uptoBulk d + uptoBulkAll r
def uptoBulkEntries {H : Type} : List (Lit × DataW H) → Nat
  | [] => 0
  | x :: r => uptoBulkEntry x + uptoBulkEntries r
def uptoBulkEntry {H : Type} : Lit × DataW H → Nat
  | (.string bytes, d) => bytes.length + uptoBulk d + 1
  | (_, d) => uptoBulk d + 1
 end
def uptoSmall : (H : Type) → List (DataW H) → Bool := fun _ ds => decide (uptoBulkAll ds ≤ 1048576)
def OpenSpec.upto (s : _root_.Go.ChangeSpec) : _root_.Go.OpenSpec := { _root_.Go.OpenSpec.ofChange s with cond := some uptoSmall }

/-- 'framewiselaw19.ViewOf', WHERE WHAT IT READS IS OF BULK AT MOST 1048576: true; the input reads as it did. -/
def viewOfUptoRow : OpenClaim := { program := "ytimagnkdgpfamaa", sum := "6638c8e8a25191b7ac2839ec14c3cf8233aa6bb8b97cdccf9db83938b17fc50f", func := "framewise/framewiselaw19.ViewOf", spec := "viewOf", unfollowed := true, recurses := true, apart := false, narrowed := true }
def ViewOfUptoSaid : Prop := viewOfUptoRow.holds Try.pinned (OpenSpec.upto viewOfSpec)

/-- 'framewiselaw19.ViewStep', WHERE WHAT IT READS IS OF BULK AT MOST 1048576: true; the input reads as it did. -/
def viewStepUptoRow : OpenClaim := { program := "ytimagnkdgpfamaa", sum := "6638c8e8a25191b7ac2839ec14c3cf8233aa6bb8b97cdccf9db83938b17fc50f", func := "framewise/framewiselaw19.ViewStep", spec := "viewStep", unfollowed := true, recurses := true, apart := false, narrowed := true }
def ViewStepUptoSaid : Prop := viewStepUptoRow.holds Try.pinned (OpenSpec.upto viewStepSpec)

/-- 'framewiselaw19.ViewCopy', WHERE WHAT IT READS IS OF BULK AT MOST 1048576: true; the input reads as it did. -/
def viewCopyUptoRow : OpenClaim := { program := "ytimagnkdgpfamaa", sum := "6638c8e8a25191b7ac2839ec14c3cf8233aa6bb8b97cdccf9db83938b17fc50f", func := "framewise/framewiselaw19.ViewCopy", spec := "viewCopy", unfollowed := true, recurses := true, apart := false, narrowed := true }
def ViewCopyUptoSaid : Prop := viewCopyUptoRow.holds Try.pinned (OpenSpec.upto viewCopySpec)

/-- 'framewiselaw19.ViewInside', WHERE WHAT IT READS IS OF BULK AT MOST 1048576: true; the input reads as it did. -/
def viewInsideUptoRow : OpenClaim := { program := "ytimagnkdgpfamaa", sum := "6638c8e8a25191b7ac2839ec14c3cf8233aa6bb8b97cdccf9db83938b17fc50f", func := "framewise/framewiselaw19.ViewInside", spec := "viewInside", unfollowed := true, recurses := true, apart := false, narrowed := true }
def ViewInsideUptoSaid : Prop := viewInsideUptoRow.holds Try.pinned (OpenSpec.upto viewInsideSpec)

/-- 'framewiselaw19.ViewTwice', WHERE WHAT IT READS IS OF BULK AT MOST 1048576: true; the input reads as it did. -/
def viewTwiceUptoRow : OpenClaim := { program := "ytimagnkdgpfamaa", sum := "6638c8e8a25191b7ac2839ec14c3cf8233aa6bb8b97cdccf9db83938b17fc50f", func := "framewise/framewiselaw19.ViewTwice", spec := "viewTwice", unfollowed := true, recurses := true, apart := false, narrowed := true }
def ViewTwiceUptoSaid : Prop := viewTwiceUptoRow.holds Try.pinned (OpenSpec.upto viewTwiceSpec)

/-- 'framewiselaw19.ViewParts', WHERE WHAT IT READS IS OF BULK AT MOST 1048576: true; the input reads as it did. -/
def viewPartsUptoRow : OpenClaim := { program := "ytimagnkdgpfamaa", sum := "6638c8e8a25191b7ac2839ec14c3cf8233aa6bb8b97cdccf9db83938b17fc50f", func := "framewise/framewiselaw19.ViewParts", spec := "viewParts", unfollowed := true, recurses := true, apart := false, narrowed := true }
def ViewPartsUptoSaid : Prop := viewPartsUptoRow.holds Try.pinned (OpenSpec.upto viewPartsSpec)

end Rows
end Go.Proofs.Ytimagnkdgpfamaa
