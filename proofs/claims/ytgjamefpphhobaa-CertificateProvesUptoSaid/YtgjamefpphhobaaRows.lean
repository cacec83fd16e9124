/-
  NARROWER THAN 'FOR EVERY INPUT', by the rows' own cells (each row's printed sentence says how): CertificateCheck: loops · CertificateProves: loops · CertificateSound: loops · CertificateWeaken: loops · CertificateSplit: loops.
  DERIVED. THE GIVEN ROWS OF THIS SEAT. 7 by the template 'for every input the law returns true; each argument reads behind the call as it read before'; 0 by the template 'total and deterministic' (their statements: YtgjamefpphhobaaTotals.lean).
  GIVEN WITH THE SEED: the statements are not yours to turn. If you find one false, say at which input.
  Laid BY PROGRAM, IN A SANDBOX (cutbox-rows.mjs): the forced cells as the released guide's own fill.sh prints them over the translation dc7eae6bbbc05773… (all of the seat's roots in one cut). By AI agents, Wed Nov 11 2026. No macro, syntax, notation, axiom, sorry.
-/
import Derived.Test.YtgjamefpphhobaaChecked
import GoSem.Claim
import GoSem.ClaimJoined
import GoSem.ClaimMapViews
import Derived.JoinedTies
import Derived.KernelRfl
namespace Go.Proofs.Ytgjamefpphhobaa
/- THE CELL 'sum', in the pinned program and in every row, IS THE sha256 OF THE DUMP (.gsa) THAT YtgjamefpphhobaaProg.lean LOADS. Nothing in Lean hashes anything: it is a label: what it is worth is what the hold of that sum in a sandbox is worth. -/
noncomputable def Try.pinned : Pinned := { name := "ytgjamefpphhobaa", sum := "dc7eae6bbbc0577378d6ea30f8ca7d4ea87ea80da73305c97614780cad90df1a", checked := Try.checked }
namespace Rows
def none {H : Type} : Left H := { results := [], args := [] }

/-- 'framewiselaw07.CertificateCheck': WHATEVER THE INPUT: true; the input reads as it did. -/
def certificateCheckSpec : ChangeSpec := { name := "certificateCheck", fn := fun _ => fun
  | [d1, d2] => { results := [.lit (.bool true)], args := [d1, d2] }
  | _ => none }
def certificateCheckRow : OpenClaim := { program := "ytgjamefpphhobaa", sum := "dc7eae6bbbc0577378d6ea30f8ca7d4ea87ea80da73305c97614780cad90df1a", func := "framewise/framewiselaw07.CertificateCheck", spec := "certificateCheck", unfollowed := true, recurses := true, loops := true, apart := false }
def CertificateCheckSaid : Prop := certificateCheckRow.holds Try.pinned (OpenSpec.ofChange certificateCheckSpec)

/-- ITS FALSE NEIGHBOUR: 'it returns false'. Refute it at one input. -/
def certificateCheckWrong : ChangeSpec := { name := "certificateCheck", fn := fun _ => fun
  | [d1, d2] => { results := [.lit (.bool false)], args := [d1, d2] }
  | _ => none }
def CertificateCheckWrongFalsely : Prop := certificateCheckRow.holds Try.pinned (OpenSpec.ofChange certificateCheckWrong)

/-- 'framewiselaw07.CertificateCut': WHATEVER THE INPUT: true; the input reads as it did. -/
def certificateCutSpec : ChangeSpec := { name := "certificateCut", fn := fun _ => fun
  | [d1, d2, d3] => { results := [.lit (.bool true)], args := [d1, d2, d3] }
  | _ => none }
def certificateCutRow : OpenClaim := { program := "ytgjamefpphhobaa", sum := "dc7eae6bbbc0577378d6ea30f8ca7d4ea87ea80da73305c97614780cad90df1a", func := "framewise/framewiselaw07.CertificateCut", spec := "certificateCut", unfollowed := true, recurses := true, apart := false }
def CertificateCutSaid : Prop := certificateCutRow.holds Try.pinned (OpenSpec.ofChange certificateCutSpec)

/-- ITS FALSE NEIGHBOUR: 'it returns false'. Refute it at one input. -/
def certificateCutWrong : ChangeSpec := { name := "certificateCut", fn := fun _ => fun
  | [d1, d2, d3] => { results := [.lit (.bool false)], args := [d1, d2, d3] }
  | _ => none }
def CertificateCutWrongFalsely : Prop := certificateCutRow.holds Try.pinned (OpenSpec.ofChange certificateCutWrong)

/-- 'framewiselaw07.CertificateProves': WHATEVER THE INPUT: true; the input reads as it did. -/
def certificateProvesSpec : ChangeSpec := { name := "certificateProves", fn := fun _ => fun
  | [d1, d2, d3] => { results := [.lit (.bool true)], args := [d1, d2, d3] }
  | _ => none }
def certificateProvesRow : OpenClaim := { program := "ytgjamefpphhobaa", sum := "dc7eae6bbbc0577378d6ea30f8ca7d4ea87ea80da73305c97614780cad90df1a", func := "framewise/framewiselaw07.CertificateProves", spec := "certificateProves", unfollowed := true, recurses := true, loops := true, apart := false }
def CertificateProvesSaid : Prop := certificateProvesRow.holds Try.pinned (OpenSpec.ofChange certificateProvesSpec)

/-- ITS FALSE NEIGHBOUR: 'it returns false'. Refute it at one input. -/
def certificateProvesWrong : ChangeSpec := { name := "certificateProves", fn := fun _ => fun
  | [d1, d2, d3] => { results := [.lit (.bool false)], args := [d1, d2, d3] }
  | _ => none }
def CertificateProvesWrongFalsely : Prop := certificateProvesRow.holds Try.pinned (OpenSpec.ofChange certificateProvesWrong)

/-- 'framewiselaw07.CertificateSound': WHATEVER THE INPUT: true; the input reads as it did. -/
def certificateSoundSpec : ChangeSpec := { name := "certificateSound", fn := fun _ => fun
  | [d1, d2, d3] => { results := [.lit (.bool true)], args := [d1, d2, d3] }
  | _ => none }
def certificateSoundRow : OpenClaim := { program := "ytgjamefpphhobaa", sum := "dc7eae6bbbc0577378d6ea30f8ca7d4ea87ea80da73305c97614780cad90df1a", func := "framewise/framewiselaw07.CertificateSound", spec := "certificateSound", unfollowed := true, recurses := true, loops := true, apart := false }
def CertificateSoundSaid : Prop := certificateSoundRow.holds Try.pinned (OpenSpec.ofChange certificateSoundSpec)

/-- ITS FALSE NEIGHBOUR: 'it returns false'. Refute it at one input. -/
def certificateSoundWrong : ChangeSpec := { name := "certificateSound", fn := fun _ => fun
  | [d1, d2, d3] => { results := [.lit (.bool false)], args := [d1, d2, d3] }
  | _ => none }
def CertificateSoundWrongFalsely : Prop := certificateSoundRow.holds Try.pinned (OpenSpec.ofChange certificateSoundWrong)

/-- 'framewiselaw07.CertificateCuts': WHATEVER THE INPUT: true; the input reads as it did. -/
def certificateCutsSpec : ChangeSpec := { name := "certificateCuts", fn := fun _ => fun
  | [d1, d2, d3] => { results := [.lit (.bool true)], args := [d1, d2, d3] }
  | _ => none }
def certificateCutsRow : OpenClaim := { program := "ytgjamefpphhobaa", sum := "dc7eae6bbbc0577378d6ea30f8ca7d4ea87ea80da73305c97614780cad90df1a", func := "framewise/framewiselaw07.CertificateCuts", spec := "certificateCuts", unfollowed := true, recurses := true, apart := false }
def CertificateCutsSaid : Prop := certificateCutsRow.holds Try.pinned (OpenSpec.ofChange certificateCutsSpec)

/-- ITS FALSE NEIGHBOUR: 'it returns false'. Refute it at one input. -/
def certificateCutsWrong : ChangeSpec := { name := "certificateCuts", fn := fun _ => fun
  | [d1, d2, d3] => { results := [.lit (.bool false)], args := [d1, d2, d3] }
  | _ => none }
def CertificateCutsWrongFalsely : Prop := certificateCutsRow.holds Try.pinned (OpenSpec.ofChange certificateCutsWrong)

/-- 'framewiselaw07.CertificateWeaken': WHATEVER THE INPUT: true; the input reads as it did. -/
def certificateWeakenSpec : ChangeSpec := { name := "certificateWeaken", fn := fun _ => fun
  | [d1, d2, d3] => { results := [.lit (.bool true)], args := [d1, d2, d3] }
  | _ => none }
def certificateWeakenRow : OpenClaim := { program := "ytgjamefpphhobaa", sum := "dc7eae6bbbc0577378d6ea30f8ca7d4ea87ea80da73305c97614780cad90df1a", func := "framewise/framewiselaw07.CertificateWeaken", spec := "certificateWeaken", inPlace := ["slices.overlaps[int]"], unfollowed := true, recurses := true, loops := true, apart := false }
def CertificateWeakenSaid : Prop := certificateWeakenRow.holds Try.pinned (OpenSpec.ofChange certificateWeakenSpec)

/-- ITS FALSE NEIGHBOUR: 'it returns false'. Refute it at one input. -/
def certificateWeakenWrong : ChangeSpec := { name := "certificateWeaken", fn := fun _ => fun
  | [d1, d2, d3] => { results := [.lit (.bool false)], args := [d1, d2, d3] }
  | _ => none }
def CertificateWeakenWrongFalsely : Prop := certificateWeakenRow.holds Try.pinned (OpenSpec.ofChange certificateWeakenWrong)

/-- 'framewiselaw07.CertificateSplit': WHATEVER THE INPUT: true; the input reads as it did. -/
def certificateSplitSpec : ChangeSpec := { name := "certificateSplit", fn := fun _ => fun
  | [d1, d2, d3] => { results := [.lit (.bool true)], args := [d1, d2, d3] }
  | _ => none }
def certificateSplitRow : OpenClaim := { program := "ytgjamefpphhobaa", sum := "dc7eae6bbbc0577378d6ea30f8ca7d4ea87ea80da73305c97614780cad90df1a", func := "framewise/framewiselaw07.CertificateSplit", spec := "certificateSplit", unfollowed := true, recurses := true, loops := true, apart := false }
def CertificateSplitSaid : Prop := certificateSplitRow.holds Try.pinned (OpenSpec.ofChange certificateSplitSpec)

/-- ITS FALSE NEIGHBOUR: 'it returns false'. Refute it at one input. -/
def certificateSplitWrong : ChangeSpec := { name := "certificateSplit", fn := fun _ => fun
  | [d1, d2, d3] => { results := [.lit (.bool false)], args := [d1, d2, d3] }
  | _ => none }
def CertificateSplitWrongFalsely : Prop := certificateSplitRow.holds Try.pinned (OpenSpec.ofChange certificateSplitWrong)

/- THE SECOND FORM. 'bulk': how many values and letters a reading holds, each counted each time it is reached (what is shared counts as often as it is met; a slice's spare places count too). A statement '..UptoSaid' is the law's where the arguments, and the package variables that the reading takes, are together of bulk at most 1048576: NARROWER than '..Said'. Prove '..Said' where nothing that the law and all that it calls make is longer than what came in: it says more and counts as full. Else prove '..UptoSaid'. A law counts once. -/
mutual
def uptoBulk {H : Type} : DataW H → Nat
  | .lit (.string bytes) => bytes.length + 1
  | .lit _ => 1
  | .nil => 1
  | .ptr d => uptoBulk d + 1
  | .slice elems spare => uptoBulkAll elems + uptoBulkAll spare + 1
  | .agg parts => uptoBulkAll parts + 1
  | .iface _ d => uptoBulk d + 1
  | .map entries => uptoBulkEntries entries + 1
  | .held _ => 1
def uptoBulkAll {H : Type} : List (DataW H) → Nat
  | [] => 0
  | d :: r => uptoBulk d + uptoBulkAll r
def uptoBulkEntries {H : Type} : List (Lit × DataW H) → Nat
  | [] => 0
  | x :: r => uptoBulkEntry x + uptoBulkEntries r
def uptoBulkEntry {H : Type} : Lit × DataW H → Nat
  | (.string bytes, d) => bytes.length + uptoBulk d + 1
  | (_, d) => uptoBulk d + 1
 end
def uptoSmall : (H : Type) → List (DataW H) → Bool := fun _ ds => decide (uptoBulkAll ds ≤ 1048576)
def OpenSpec.upto (s : _root_.Go.ChangeSpec) : _root_.Go.OpenSpec := { _root_.Go.OpenSpec.ofChange s with cond := some uptoSmall }

/-- 'framewiselaw07.CertificateCheck', WHERE WHAT IT READS IS OF BULK AT MOST 1048576: true; the input reads as it did. -/
def certificateCheckUptoRow : OpenClaim := { program := "ytgjamefpphhobaa", sum := "dc7eae6bbbc0577378d6ea30f8ca7d4ea87ea80da73305c97614780cad90df1a", func := "framewise/framewiselaw07.CertificateCheck", spec := "certificateCheck", unfollowed := true, recurses := true, loops := true, apart := false, narrowed := true }
def CertificateCheckUptoSaid : Prop := certificateCheckUptoRow.holds Try.pinned (OpenSpec.upto certificateCheckSpec)

/-- 'framewiselaw07.CertificateCut', WHERE WHAT IT READS IS OF BULK AT MOST 1048576: true; the input reads as it did. -/
def certificateCutUptoRow : OpenClaim := { program := "ytgjamefpphhobaa", sum := "dc7eae6bbbc0577378d6ea30f8ca7d4ea87ea80da73305c97614780cad90df1a", func := "framewise/framewiselaw07.CertificateCut", spec := "certificateCut", unfollowed := true, recurses := true, apart := false, narrowed := true }
def CertificateCutUptoSaid : Prop := certificateCutUptoRow.holds Try.pinned (OpenSpec.upto certificateCutSpec)

/-- 'framewiselaw07.CertificateProves', WHERE WHAT IT READS IS OF BULK AT MOST 1048576: true; the input reads as it did. -/
def certificateProvesUptoRow : OpenClaim := { program := "ytgjamefpphhobaa", sum := "dc7eae6bbbc0577378d6ea30f8ca7d4ea87ea80da73305c97614780cad90df1a", func := "framewise/framewiselaw07.CertificateProves", spec := "certificateProves", unfollowed := true, recurses := true, loops := true, apart := false, narrowed := true }
def CertificateProvesUptoSaid : Prop := certificateProvesUptoRow.holds Try.pinned (OpenSpec.upto certificateProvesSpec)

/-- 'framewiselaw07.CertificateSound', WHERE WHAT IT READS IS OF BULK AT MOST 1048576: true; the input reads as it did. -/
def certificateSoundUptoRow : OpenClaim := { program := "ytgjamefpphhobaa", sum := "dc7eae6bbbc0577378d6ea30f8ca7d4ea87ea80da73305c97614780cad90df1a", func := "framewise/framewiselaw07.CertificateSound", spec := "certificateSound", unfollowed := true, recurses := true, loops := true, apart := false, narrowed := true }
def CertificateSoundUptoSaid : Prop := certificateSoundUptoRow.holds Try.pinned (OpenSpec.upto certificateSoundSpec)

/-- 'framewiselaw07.CertificateCuts', WHERE WHAT IT READS IS OF BULK AT MOST 1048576: true; the input reads as it did. -/
def certificateCutsUptoRow : OpenClaim := { program := "ytgjamefpphhobaa", sum := "dc7eae6bbbc0577378d6ea30f8ca7d4ea87ea80da73305c97614780cad90df1a", func := "framewise/framewiselaw07.CertificateCuts", spec := "certificateCuts", unfollowed := true, recurses := true, apart := false, narrowed := true }
def CertificateCutsUptoSaid : Prop := certificateCutsUptoRow.holds Try.pinned (OpenSpec.upto certificateCutsSpec)

/-- 'framewiselaw07.CertificateWeaken', WHERE WHAT IT READS IS OF BULK AT MOST 1048576: true; the input reads as it did. -/
def certificateWeakenUptoRow : OpenClaim := { program := "ytgjamefpphhobaa", sum := "dc7eae6bbbc0577378d6ea30f8ca7d4ea87ea80da73305c97614780cad90df1a", func := "framewise/framewiselaw07.CertificateWeaken", spec := "certificateWeaken", inPlace := ["slices.overlaps[int]"], unfollowed := true, recurses := true, loops := true, apart := false, narrowed := true }
def CertificateWeakenUptoSaid : Prop := certificateWeakenUptoRow.holds Try.pinned (OpenSpec.upto certificateWeakenSpec)

/-- 'framewiselaw07.CertificateSplit', WHERE WHAT IT READS IS OF BULK AT MOST 1048576: true; the input reads as it did. -/
def certificateSplitUptoRow : OpenClaim := { program := "ytgjamefpphhobaa", sum := "dc7eae6bbbc0577378d6ea30f8ca7d4ea87ea80da73305c97614780cad90df1a", func := "framewise/framewiselaw07.CertificateSplit", spec := "certificateSplit", unfollowed := true, recurses := true, loops := true, apart := false, narrowed := true }
def CertificateSplitUptoSaid : Prop := certificateSplitUptoRow.holds Try.pinned (OpenSpec.upto certificateSplitSpec)

end Rows
end Go.Proofs.Ytgjamefpphhobaa
