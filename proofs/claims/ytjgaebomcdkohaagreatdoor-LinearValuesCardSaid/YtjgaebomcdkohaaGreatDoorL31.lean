/- Linear expressions: substituting, as sums of sorted terms. -/
import Derived.Test.YtjgaebomcdkohaaGreatDoorL13
import Derived.Test.YtjgaebomcdkohaaGreatDoorL29
namespace Go.Proofs.YtjgaebomcdkohaaGreatDoor.L31
open Go Go.Proofs.YtjgaebomcdkohaaGreatDoor.Eng Go.Proofs.YtjgaebomcdkohaaGreatDoor Go.RowKit Go.Proofs.YtjgaebomcdkohaaGreatDoor.L1 Go.Proofs.YtjgaebomcdkohaaGreatDoor.L2 Go.Proofs.YtjgaebomcdkohaaGreatDoor.L3 Go.Proofs.YtjgaebomcdkohaaGreatDoor.L4 Go.Proofs.YtjgaebomcdkohaaGreatDoor.L5 Go.Proofs.YtjgaebomcdkohaaGreatDoor.L6 Go.Proofs.YtjgaebomcdkohaaGreatDoor.L7 Go.Proofs.YtjgaebomcdkohaaGreatDoor.L13 Go.Proofs.YtjgaebomcdkohaaGreatDoor.L19 Go.Proofs.YtjgaebomcdkohaaGreatDoor.L20 Go.Proofs.YtjgaebomcdkohaaGreatDoor.L29
set_option linter.unusedSimpArgs false
set_option linter.unusedVariables false
set_option linter.unusedSectionVars false
set_option maxRecDepth 100000

def subR (bs : List Bd) : List Tm → Int × List Tm → Option (Int × List Tm)
  | [], st => some st
  | t :: r, st => if validE (byE bs t.1).1 (byE bs t.1).2 = true then subR bs r (timesE st (byE bs t.1) t.2) else none
def substR (c : Int) (ts : List Tm) (bs : List Bd) : (Int × List Tm) × Int :=
  if validE c ts = true then match subR bs ts (c, []) with | none => ((0, []), 1) | some st => limE st else ((0, []), 1)
theorem sub_same (bs : List Bd) : ∀ (ts : List Tm) {st st' : Int × List Tm}, st'.1 = st.1 → sortedT st'.2 → keysD st.2 → (∀ v, aget v st'.2 = aget v st.2) →
    (subL bs ts st = none ∧ subR bs ts st' = none) ∨ ∃ x y, subL bs ts st = some x ∧ subR bs ts st' = some y ∧ y.1 = x.1 ∧ sortedT y.2 ∧ keysD x.2 ∧ ∀ v, aget v y.2 = aget v x.2
  | [], st, st', h1, h2, h3, h4 => Or.inr ⟨st, st', rfl, rfl, h1, h2, h3, h4⟩
  | t :: r, st, st', h1, h2, h3, h4 => by
    unfold subL subR
    by_cases hv : validE (byE bs t.1).1 (byE bs t.1).2 = true
    · rw [if_pos hv, if_pos hv]
      obtain ⟨a, b⟩ := times_get t.2 (byE bs t.1).2 h2 h4
      refine sub_same bs r ?_ a (addT_d _ _ h3) b
      show W (st'.1 + W (t.2 * (byE bs t.1).1)) = addC st.1 t.2 (byE bs t.1).1
      rw [h1]
      rfl
    · rw [if_neg hv, if_neg hv]
      exact Or.inl ⟨rfl, rfl⟩
theorem subst_same (c : Int) (ts : List Tm) (bs : List Bd) : substE c ts bs = substR c ts bs := by
  unfold substE substR
  split
  · rcases sub_same bs ts (st := (c, [])) (st' := (c, [])) rfl trivial (by simp [keysD]) (fun v => rfl) with ⟨e1, e2⟩ | ⟨x, y, e1, e2, h1, h2, h3, h4⟩
    · rw [e1, e2]
    · rw [e1, e2]
      simp only
      have e : linT x.2 = y.2 := sorted_same (linT_sorted h3) h2 fun v => (linT_get x.2 v).trans (h4 v).symm
      unfold linearE limE
      rw [e, ← h1]
  · rfl

end Go.Proofs.YtjgaebomcdkohaaGreatDoor.L31
