/- Structure: windows, chunks, index, update, iota, fill. -/
import Derived.Test.YtbmmemglkjeogaaS16
namespace Go.Proofs.Ytbmmemglkjeogaa.S18
open Go Go.Proofs.Ytbmmemglkjeogaa.Eng Go.Proofs.Ytbmmemglkjeogaa Go.RowKit Go.Proofs.Ytbmmemglkjeogaa.A1 Go.Proofs.Ytbmmemglkjeogaa.A2 Go.Proofs.Ytbmmemglkjeogaa.A3 Go.Proofs.Ytbmmemglkjeogaa.A4 Go.Proofs.Ytbmmemglkjeogaa.A5 Go.Proofs.Ytbmmemglkjeogaa.S1 Go.Proofs.Ytbmmemglkjeogaa.S2 Go.Proofs.Ytbmmemglkjeogaa.S3 Go.Proofs.Ytbmmemglkjeogaa.S4 Go.Proofs.Ytbmmemglkjeogaa.S5 Go.Proofs.Ytbmmemglkjeogaa.S6 Go.Proofs.Ytbmmemglkjeogaa.S7 Go.Proofs.Ytbmmemglkjeogaa.S8 Go.Proofs.Ytbmmemglkjeogaa.S9 Go.Proofs.Ytbmmemglkjeogaa.S10 Go.Proofs.Ytbmmemglkjeogaa.S11 Go.Proofs.Ytbmmemglkjeogaa.S12 Go.Proofs.Ytbmmemglkjeogaa.S13 Go.Proofs.Ytbmmemglkjeogaa.S14 Go.Proofs.Ytbmmemglkjeogaa.S15 Go.Proofs.Ytbmmemglkjeogaa.S16
set_option linter.unusedSimpArgs false
set_option linter.unusedVariables false
set_option linter.unusedSectionVars false
set_option maxRecDepth 100000

section
variable {a : List Int}
def upd (a : List Int) (i v : Int) : List Int := if insideE i a.length = true then a.set i.toNat v else a
theorem upd_len (i v : Int) : (upd a i v).length = a.length := by unfold upd; split <;> simp
theorem upd_get (i v : Int) {k : Nat} (hk : k < a.length) : (upd a i v).getD k 0 = if insideE i a.length = true ∧ (k : Int) = i then v else a.getD k 0 := by
  unfold upd
  cases hi : insideE i a.length with
  | false => simp
  | true =>
    simp [insideE] at hi
    simp only [if_true, true_and]
    rw [List.getD_eq_getElem?_getD, List.getElem?_set]
    by_cases h : (k : Int) = i
    · rw [if_pos (by omega), if_pos (by omega), if_pos h]; rfl
    · rw [if_neg (by omega), if_neg h, List.getD_eq_getElem?_getD]
theorem okL.upd {i v : Int} (ha : okL a) (hv : validE intB v = true) : okL (upd a i v) := by
  refine ⟨by rw [upd_len]; exact ha.1, fun z hz => ?_⟩
  unfold S18.upd at hz
  split at hz
  · rcases List.mem_or_eq_of_mem_set hz with h | h
    · exact ha.2 z h
    · rw [h]; exact hv
  · exact ha.2 z hz
end
end Go.Proofs.Ytbmmemglkjeogaa.S18
