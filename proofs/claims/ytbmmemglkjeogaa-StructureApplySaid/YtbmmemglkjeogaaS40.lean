/- Structure: Apply in the reference, for all arguments. -/
import Derived.Test.YtbmmemglkjeogaaS39
namespace Go.Proofs.Ytbmmemglkjeogaa.S40
open Go Go.Proofs.Ytbmmemglkjeogaa.Eng Go.Proofs.Ytbmmemglkjeogaa Go.RowKit Go.Proofs.Ytbmmemglkjeogaa.A1 Go.Proofs.Ytbmmemglkjeogaa.A2 Go.Proofs.Ytbmmemglkjeogaa.A3 Go.Proofs.Ytbmmemglkjeogaa.A4 Go.Proofs.Ytbmmemglkjeogaa.A5 Go.Proofs.Ytbmmemglkjeogaa.A8 Go.Proofs.Ytbmmemglkjeogaa.S1 Go.Proofs.Ytbmmemglkjeogaa.S2 Go.Proofs.Ytbmmemglkjeogaa.S3 Go.Proofs.Ytbmmemglkjeogaa.S4 Go.Proofs.Ytbmmemglkjeogaa.S5 Go.Proofs.Ytbmmemglkjeogaa.S6 Go.Proofs.Ytbmmemglkjeogaa.S7 Go.Proofs.Ytbmmemglkjeogaa.S8 Go.Proofs.Ytbmmemglkjeogaa.S9 Go.Proofs.Ytbmmemglkjeogaa.S10 Go.Proofs.Ytbmmemglkjeogaa.S11 Go.Proofs.Ytbmmemglkjeogaa.S12 Go.Proofs.Ytbmmemglkjeogaa.S15 Go.Proofs.Ytbmmemglkjeogaa.S31 Go.Proofs.Ytbmmemglkjeogaa.S32 Go.Proofs.Ytbmmemglkjeogaa.S36 Go.Proofs.Ytbmmemglkjeogaa.S37 Go.Proofs.Ytbmmemglkjeogaa.S38 Go.Proofs.Ytbmmemglkjeogaa.S39
set_option linter.unusedSimpArgs false
set_option linter.unusedVariables false
set_option linter.unusedSectionVars false
set_option maxRecDepth 100000

theorem refApply_fn (e : ByteArray) (zs : List Int) (num : Int) (l : List Ar) (hl : l.length ≤ 4096) (hs : ∀ a ∈ l, smallA a) : Meets Try.prog 12 [S e, ints zs, I num, arrs l] (apV (apE e zs num l)) := by
  unfold apE
  cases ho : opOf e with
  | none => exact refApply_form (k := 7) hl (by unfold formE; rw [ho]) (by omega)
  | some o =>
    simp only
    split
    · rename_i h1
      exact refApply_form (k := 1) hl (by rw [form_is ho, h1]; rfl) (by omega)
    rename_i h1
    have hform : formB o zs.length l.length num = true := by simpa using h1
    have hf0 : formE e zs.length l.length num = 0 := by rw [form_is ho, if_pos hform]
    have hde : dimsE e zs num (l.map (·.2.1)) = rdE o zs num (l.map (·.2.1)) := by
      unfold dimsE
      rw [List.length_map, if_neg (by simpa using hf0), ho]
    split
    · rename_i h2
      exact Meets.weak (refApply1_ hl hf0 hs (Or.inl ⟨h2, rfl⟩)) zeroT_imp
    rename_i h2
    have hv : l.any badA = false := by simpa using h2
    split
    · rename_i h3
      exact Meets.weak (refApply1_ hl hf0 hs (Or.inr (Or.inl ⟨hv, h3, rfl⟩))) zeroT_imp
    rename_i h3
    have hres : resE e (l.map (·.1)) = ((resE e (l.map (·.1))).1, true) := Prod.ext rfl (by simpa using h3)
    split
    · rename_i h4
      exact Meets.weak (refApply1_ hl hf0 hs (Or.inr (Or.inr (Or.inl ⟨hv, by simpa using h3, by rw [hde]; exact h4, by rw [hde]⟩)))) zeroT_imp
    · rename_i h4
      have hrd : rdE o zs num (l.map (·.2.1)) = ((rdE o zs num (l.map (·.2.1))).1, 0) := Prod.ext rfl (by simpa using h4)
      have hrun : Run o zs num l (rdE o zs num (l.map (·.2.1))).1 := ⟨hform, hv, hrd⟩
      rw [← hde] at hrd
      have hok := run_ok ho hrun hres
      have hlen := rd_ok hrun.rd
      generalize (rdE o zs num (l.map (·.2.1))).1 = out at *
      generalize (resE e (l.map (·.1))).1 = el at *
      show Meets _ _ _ (okV e el o zs num l out)
      cases hn : isNm e with
      | true =>
        have hch := refChosen_ ho hn hrun hres
        refine refApply1_ hl hf0 hs (Or.inr (Or.inr (Or.inr (Or.inl ⟨el, out, _, _, hv, hres, ?_, hn, hch, rfl⟩))))
        rw [hde]
        exact hrun.rd
      | false =>
        have hsz : sizeE out = ((sizeE out).1, 0) := Prod.ext rfl hlen.2.2.2
        have hn2 := hn
        rw [isNm_op ho] at hn2
        have hseq := seq_eq (f := elF o (szV zs num) l) (run_len hrun hn2).1 hsz
        refine refApply1_ hl hf0 hs (Or.inr (Or.inr (Or.inr (Or.inr ⟨el, out, (sizeE out).1, fun i => elF o (szV zs num) l (plX out i) (plY out i), hv, hres, ?_, hn, hlen.1, hsz, fun i hi => refEl_run ho hn hrun hsz i hi, ?_, ?_⟩))))
        · rw [hde]
          exact hrun.rd
        · rw [← hseq]
          exact hok
        · unfold okV
          rw [← hseq, hn]
          rfl
end Go.Proofs.Ytbmmemglkjeogaa.S40
