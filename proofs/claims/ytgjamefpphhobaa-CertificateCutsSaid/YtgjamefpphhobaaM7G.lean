/- What certificates refute, on both sides. -/
import Derived.Test.YtgjamefpphhobaaM7F
namespace Go.Proofs.Ytgjamefpphhobaa.M7G
open Go Go.Proofs.Ytgjamefpphhobaa.Eng Go.Proofs.Ytgjamefpphhobaa Go.RowKit Go.Proofs.Ytgjamefpphhobaa.LM Go.Proofs.Ytgjamefpphhobaa.PK Go.Proofs.Ytgjamefpphhobaa.D7P Go.Proofs.Ytgjamefpphhobaa.D7R Go.Proofs.Ytgjamefpphhobaa.M7A Go.Proofs.Ytgjamefpphhobaa.M7B Go.Proofs.Ytgjamefpphhobaa.M7C Go.Proofs.Ytgjamefpphhobaa.M7D Go.Proofs.Ytgjamefpphhobaa.M7E Go.Proofs.Ytgjamefpphhobaa.M7F
set_option linter.unusedSimpArgs false
set_option linter.unusedVariables false
set_option linter.unusedSectionVars false
set_option maxRecDepth 100000

theorem cut_valid {fs : List Fc} {ms : List Int} (h : (cutE fs ms).2 = 0) : vE (cutE fs ms).1 = true := by
  unfold cutE at h ⊢
  split
  · rename_i h1
    rw [if_pos h1] at h
    split
    · rename_i h2
      rw [if_pos h2] at h
      cases h
    · rename_i h2
      rw [if_neg h2] at h
      unfold cutR at h ⊢
      split
      · assumption
      · rename_i h3
        rw [if_neg h3] at h
        cases h
  · rename_i h1
    rw [if_neg h1] at h
    cases h
end Go.Proofs.Ytgjamefpphhobaa.M7G
