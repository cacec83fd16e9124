/- The laws, at what comes in. -/
import Derived.Test.YtgjamefpphhobaaM7J
import Derived.Test.YtgjamefpphhobaaF7
namespace Go.Proofs.Ytgjamefpphhobaa.M7K
open Go Go.Proofs.Ytgjamefpphhobaa.Eng Go.Proofs.Ytgjamefpphhobaa Go.RowKit Go.Proofs.Ytgjamefpphhobaa.LM Go.Proofs.Ytgjamefpphhobaa.D7P Go.Proofs.Ytgjamefpphhobaa.D7R Go.Proofs.Ytgjamefpphhobaa.D7L Go.Proofs.Ytgjamefpphhobaa.M7B Go.Proofs.Ytgjamefpphhobaa.M7F Go.Proofs.Ytgjamefpphhobaa.M7I Go.Proofs.Ytgjamefpphhobaa.M7J Go.Proofs.Ytgjamefpphhobaa.F7
set_option linter.unusedSimpArgs false
set_option linter.unusedVariables false
set_option linter.unusedSectionVars false

theorem max_is : maxLen = 9223372036854775807 := rfl
theorem lin_b {l : Ln} (h : b_api_Linear l) : l.2.length ≤ 9223372036854775807 := by have := h.2.1; rwa [max_is] at this
theorem facts_b {fs : List Fc} (h : b_L_api_Fact fs) : limF fs := ⟨by have := h.1; rwa [max_is] at this, fun f hf => lin_b (h.2 f hf).2⟩
theorem cuts_t (fs : List Fc) (ms : List Int) (vs : List Tm) (h0 : b_L_api_Fact fs) (h1 : b_L_int ms) (h2 : b_L_api_Value vs) : law07_CertificateCuts fs ms vs = some true := cuts_true fs ms vs (facts_b h0)
end Go.Proofs.Ytgjamefpphhobaa.M7K
