/- The laws, at what comes in. -/
import Derived.Test.YtgjamefpphhobaaM7J
import Derived.Test.YtgjamefpphhobaaF7
namespace Go.Proofs.Ytgjamefpphhobaa.M7K
open Go Go.Proofs.Ytgjamefpphhobaa.Eng Go.Proofs.Ytgjamefpphhobaa Go.RowKit Go.Proofs.Ytgjamefpphhobaa.LM Go.Proofs.Ytgjamefpphhobaa.D7P Go.Proofs.Ytgjamefpphhobaa.D7R Go.Proofs.Ytgjamefpphhobaa.D7L Go.Proofs.Ytgjamefpphhobaa.M7B Go.Proofs.Ytgjamefpphhobaa.M7F Go.Proofs.Ytgjamefpphhobaa.M7I Go.Proofs.Ytgjamefpphhobaa.M7J Go.Proofs.Ytgjamefpphhobaa.F7
set_option linter.unusedSimpArgs false
set_option linter.unusedVariables false
set_option linter.unusedSectionVars false

theorem max_is : maxLen = 9223372036854775807 := rfl
theorem lin_b {l : Ln} (h : b_api_Linear l) : l.2.length ≤ 9223372036854775807 := by have := h.2.1; rwa [max_is] at this
theorem facts_b {fs : List Fc} (h : b_L_api_Fact fs) : limF fs := ⟨by have := h.1; rwa [max_is] at this, fun f hf => lin_b (h.2 f hf).2⟩
theorem cert_b : ∀ {c : T_api_Cert}, b_api_Cert c → limC c := by
  intro c h n
  induction n generalizing c with
  | zero => trivial
  | succ n ih =>
    obtain ⟨_, _, h2, h3⟩ := (b_api_Cert_is c).1 h
    exact ⟨lin_b h2, fun k hk => ih (h3.2 k hk)⟩
theorem check_t (fs : List Fc) (c : T_api_Cert) (h0 : b_L_api_Fact fs) (h1 : b_api_Cert c) : law07_CertificateCheck fs c = some true := check_true fs c (facts_b h0) (cert_b h1)
end Go.Proofs.Ytgjamefpphhobaa.M7K
