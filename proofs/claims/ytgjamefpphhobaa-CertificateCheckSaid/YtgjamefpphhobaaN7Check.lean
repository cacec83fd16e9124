/- The end of a law. -/
import Derived.Test.YtgjamefpphhobaaM7K
import Derived.Test.YtgjamefpphhobaaD7L
import Derived.Test.YtgjamefpphhobaaD7P
import Derived.Test.YtgjamefpphhobaaF7
namespace Go.Proofs.Ytgjamefpphhobaa.N7Check
open Go Go.Proofs.Ytgjamefpphhobaa.Eng Go.Proofs.Ytgjamefpphhobaa Go.RowKit Go.Proofs.Ytgjamefpphhobaa.M7K Go.Proofs.Ytgjamefpphhobaa.D7L Go.Proofs.Ytgjamefpphhobaa.D7P Go.Proofs.Ytgjamefpphhobaa.F7
set_option linter.unusedSimpArgs false
set_option linter.unusedVariables false
set_option linter.unusedSectionVars false
set_option maxRecDepth 100000

theorem end_ (W : World) (n0 : Nat) {v0 : Value} (a0 : AV) (f0 : Fits Try.prog n0 22 [a0]) (h0 : RepD (fun b => b < W.heap.size) W a0 v0) (n1 : Nat) {v1 : Value} (a1 : List AV) (f1 : Fits Try.prog n1 29 a1) (h1 : RepD (fun b => b < W.heap.size) W (.agg a1) v1) :
    Calls Try.prog 3 #[v0, v1] W fun e w' => e = .returned (.bool true) ∧ Below W.heap.size W w' := by
  obtain ⟨x0, e0, b0⟩ := ft_L_api_Fact f0
  obtain rfl : a0 = _ := (List.cons.inj e0).1
  obtain ⟨x1, e1, b1⟩ := ft_api_Cert _ f1
  rw [e_api_Cert_is] at e1
  subst e1
  exact law_of (law07_CertificateCheck_ok (check_t x0 x1 b0 b1)) (vs := [v0, v1]) ⟨_, _, rfl, h0, _, _, rfl, h1, rfl⟩

end Go.Proofs.Ytgjamefpphhobaa.N7Check
