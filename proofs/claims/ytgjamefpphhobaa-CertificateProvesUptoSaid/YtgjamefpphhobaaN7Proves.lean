/- The end of a law. -/
import Derived.Test.YtgjamefpphhobaaM7U
import Derived.Test.YtgjamefpphhobaaD7L
import Derived.Test.YtgjamefpphhobaaD7P
import Derived.Test.YtgjamefpphhobaaF7U
namespace Go.Proofs.Ytgjamefpphhobaa.N7Proves
open Go Go.Proofs.Ytgjamefpphhobaa.Eng Go.Proofs.Ytgjamefpphhobaa Go.RowKit Go.Proofs.Ytgjamefpphhobaa.M7U Go.Proofs.Ytgjamefpphhobaa.D7L Go.Proofs.Ytgjamefpphhobaa.D7P Go.Proofs.Ytgjamefpphhobaa.F7U
set_option linter.unusedSimpArgs false
set_option linter.unusedVariables false
set_option linter.unusedSectionVars false
set_option maxRecDepth 100000

theorem end_ (W : World) (n0 : Nat) {v0 : Value} (a0 : AV) (f0 : FitsU Try.prog 1048576 n0 44 [a0]) (h0 : RepD (fun b => b < W.heap.size) W a0 v0) (n1 : Nat) {v1 : Value} (a1 : List AV) (f1 : FitsU Try.prog 1048576 n1 26 a1) (h1 : RepD (fun b => b < W.heap.size) W (.agg a1) v1) (n2 : Nat) {v2 : Value} (a2 : List AV) (f2 : FitsU Try.prog 1048576 n2 29 a2) (h2 : RepD (fun b => b < W.heap.size) W (.agg a2) v2) :
    Calls Try.prog 5 #[v0, v1, v2] W fun e w' => e = .returned (.bool true) ∧ Below W.heap.size W w' := by
  obtain ⟨x0, e0, b0⟩ := ft_L_api_Linear f0
  obtain rfl : a0 = _ := (List.cons.inj e0).1
  obtain ⟨x1, e1, b1⟩ := ft_api_Linear f1
  subst e1
  obtain ⟨x2, e2, b2⟩ := ft_api_Cert _ f2
  rw [e_api_Cert_is] at e2
  subst e2
  exact law_of (law07_CertificateProves_ok (proves_t x0 x1 x2 b0 b1 b2)) (vs := [v0, v1, v2]) ⟨_, _, rfl, h0, _, _, rfl, h1, _, _, rfl, h2, rfl⟩

end Go.Proofs.Ytgjamefpphhobaa.N7Proves
