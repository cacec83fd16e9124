/- The law on goals, at what comes in. -/
import Derived.Test.YtgjamefpphhobaaM7J
import Derived.Test.YtgjamefpphhobaaF7U
namespace Go.Proofs.Ytgjamefpphhobaa.M7U
open Go Go.Proofs.Ytgjamefpphhobaa.Eng Go.Proofs.Ytgjamefpphhobaa Go.RowKit Go.Proofs.Ytgjamefpphhobaa.LM Go.Proofs.Ytgjamefpphhobaa.PK Go.Proofs.Ytgjamefpphhobaa.D7P Go.Proofs.Ytgjamefpphhobaa.D7R Go.Proofs.Ytgjamefpphhobaa.D7L Go.Proofs.Ytgjamefpphhobaa.M7A Go.Proofs.Ytgjamefpphhobaa.M7B Go.Proofs.Ytgjamefpphhobaa.M7E Go.Proofs.Ytgjamefpphhobaa.M7F Go.Proofs.Ytgjamefpphhobaa.M7G Go.Proofs.Ytgjamefpphhobaa.M7W Go.Proofs.Ytgjamefpphhobaa.M7I Go.Proofs.Ytgjamefpphhobaa.F7U
set_option linter.unusedSimpArgs false
set_option linter.unusedVariables false
set_option linter.unusedSectionVars false

theorem lin_b {l : Ln} (h : b_api_Linear l) : l.2.length ≤ 9223372036854775807 := by have := h.2.1; omega
theorem cert_b : ∀ {c : T_api_Cert}, b_api_Cert c → limC c := by
  intro c h n
  induction n generalizing c with
  | zero => trivial
  | succ n ih =>
    obtain ⟨_, _, h2, h3⟩ := (b_api_Cert_is c).1 h
    exact ⟨lin_b h2, fun k hk => ih (h3.2 k hk)⟩
theorem proves_t (ls : List Ln) (g : Ln) (c : T_api_Cert) (h0 : b_L_api_Linear ls) (h1 : b_api_Linear g) (h2 : b_api_Cert c) : law07_CertificateProves ls g c = some true := by
  have hl := h0.1
  unfold law07_CertificateProves
  rw [awake_is, bind_s, if_pos rfl]
  obtain ⟨b, e1, k1⟩ := r_small (ls := ls) ⟨by omega, fun f hf => lin_b (h0.2 f hf)⟩ (by omega)
  rw [e1, bind_s]
  cases b with
  | false => rfl
  | true =>
    obtain ⟨k1, k2⟩ := k1 rfl
    rw [if_pos rfl, r_few4 _ (lin_b h1), bind_s]
    cases hfl : (g.2.all (fun t => decide (t.1.size ≤ 40)) && decide ((g.2.length : Int) ≤ 8)) with
    | false => rfl
    | true =>
      have hfl := few_of hfl
      have hgn := few_names hfl
      obtain ⟨b, e2, k3⟩ := small12 (cert_b h2)
      rw [if_pos rfl, e2, bind_s]
      cases b with
      | false => rfl
      | true =>
        have k3 := k3 rfl
        have hlen : (factsE ls).length = ls.length := by unfold factsE; rw [List.length_map]
        have nm : nmF (factsE ls) := ⟨by omega, fun f hf => few_names (k2 f hf)⟩
        have nl := neg_len g (by have := hfl.1; omega)
        rw [if_pos rfl, p_neg hgn, bind_s, r_neg hgn, bind_s, r_equal _ _ (by omega) (by omega), bind_s, if_pos (by simp), if_pos (by simp), p_proves k3 (by omega) nm (by omega) hgn, bind_s, r_proves k3 (by omega) nm (by omega) hgn, bind_s]
        simp

end Go.Proofs.Ytgjamefpphhobaa.M7U
