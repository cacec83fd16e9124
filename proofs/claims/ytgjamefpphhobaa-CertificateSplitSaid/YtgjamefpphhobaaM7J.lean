/- The laws on what certificates and cuts mean. -/
import Derived.Test.YtgjamefpphhobaaM7I
namespace Go.Proofs.Ytgjamefpphhobaa.M7J
open Go Go.Proofs.Ytgjamefpphhobaa.Eng Go.Proofs.Ytgjamefpphhobaa Go.RowKit Go.Proofs.Ytgjamefpphhobaa.LM Go.Proofs.Ytgjamefpphhobaa.PK Go.Proofs.Ytgjamefpphhobaa.D7P Go.Proofs.Ytgjamefpphhobaa.D7R Go.Proofs.Ytgjamefpphhobaa.D7L Go.Proofs.Ytgjamefpphhobaa.M7A Go.Proofs.Ytgjamefpphhobaa.M7B Go.Proofs.Ytgjamefpphhobaa.M7C Go.Proofs.Ytgjamefpphhobaa.M7D Go.Proofs.Ytgjamefpphhobaa.M7E Go.Proofs.Ytgjamefpphhobaa.M7F Go.Proofs.Ytgjamefpphhobaa.M7G Go.Proofs.Ytgjamefpphhobaa.M7H Go.Proofs.Ytgjamefpphhobaa.M7W Go.Proofs.Ytgjamefpphhobaa.M7I
set_option linter.unusedSimpArgs false
set_option linter.unusedVariables false
set_option linter.unusedSectionVars false
set_option maxRecDepth 100000

theorem ref_split {n : Nat} {fs : List Fc} {l : Ln} {a b : T_api_Cert} : refE (n + 1) fs ⟨3, [], l, [a, b]⟩ = (if (negE l).2 = 0 then refE n (fs ++ [(false, l)]) a && refE n (fs ++ [(false, (negE l).1)]) b else false) := by
  rw [refE]
  simp
theorem split_true (fs : List Fc) (l : Ln) (c : T_api_Cert × T_api_Cert) (hf : limF fs) (hl : l.2.length ≤ 9223372036854775807) (hc1 : limC c.1) (hc2 : limC c.2) : law07_CertificateSplit fs l c = some true := by
  obtain ⟨a, b⟩ := c
  simp only at hc1 hc2
  unfold law07_CertificateSplit
  rw [awake_is, bind_s, if_pos rfl]
  obtain ⟨r, e1, h1⟩ := r_few7 hf 8
  rw [e1, bind_s]
  cases r with
  | false => rfl
  | true =>
    have h1 := h1 rfl
    have nm := few_nm (k := 8) (by omega) h1
    rw [if_pos rfl, r_few4 _ hl, bind_s]
    cases hfl : (l.2.all (fun t => decide (t.1.size ≤ 40)) && decide ((l.2.length : Int) ≤ 8)) with
    | false => rfl
    | true =>
      have hfl := few_of hfl
      have hln := few_names hfl
      obtain ⟨r, e2, h2⟩ := small12 hc1
      rw [if_pos rfl, e2, bind_s]
      cases r with
      | false => rfl
      | true =>
        have h2 := h2 rfl
        obtain ⟨r, e3, h3⟩ := small12 hc2
        rw [if_pos rfl, e3, bind_s]
        cases r with
        | false => rfl
        | true =>
          have h3 := h3 rfl
          rw [if_pos rfl, r_validF nm, bind_s]
          cases hv : vF fs with
          | false => rfl
          | true =>
            have hvs := vF_iff.1 hv
            have z1 := gd_sz h2
            have z2 := gd_sz h3
            have nml : ∀ x : Ln, names x.2 → nmF (fs ++ [(false, x)]) := fun x hx => ⟨by rw [List.length_append]; simp; omega, fun f hf => by
              rcases List.mem_append.1 hf with hf | hf
              · exact nm.2 f hf
              · simp at hf; subst hf; exact hx⟩
            -- the split has up to 25 certificates
            have e4 : certificate_Check fs ⟨3, [], l, [a, b]⟩ = some (if refE 13 fs ⟨3, [], l, [a, b]⟩ = true then 0 else 18) := by
              unfold certificate_Check
              rw [p_valid nm, bind_s, hv, if_pos rfl, if_neg (by simp; omega)]
              have c1 := p_count (4611686018427387903 - 12) 999 h2 (by omega) (by omega)
              have c2 := p_count (4611686018427387903 - 12) (1000 - (1 + szE 12 a)) h3 (by omega) (by omega)
              rw [show 12 + (4611686018427387903 - 12) = 4611686018427387903 by omega] at c1 c2
              have c3 : certificate_count 4611686018427387904 ⟨3, [], l, [a, b]⟩ 1000 = some (1 + szE 12 a + szE 12 b) := by
                rw [show (4611686018427387904 : Nat) = 4611686018427387903 + 1 from rfl, certificate_count]
                rw [show ([a, b] : List T_api_Cert).length = 2 from rfl, forC, if_pos (by omega)]
                simp only [forI, List.getElem?_cons_zero, List.getElem?_cons_succ, bind_s]
                rw [if_neg (by decide), show IntKind.i64.wrap (1000 - 1) = 999 from by decide, c1]
                simp only [bind_s, St.on]
                rw [wrap_in (x := 1 + szE 12 a) (by omega) (by omega), if_neg (by rw [decide_eq_true_eq]; omega), wrap_in (x := 1000 - (1 + szE 12 a)) (by omega) (by omega), c2]
                simp only [bind_s, elim_l]
                rw [wrap_in (by omega) (by omega)]
                rfl
              have c4 : certificate_refutes 4611686018427387904 fs ⟨3, [], l, [a, b]⟩ = some (refE 13 fs ⟨3, [], l, [a, b]⟩) := by
                rw [show (4611686018427387904 : Nat) = 4611686018427387903 + 1 from rfl, certificate_refutes, ref_split]
                simp only [p_neg hln, bind_s, List.getElem?_cons_zero, List.getElem?_cons_succ]
                rw [if_pos (by decide), if_neg (by simp), if_neg (by decide), if_neg (by decide), if_pos (by rfl)]
                by_cases q : (negE l).2 = 0
                · obtain ⟨n1, n2, _⟩ := neg_valid q
                  have r1 := p_refutes (n := 12) (4611686018427387903 - 12) h2 (valids_app (f := (false, l)) hvs n1) (by rw [List.length_append]; simp; omega)
                  have r2 := p_refutes (n := 12) (4611686018427387903 - 12) h3 (valids_app (f := (false, (negE l).1)) hvs n2) (by rw [List.length_append]; simp; omega)
                  rw [show 12 + (4611686018427387903 - 12) = 4611686018427387903 by omega] at r1 r2
                  rw [if_pos (by simpa using q), if_pos q, p_app _ (by omega), bind_s, r1, bind_s]
                  cases refE 12 (fs ++ [(false, l)]) a with
                  | false => rfl
                  | true => rw [if_pos rfl, p_app _ (by omega), bind_s, r2, bind_s, Bool.true_and]
                · rw [if_neg (by simpa using q), if_neg q]
              rw [c3, bind_s, if_neg (by rw [decide_eq_true_eq]; omega), c4, bind_s]
              cases refE 13 fs ⟨3, [], l, [a, b]⟩ <;> rfl
            rw [if_pos rfl, p_neg hln, bind_s, e4, bind_s, ref_split]
            by_cases q : (negE l).2 = 0
            · obtain ⟨n1, n2, _⟩ := neg_valid q
              have k1 := p_check h2 (by omega) (nml l hln) (by rw [List.length_append]; simp; omega)
              have k2 := p_check h3 (by omega) (nml (negE l).1 (neg_names l)) (by rw [List.length_append]; simp; omega)
              rw [if_pos q, if_neg (show ¬ ((negE l).2 != 0) = true by simpa using q), iffO_d (by omega), iffO_d (by omega), k1, bind_s, iffO_d (by omega), iffO_d (by omega), k2, bind_s]
              unfold checkE
              rw [if_pos (vF_iff.2 (valids_app (f := (false, l)) hvs n1)), if_pos (vF_iff.2 (valids_app (f := (false, (negE l).1)) hvs n2))]
              cases refE 12 (fs ++ [(false, l)]) a <;> cases refE 12 (fs ++ [(false, (negE l).1)]) b <;> rfl
            · rw [if_neg q, if_pos (show ((negE l).2 != 0) = true by simpa using q)]
              rfl
end Go.Proofs.Ytgjamefpphhobaa.M7J
