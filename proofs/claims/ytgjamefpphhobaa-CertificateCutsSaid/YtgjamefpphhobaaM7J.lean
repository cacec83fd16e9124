/- The laws on what certificates and cuts mean. -/
import Derived.Test.YtgjamefpphhobaaM7I
namespace Go.Proofs.Ytgjamefpphhobaa.M7J
open Go Go.Proofs.Ytgjamefpphhobaa.Eng Go.Proofs.Ytgjamefpphhobaa Go.RowKit Go.Proofs.Ytgjamefpphhobaa.LM Go.Proofs.Ytgjamefpphhobaa.PK Go.Proofs.Ytgjamefpphhobaa.D7P Go.Proofs.Ytgjamefpphhobaa.D7R Go.Proofs.Ytgjamefpphhobaa.D7L Go.Proofs.Ytgjamefpphhobaa.M7A Go.Proofs.Ytgjamefpphhobaa.M7B Go.Proofs.Ytgjamefpphhobaa.M7C Go.Proofs.Ytgjamefpphhobaa.M7D Go.Proofs.Ytgjamefpphhobaa.M7E Go.Proofs.Ytgjamefpphhobaa.M7F Go.Proofs.Ytgjamefpphhobaa.M7G Go.Proofs.Ytgjamefpphhobaa.M7H Go.Proofs.Ytgjamefpphhobaa.M7W Go.Proofs.Ytgjamefpphhobaa.M7I
set_option linter.unusedSimpArgs false
set_option linter.unusedVariables false
set_option linter.unusedSectionVars false
set_option maxRecDepth 100000

theorem cuts_true (fs : List Fc) (ms : List Int) (vs : List Tm) (hf : limF fs) : law07_CertificateCuts fs ms vs = some true := by
  unfold law07_CertificateCuts
  rw [awake_is, bind_s, if_pos rfl]
  obtain ⟨b, e1, h1⟩ := r_few7 hf 8
  rw [e1, bind_s]
  cases b with
  | false => rfl
  | true =>
    have h1 := h1 rfl
    have nm := few_nm (k := 8) (by omega) h1
    rw [if_pos rfl]
    by_cases c1 : 10 < ms.length
    · rw [if_pos (decide_eq_true (by omega))]
    · rw [if_neg (by simpa using by omega)]
      by_cases c2 : 10 < vs.length
      · rw [if_pos (decide_eq_true (by omega))]
      · rw [if_neg (by simpa using by omega), r_holds nm (by omega), bind_s]
        cases hh : holdsE fs vs with
        | false => rfl
        | true =>
          obtain ⟨s1, s2⟩ := holds_sat hh
          rw [if_pos rfl, p_Cut ms nm (by omega), bind_s, if_pos (vF_iff.2 s1)]
          have hcn : names (cutE fs ms).1.2 := by
            have := cut_len (fs := fs) ms
            rw [if_pos (vF_iff.2 s1)] at this
            by_cases q : (cutE fs ms).2 = 0
            · exact names_v (cut_valid q)
            · unfold cutE cutR at q ⊢
              split
              · rename_i q1
                rw [if_pos q1] at q
                split
                · exact nil_names
                · rename_i q2
                  rw [if_neg q2] at q
                  split
                  · rename_i q3
                    rw [if_pos q3] at q
                    exact absurd rfl q
                  · exact nil_names
              · exact nil_names
          rw [r_eval hcn (by omega), bind_s]
          by_cases q : (cutE fs ms).2 = 0
          · rw [if_neg (show ¬ ((cutE fs ms).2 != 0) = true by simpa using q)]
            have hhas : ∀ u ∈ (cutE fs ms).1.2, has vs u.1 := by
              unfold cutE cutR at q ⊢
              split
              · rename_i q1
                rw [if_pos q1] at q
                split
                · exact fun u hu => by cases hu
                · rename_i q2
                  rw [if_neg q2] at q
                  split
                  · intro u hu
                    obtain ⟨t, ht, rfl⟩ := List.mem_map.1 hu
                    exact comb_all (P := fun v => has vs v) fs ms (fun f hf u hu => (s2 f hf).2 u hu) (by simp) t ht
                  · exact fun u hu => by cases hu
              · exact fun u hu => by cases hu
            rw [eval_ok (cut_valid q) hhas]
            simp only
            rw [if_pos (show ((0 : Int) == 0) = true from rfl), if_pos]
            exact decide_eq_true (cut_V _ (by omega) s1 (fun f hf => (s2 f hf).1) q)
          · rw [if_pos (show ((cutE fs ms).2 != 0) = true by simpa using q)]
end Go.Proofs.Ytgjamefpphhobaa.M7J
