/- The laws on what certificates and cuts mean. -/
import Derived.Test.YtgjamefpphhobaaM7I
namespace Go.Proofs.Ytgjamefpphhobaa.M7J
open Go Go.Proofs.Ytgjamefpphhobaa.Eng Go.Proofs.Ytgjamefpphhobaa Go.RowKit Go.Proofs.Ytgjamefpphhobaa.LM Go.Proofs.Ytgjamefpphhobaa.PK Go.Proofs.Ytgjamefpphhobaa.D7P Go.Proofs.Ytgjamefpphhobaa.D7R Go.Proofs.Ytgjamefpphhobaa.D7L Go.Proofs.Ytgjamefpphhobaa.M7A Go.Proofs.Ytgjamefpphhobaa.M7B Go.Proofs.Ytgjamefpphhobaa.M7C Go.Proofs.Ytgjamefpphhobaa.M7D Go.Proofs.Ytgjamefpphhobaa.M7E Go.Proofs.Ytgjamefpphhobaa.M7F Go.Proofs.Ytgjamefpphhobaa.M7G Go.Proofs.Ytgjamefpphhobaa.M7H Go.Proofs.Ytgjamefpphhobaa.M7W Go.Proofs.Ytgjamefpphhobaa.M7I
set_option linter.unusedSimpArgs false
set_option linter.unusedVariables false
set_option linter.unusedSectionVars false
set_option maxRecDepth 100000

theorem check_0 {n : Nat} {fs : List Fc} {c : T_api_Cert} (h : checkE n fs c = 0) : valids fs ∧ refE n fs c = true := by
  unfold checkE at h
  split at h
  · rename_i hv
    split at h
    · exact ⟨vF_iff.1 hv, by assumption⟩
    · cases h
  · cases h
theorem app_hyps {R : Type} {fs : List Fc} (h : fs.length ≤ 1000000) : (forC (R := R) (fs.length) ([] : List Ln) fun k3556 s3555 =>
              (fs[k3556]?).bind fun x3564 =>
              iffO (decide ((s3555.length + 1) * 32 ≤ 140737488355328))
                (some (.nx (s3555 ++ [x3564.2])))) = some (.inl (fs.map (·.2))) := by
  obtain ⟨s, e1, e2⟩ := forC_inv (n := fs.length) (s := ([] : List Ln)) (R := R) (f := fun (k3556 : Nat) (s3555 : List Ln) =>
              (fs[k3556]?).bind fun x3564 =>
              iffO (decide ((s3555.length + 1) * 32 ≤ 140737488355328))
                (some (.nx (s3555 ++ [x3564.2])))) (by omega) (fun k s => s = (fs.take k).map (·.2)) rfl (by
    rintro k s hk rfl
    obtain ⟨x, hx, _⟩ := drop_some hk
    refine ⟨_, ?_, rfl⟩
    simp only [hx, bind_s]
    rw [iffO_d (by rw [List.length_map, List.length_take]; omega), List.take_add_one, hx]
    simp)
  rw [e1, e2, List.take_length]
/-- What is behind the test of the certificate. -/
theorem sound_rest {fs : List Fc} {c : T_api_Cert} {vs : List Tm} (hg : gd 12 c) (hvs : vs.length ≤ 1000000) (nm : nmF fs) (hl : fs.length ≤ 8) :
  ((forC (R := Bool) (fs.length) ([] : (List (Int × (List (ByteArray × Int))))) fun k3618 s3617 =>
            (fs[k3618]?).bind fun x3626 =>
            iffO (decide ((s3617.length + 1) * 32 ≤ 140737488355328))
              (some (.nx (s3617 ++ [x3626.2])))).bind (Sum.elim (fun s3617 =>
            if (((s3617.length : Nat) : Int) == (0 : Int)) then
              some true
            else
              iffO (decide (0 ≤ (IntKind.i64.wrap (((s3617.length : Nat) : Int) - (1 : Int)))) && decide ((IntKind.i64.wrap (((s3617.length : Nat) : Int) - (1 : Int))) ≤ (s3617.length : Int)))
                ((ref07_Facts (s3617.take (IntKind.i64.wrap (((s3617.length : Nat) : Int) - (1 : Int))).toNat)).bind fun y3638 =>
                (ref07_Holds y3638 vs).bind fun y3641 =>
                if y3641 then
                  (idxO s3617 (IntKind.i64.wrap (((s3617.length : Nat) : Int) - (1 : Int)))).bind fun x3645 =>
                  (certificate_Negate x3645).bind fun y3649 =>
                  (ref04_Eval y3649.1 vs).bind fun y3652 =>
                  if (y3649.2 != (0 : Int)) then
                    some true
                  else
                    if (y3652.2 != (0 : Int)) then
                      some true
                    else
                      iffO (decide (0 ≤ (IntKind.i64.wrap (((s3617.length : Nat) : Int) - (1 : Int)))) && decide ((IntKind.i64.wrap (((s3617.length : Nat) : Int) - (1 : Int))) ≤ (s3617.length : Int)))
                        ((certificate_Proves (s3617.take ((IntKind.i64.wrap (((s3617.length : Nat) : Int) - (1 : Int))).toNat)) y3649.1 c).bind fun y3661 =>
                        if (y3661 != (0 : Int)) then
                          some true
                        else
                          some (decide ((0 : Int) ≤ y3652.1)))
                else
                  some true)) some)) = some true := by
  rw [app_hyps (by omega), bind_s, elim_l]
  have hn : ∀ l ∈ fs.map (·.2), names l.2 := fun l hl => by
    obtain ⟨f, hf, rfl⟩ := List.mem_map.1 hl
    exact nm.2 f hf
  have hlen : (fs.map (·.2)).length = fs.length := List.length_map ..
  generalize fs.map (·.2) = ls at hn hlen ⊢
  rw [len0]
  by_cases h0 : ls = []
  · rw [if_pos (decide_eq_true h0)]
  · have h1 : 0 < ls.length := List.length_pos_iff.2 h0
    rw [if_neg (by simpa using h0)]
    have e1 : IntKind.i64.wrap (((ls.length : Nat) : Int) - (1 : Int)) = ((ls.length - 1 : Nat) : Int) := by rw [wrap_in (by omega) (by omega)]; omega
    rw [e1, iffO_t (by simp), Int.toNat_natCast, r_facts (by rw [List.length_take]; omega), bind_s]
    have nm2 : nmF (factsE (ls.take (ls.length - 1))) := ⟨by unfold factsE; rw [List.length_map, List.length_take]; omega, fun f hf => by
      obtain ⟨l, hl, rfl⟩ := List.mem_map.1 hf
      exact hn l (List.mem_of_mem_take hl)⟩
    rw [r_holds nm2 hvs, bind_s]
    cases hh : holdsE (factsE (ls.take (ls.length - 1))) vs with
    | false => rfl
    | true =>
      obtain ⟨l, hl, _⟩ := drop_some (l := ls) (n := ls.length - 1) (by omega)
      have hln := hn l (List.mem_of_getElem? hl)
      rw [if_pos rfl, idxO_nat, hl, bind_s, p_neg hln, bind_s, r_eval (neg_names l) hvs, bind_s]
      by_cases q : (negE l).2 = 0
      · rw [if_neg (show ¬ ((negE l).2 != 0) = true by simpa using q)]
        rcases he : evalE (negE l).1.1 (negE l).1.2 vs with ⟨m, e⟩
        simp only
        by_cases q2 : e = 0
        · subst q2
          rw [if_neg (by simp), iffO_t (by simp), p_proves hg (by omega) nm2 (by rw [List.length_take]; omega) (neg_names l), bind_s]
          by_cases q3 : provesE 12 (ls.take (ls.length - 1)) (negE l).1 c = 0
          · rw [if_neg (by simpa using q3)]
            congr 1
            rw [decide_eq_true_eq]
            obtain ⟨_, _, rfl⟩ := eval_V he
            unfold provesE at q3
            split at q3
            · split at q3
              · rename_i hv q4
                obtain ⟨c1, c2⟩ := check_0 q3
                obtain ⟨s1, s2⟩ := holds_sat hh
                by_cases hpos : 0 ≤ V (LM.valOf vs) (negE l).1
                · exact hpos
                · refine (sound (LM.valOf vs) c2 c1 (by unfold factsE; rw [List.length_append, List.length_map, List.length_take]; simp; omega) fun f hf => ?_).elim
                  rcases List.mem_append.1 hf with hf | hf
                  · exact (s2 f hf).1
                  · simp at hf
                    subst hf
                    exact ⟨by rw [neg_V _ q4]; omega, fun e => by cases e⟩
              · rename_i q4
                exact absurd q3 q4
            · cases q3
          · rw [if_pos (by simpa using q3)]
        · rw [if_pos (by simpa using q2)]
      · rw [if_pos (show ((negE l).2 != 0) = true by simpa using q)]
theorem sound_true (fs : List Fc) (c : T_api_Cert) (vs : List Tm) (hf : limF fs) (hc : limC c) : law07_CertificateSound fs c vs = some true := by
  unfold law07_CertificateSound
  rw [awake_is, bind_s, if_pos rfl]
  obtain ⟨b, e1, h1⟩ := r_few7 hf 8
  rw [e1, bind_s]
  cases b with
  | false => rfl
  | true =>
    have h1 := h1 rfl
    obtain ⟨b, e2, h2⟩ := small12 hc
    rw [if_pos rfl, e2, bind_s]
    cases b with
    | false => rfl
    | true =>
      have h2 := h2 rfl
      have nm := few_nm (k := 8) (by omega) h1
      rw [if_pos rfl]
      by_cases c2 : 10 < vs.length
      · rw [if_pos (decide_eq_true (by omega))]
      · rw [if_neg (by simpa using by omega), p_check h2 (by omega) nm (by omega), bind_s]
        have rest := sound_rest (vs := vs) h2 (by omega) nm (by omega)
        by_cases q : checkE 12 fs c = 0
        · rw [if_pos (by simpa using q), r_holds nm (by omega), bind_s]
          cases hh : holdsE fs vs with
          | true =>
            obtain ⟨c1, c2⟩ := check_0 q
            obtain ⟨s1, s2⟩ := holds_sat hh
            exact (sound (LM.valOf vs) c2 c1 (by omega) fun f hf => (s2 f hf).1).elim
          | false => exact rest
        · rw [if_neg (by simpa using q)]
          exact rest
end Go.Proofs.Ytgjamefpphhobaa.M7J
