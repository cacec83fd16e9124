/- The laws on certificates, as functions of values. -/
import Derived.Test.YtgjamefpphhobaaM7H
import Derived.Test.YtgjamefpphhobaaM7W
namespace Go.Proofs.Ytgjamefpphhobaa.M7I
open Go Go.Proofs.Ytgjamefpphhobaa.Eng Go.Proofs.Ytgjamefpphhobaa Go.RowKit Go.Proofs.Ytgjamefpphhobaa.LM Go.Proofs.Ytgjamefpphhobaa.PK Go.Proofs.Ytgjamefpphhobaa.D7P Go.Proofs.Ytgjamefpphhobaa.D7R Go.Proofs.Ytgjamefpphhobaa.D7L Go.Proofs.Ytgjamefpphhobaa.M7A Go.Proofs.Ytgjamefpphhobaa.M7B Go.Proofs.Ytgjamefpphhobaa.M7C Go.Proofs.Ytgjamefpphhobaa.M7D Go.Proofs.Ytgjamefpphhobaa.M7E Go.Proofs.Ytgjamefpphhobaa.M7F Go.Proofs.Ytgjamefpphhobaa.M7G Go.Proofs.Ytgjamefpphhobaa.M7H Go.Proofs.Ytgjamefpphhobaa.M7W
set_option linter.unusedSimpArgs false
set_option linter.unusedVariables false
set_option linter.unusedSectionVars false
set_option maxRecDepth 100000

abbrev Ln := Int × List Tm
def limF (fs : List Fc) : Prop := fs.length ≤ 9223372036854775807 ∧ ∀ f ∈ fs, f.2.2.length ≤ 9223372036854775807
def limL (ls : List Ln) : Prop := ls.length ≤ 9223372036854775807 ∧ ∀ f ∈ ls, f.2.length ≤ 9223372036854775807
def limC (c : T_api_Cert) : Prop := ∀ n, lim n c
theorem r_few7 {fs : List Fc} (h : limF fs) (k : Int) : ∃ b, ref07_Few fs k = some b ∧ (b = true → (fs.length : Int) ≤ k ∧ ∀ f ∈ fs, fewT f.2.2) := by
  have h1 := h.1
  unfold ref07_Few
  rw [forC_all (xs := fs) (s := ()) (r := false) h1 (fun f => f.2.2.all (fun t => decide (t.1.size ≤ 40)) && decide ((f.2.2.length : Int) ≤ 8)) (fun i x hx => by
    simp only [hx, bind_s, r_few4 _ (h.2 x (List.mem_of_getElem? hx))]
    split <;> rfl)]
  cases ha : fs.all (fun f => f.2.2.all (fun t => decide (t.1.size ≤ 40)) && decide ((f.2.2.length : Int) ≤ 8)) with
  | false => exact ⟨_, rfl, fun h => by cases h⟩
  | true =>
    refine ⟨_, rfl, fun hd => ⟨by simpa using hd, fun f hf => few_of ?_⟩⟩
    rw [List.all_eq_true] at ha
    exact ha f hf
theorem small12 {c : T_api_Cert} (h : limC c) : ∃ b, ref07_Small 4611686018427387904 c 12 = some b ∧ (b = true → gd 12 c) := by
  obtain ⟨b, h1, h2⟩ := small_is 12 c 4611686018427387891 (by omega) (h 13)
  exact ⟨b, h1, fun h => (h2 h).1⟩
/-! Goals. -/
def factsE (ls : List Ln) : List Fc := ls.map fun l => (false, l)
theorem r_facts {ls : List Ln} (h : ls.length ≤ 1100000) : ref07_Facts ls = some (factsE ls) := by
  unfold ref07_Facts
  obtain ⟨s, e1, e2⟩ := forC_inv (n := ls.length) (s := ([] : List Fc)) (R := List Fc) (f := fun (k3010 : Nat) (s3009 : List Fc) =>
  (ls[k3010]?).bind fun x3018 =>
  iffO (decide ((s3009.length + 1) * 40 ≤ 140737488355328))
    (some (.nx (s3009 ++ [(false, x3018)])))) (by omega) (fun k s => s = factsE (ls.take k)) rfl (by
    rintro k s hk rfl
    obtain ⟨x, hx, _⟩ := drop_some hk
    refine ⟨_, ?_, rfl⟩
    simp only [hx, bind_s]
    rw [iffO_d (by unfold factsE; rw [List.length_map, List.length_take]; omega), List.take_add_one, hx]
    simp [factsE])
  rw [e1, bind_s, elim_l, e2, List.take_length]
theorem p_facts {ls : List Ln} {R : Type} (h : ls.length ≤ 1100000) : (forC (R := R) (ls.length) ([] : List Fc) fun k1432 s1431 =>
  (ls[k1432]?).bind fun x1440 =>
  iffO (decide ((s1431.length + 1) * 40 ≤ 140737488355328))
    (some (.nx (s1431 ++ [(false, x1440)])))) = some (.inl (factsE ls)) := by
  obtain ⟨s, e1, e2⟩ := forC_inv (n := ls.length) (s := ([] : List Fc)) (R := R) (f := fun (k3010 : Nat) (s3009 : List Fc) =>
  (ls[k3010]?).bind fun x3018 =>
  iffO (decide ((s3009.length + 1) * 40 ≤ 140737488355328))
    (some (.nx (s3009 ++ [(false, x3018)])))) (by omega) (fun k s => s = factsE (ls.take k)) rfl (by
    rintro k s hk rfl
    obtain ⟨x, hx, _⟩ := drop_some hk
    refine ⟨_, ?_, rfl⟩
    simp only [hx, bind_s]
    rw [iffO_d (by unfold factsE; rw [List.length_map, List.length_take]; omega), List.take_add_one, hx]
    simp [factsE])
  rw [e1, e2, List.take_length]
theorem neg_len (l : Ln) (h : l.2.length ≤ 1000) : (negE l).1.2.length ≤ 12 := by
  by_cases h0 : (negE l).2 = 0
  · exact (valid_parts (neg_valid h0).2.1).2.1
  · unfold negE addR at h0 ⊢
    split
    · rename_i q
      rw [if_pos q] at h0
      unfold limE at h0 ⊢
      split
      · rename_i q2
        rw [if_pos q2] at h0
        exact absurd rfl h0
      · simp
    · simp
theorem neg_names (l : Ln) : names (negE l).1.2 := by
  by_cases h0 : (negE l).2 = 0
  · exact names_v (neg_valid h0).2.1
  · unfold negE addR at h0 ⊢
    split
    · rename_i q
      rw [if_pos q] at h0
      unfold limE at h0 ⊢
      split
      · rename_i q2
        rw [if_pos q2] at h0
        exact absurd rfl h0
      · exact nil_names
    · exact nil_names
def provesE (n : Nat) (ls : List Ln) (g : Ln) (c : T_api_Cert) : Int :=
  if vF (factsE ls) = true then (if (negE g).2 = 0 then checkE n (factsE ls ++ [(false, (negE g).1)]) c else (negE g).2) else 1
theorem facts_nm {ls : List Ln} {l : Ln} (h : nmF (factsE ls)) (hl : names l.2) (hk : ls.length ≤ 1000) : nmF (factsE ls ++ [(false, l)]) := by
  refine ⟨by unfold factsE; simp; omega, fun f hf => ?_⟩
  rcases List.mem_append.1 hf with hf | hf
  · exact h.2 f hf
  · simp at hf; subst hf; exact hl
theorem p_proves {n : Nat} {ls : List Ln} {g : Ln} {c : T_api_Cert} (hc : gd n c) (hn : n ≤ 50) (h : nmF (factsE ls)) (hl : ls.length ≤ 20) (hg : names g.2) : certificate_Proves ls g c = some (provesE n ls g c) := by
  unfold certificate_Proves provesE
  rw [p_facts (by omega), bind_s, elim_l, p_valid h, bind_s]
  cases hv : vF (factsE ls) with
  | false => rfl
  | true =>
    rw [if_pos rfl, if_pos rfl, p_neg hg, bind_s]
    by_cases q : (negE g).2 = 0
    · have hlen : (factsE ls).length = ls.length := by unfold factsE; rw [List.length_map]
      rw [if_pos q, if_neg (by simpa using q), iffO_d (by omega), p_check hc hn (facts_nm h (neg_names g) (by omega)) (by rw [List.length_append, hlen]; simp; omega), bind_s]
    · rw [if_neg q, if_pos (by simpa using q)]
theorem r_proves {n : Nat} {ls : List Ln} {g : Ln} {c : T_api_Cert} (hc : gd n c) (hn : n ≤ 50) (h : nmF (factsE ls)) (hl : ls.length ≤ 20) (hg : names g.2) : ref07_Proves ls g c = some (provesE n ls g c) := by
  unfold ref07_Proves provesE
  rw [r_facts (by omega), bind_s, r_neg hg, bind_s, r_validF h, bind_s]
  cases hv : vF (factsE ls) with
  | false => rfl
  | true =>
    rw [if_pos rfl, if_pos rfl]
    by_cases q : (negE g).2 = 0
    · have hlen : (factsE ls).length = ls.length := by unfold factsE; rw [List.length_map]
      rw [if_pos q, if_neg (by rw [q]; decide), if_neg (by simpa using q), iffO_d (by omega), r_check hc hn (facts_nm h (neg_names g) (by omega)) (by rw [List.length_append, hlen]; simp; omega), bind_s]
    · rw [if_neg q, if_pos (show ((negE g).2 != 0) = true by simpa using q)]
      split
      · rename_i e
        congr 1
        symm
        simpa using e
      · rfl
theorem r_small {ls : List Ln} (h : limL ls) (hl : ls.length ≤ 1100000) : ∃ b, law07_small ls 8 = some b ∧ (b = true → (ls.length : Int) ≤ 8 ∧ ∀ f ∈ factsE ls, fewT f.2.2) := by
  unfold law07_small
  rw [r_facts hl, bind_s]
  have hlen : (factsE ls).length = ls.length := by unfold factsE; rw [List.length_map]
  obtain ⟨b, e, hb⟩ := r_few7 (fs := factsE ls) ⟨by omega, fun f hf => by
    obtain ⟨l, hl, rfl⟩ := List.mem_map.1 hf
    exact h.2 l hl⟩ 8
  rw [e, bind_s]
  exact ⟨b, rfl, fun q => by rw [← hlen]; exact hb q⟩

end Go.Proofs.Ytgjamefpphhobaa.M7I
