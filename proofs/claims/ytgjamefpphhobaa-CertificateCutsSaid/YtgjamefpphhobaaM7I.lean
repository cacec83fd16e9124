/- The laws on certificates, as functions of values. -/
import Derived.Test.YtgjamefpphhobaaM7H
import Derived.Test.YtgjamefpphhobaaM7W
namespace Go.Proofs.Ytgjamefpphhobaa.M7I
open Go Go.Proofs.Ytgjamefpphhobaa.Eng Go.Proofs.Ytgjamefpphhobaa Go.RowKit Go.Proofs.Ytgjamefpphhobaa.LM Go.Proofs.Ytgjamefpphhobaa.PK Go.Proofs.Ytgjamefpphhobaa.D7P Go.Proofs.Ytgjamefpphhobaa.D7R Go.Proofs.Ytgjamefpphhobaa.D7L Go.Proofs.Ytgjamefpphhobaa.M7A Go.Proofs.Ytgjamefpphhobaa.M7B Go.Proofs.Ytgjamefpphhobaa.M7C Go.Proofs.Ytgjamefpphhobaa.M7D Go.Proofs.Ytgjamefpphhobaa.M7E Go.Proofs.Ytgjamefpphhobaa.M7F Go.Proofs.Ytgjamefpphhobaa.M7G Go.Proofs.Ytgjamefpphhobaa.M7H Go.Proofs.Ytgjamefpphhobaa.M7W
set_option linter.unusedSimpArgs false
set_option linter.unusedVariables false
set_option linter.unusedSectionVars false
set_option maxRecDepth 100000

abbrev Ln := Int × List Tm
def limF (fs : List Fc) : Prop := fs.length ≤ 9223372036854775807 ∧ ∀ f ∈ fs, f.2.2.length ≤ 9223372036854775807
def limL (ls : List Ln) : Prop := ls.length ≤ 9223372036854775807 ∧ ∀ f ∈ ls, f.2.length ≤ 9223372036854775807
theorem r_few7 {fs : List Fc} (h : limF fs) (k : Int) : ∃ b, ref07_Few fs k = some b ∧ (b = true → (fs.length : Int) ≤ k ∧ ∀ f ∈ fs, fewT f.2.2) := by
  have h1 := h.1
  unfold ref07_Few
  rw [forC_all (xs := fs) (s := ()) (r := false) h1 (fun f => f.2.2.all (fun t => decide (t.1.size ≤ 40)) && decide ((f.2.2.length : Int) ≤ 8)) (fun i x hx => by
    simp only [hx, bind_s, r_few4 _ (h.2 x (List.mem_of_getElem? hx))]
    split <;> rfl)]
  cases ha : fs.all (fun f => f.2.2.all (fun t => decide (t.1.size ≤ 40)) && decide ((f.2.2.length : Int) ≤ 8)) with
  | false => exact ⟨_, rfl, fun h => by cases h⟩
  | true =>
    refine ⟨_, rfl, fun hd => ⟨by simpa using hd, fun f hf => few_of ?_⟩⟩
    rw [List.all_eq_true] at ha
    exact ha f hf
theorem few_nm {fs : List Fc} {k : Nat} (hk : k ≤ 1000) (h : (fs.length : Int) ≤ k ∧ ∀ f ∈ fs, fewT f.2.2) : nmF fs := ⟨by omega, fun f hf => few_names (h.2 f hf)⟩
theorem p_Cut {fs : List Fc} (ms : List Int) (h : nmF fs) (hl : fs.length ≤ 300) : certificate_Cut fs ms = some (if vF fs = true then cutE fs ms else ((0, []), 1)) := by
  unfold certificate_Cut
  rw [p_valid h, bind_s]
  cases hv : vF fs with
  | false => rfl
  | true => rw [if_pos rfl, p_cut ms (vF_iff.1 hv) hl, bind_s, if_pos rfl]
theorem cut_len {fs : List Fc} (ms : List Int) : (if vF fs = true then cutE fs ms else ((0, []), 1)).1.2.length ≤ 12 := by
  split
  · by_cases h : (cutE fs ms).2 = 0
    · exact (valid_parts (cut_valid h)).2.1
    · unfold cutE cutR at h ⊢
      split
      · rename_i q
        rw [if_pos q] at h
        split
        · simp
        · rename_i q2
          rw [if_neg q2] at h
          split
          · rename_i q3
            rw [if_pos q3] at h
            exact absurd rfl h
          · simp
      · simp
  · simp
/-! Goals. -/
def factsE (ls : List Ln) : List Fc := ls.map fun l => (false, l)
theorem r_facts {ls : List Ln} (h : ls.length ≤ 1100000) : ref07_Facts ls = some (factsE ls) := by
  unfold ref07_Facts
  obtain ⟨s, e1, e2⟩ := forC_inv (n := ls.length) (s := ([] : List Fc)) (R := List Fc) (f := fun (k3010 : Nat) (s3009 : List Fc) =>
  (ls[k3010]?).bind fun x3018 =>
  iffO (decide ((s3009.length + 1) * 40 ≤ 140737488355328))
    (some (.nx (s3009 ++ [(false, x3018)])))) (by omega) (fun k s => s = factsE (ls.take k)) rfl (by
    rintro k s hk rfl
    obtain ⟨x, hx, _⟩ := drop_some hk
    refine ⟨_, ?_, rfl⟩
    simp only [hx, bind_s]
    rw [iffO_d (by unfold factsE; rw [List.length_map, List.length_take]; omega), List.take_add_one, hx]
    simp [factsE])
  rw [e1, bind_s, elim_l, e2, List.take_length]
theorem r_small {ls : List Ln} (h : limL ls) (hl : ls.length ≤ 1100000) : ∃ b, law07_small ls 8 = some b ∧ (b = true → (ls.length : Int) ≤ 8 ∧ ∀ f ∈ factsE ls, fewT f.2.2) := by
  unfold law07_small
  rw [r_facts hl, bind_s]
  have hlen : (factsE ls).length = ls.length := by unfold factsE; rw [List.length_map]
  obtain ⟨b, e, hb⟩ := r_few7 (fs := factsE ls) ⟨by omega, fun f hf => by
    obtain ⟨l, hl, rfl⟩ := List.mem_map.1 hf
    exact h.2 l hl⟩ 8
  rw [e, bind_s]
  exact ⟨b, rfl, fun q => by rw [← hlen]; exact hb q⟩

end Go.Proofs.Ytgjamefpphhobaa.M7I
