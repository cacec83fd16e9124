/- The laws on certificates, as functions of values. -/
import Derived.Test.YtgjamefpphhobaaM7H
import Derived.Test.YtgjamefpphhobaaM7W
namespace Go.Proofs.Ytgjamefpphhobaa.M7I
open Go Go.Proofs.Ytgjamefpphhobaa.Eng Go.Proofs.Ytgjamefpphhobaa Go.RowKit Go.Proofs.Ytgjamefpphhobaa.LM Go.Proofs.Ytgjamefpphhobaa.PK Go.Proofs.Ytgjamefpphhobaa.D7P Go.Proofs.Ytgjamefpphhobaa.D7R Go.Proofs.Ytgjamefpphhobaa.D7L Go.Proofs.Ytgjamefpphhobaa.M7A Go.Proofs.Ytgjamefpphhobaa.M7B Go.Proofs.Ytgjamefpphhobaa.M7C Go.Proofs.Ytgjamefpphhobaa.M7D Go.Proofs.Ytgjamefpphhobaa.M7E Go.Proofs.Ytgjamefpphhobaa.M7F Go.Proofs.Ytgjamefpphhobaa.M7G Go.Proofs.Ytgjamefpphhobaa.M7H Go.Proofs.Ytgjamefpphhobaa.M7W
set_option linter.unusedSimpArgs false
set_option linter.unusedVariables false
set_option linter.unusedSectionVars false
set_option maxRecDepth 100000

abbrev Ln := Int × List Tm
def limF (fs : List Fc) : Prop := fs.length ≤ 9223372036854775807 ∧ ∀ f ∈ fs, f.2.2.length ≤ 9223372036854775807
def limL (ls : List Ln) : Prop := ls.length ≤ 9223372036854775807 ∧ ∀ f ∈ ls, f.2.length ≤ 9223372036854775807
def limC (c : T_api_Cert) : Prop := ∀ n, lim n c
theorem r_few7 {fs : List Fc} (h : limF fs) (k : Int) : ∃ b, ref07_Few fs k = some b ∧ (b = true → (fs.length : Int) ≤ k ∧ ∀ f ∈ fs, fewT f.2.2) := by
  have h1 := h.1
  unfold ref07_Few
  rw [forC_all (xs := fs) (s := ()) (r := false) h1 (fun f => f.2.2.all (fun t => decide (t.1.size ≤ 40)) && decide ((f.2.2.length : Int) ≤ 8)) (fun i x hx => by
    simp only [hx, bind_s, r_few4 _ (h.2 x (List.mem_of_getElem? hx))]
    split <;> rfl)]
  cases ha : fs.all (fun f => f.2.2.all (fun t => decide (t.1.size ≤ 40)) && decide ((f.2.2.length : Int) ≤ 8)) with
  | false => exact ⟨_, rfl, fun h => by cases h⟩
  | true =>
    refine ⟨_, rfl, fun hd => ⟨by simpa using hd, fun f hf => few_of ?_⟩⟩
    rw [List.all_eq_true] at ha
    exact ha f hf
theorem few_nm {fs : List Fc} {k : Nat} (hk : k ≤ 1000) (h : (fs.length : Int) ≤ k ∧ ∀ f ∈ fs, fewT f.2.2) : nmF fs := ⟨by omega, fun f hf => few_names (h.2 f hf)⟩
theorem small12 {c : T_api_Cert} (h : limC c) : ∃ b, ref07_Small 4611686018427387904 c 12 = some b ∧ (b = true → gd 12 c) := by
  obtain ⟨b, h1, h2⟩ := small_is 12 c 4611686018427387891 (by omega) (h 13)
  exact ⟨b, h1, fun h => (h2 h).1⟩
theorem szs {n : Nat} {c : T_api_Cert} (h : gd n c) (hn : n ≤ 100) : certificate_Size 4611686018427387904 c = some (szE n c) ∧ ref07_Size 4611686018427387904 c = some (szE n c) := by
  have e1 := p_size (4611686018427387904 - n) h
  have e2 := r_size (4611686018427387904 - n) h
  rw [show n + (4611686018427387904 - n) = 4611686018427387904 by omega] at e1 e2
  exact ⟨e1, e2⟩

theorem check_true (fs : List Fc) (c : T_api_Cert) (hf : limF fs) (hc : limC c) : law07_CertificateCheck fs c = some true := by
  unfold law07_CertificateCheck
  rw [awake_is, bind_s, if_pos rfl]
  obtain ⟨b, e1, h1⟩ := r_few7 hf 8
  rw [e1, bind_s]
  cases b with
  | false => rfl
  | true =>
    have h1 := h1 rfl
    obtain ⟨b, e2, h2⟩ := small12 hc
    rw [if_pos rfl, e2, bind_s]
    cases b with
    | false => rfl
    | true =>
      have h2 := h2 rfl
      have nm := few_nm (k := 8) (by omega) h1
      obtain ⟨s1, s2⟩ := szs h2 (by omega)
      rw [if_pos rfl, p_check h2 (by omega) nm (by omega), bind_s, r_check h2 (by omega) nm (by omega), bind_s, if_pos (by simp), s1, bind_s, s2, bind_s]
      simp

/-! Goals. -/
def factsE (ls : List Ln) : List Fc := ls.map fun l => (false, l)
theorem r_facts {ls : List Ln} (h : ls.length ≤ 1100000) : ref07_Facts ls = some (factsE ls) := by
  unfold ref07_Facts
  obtain ⟨s, e1, e2⟩ := forC_inv (n := ls.length) (s := ([] : List Fc)) (R := List Fc) (f := fun (k3010 : Nat) (s3009 : List Fc) =>
  (ls[k3010]?).bind fun x3018 =>
  iffO (decide ((s3009.length + 1) * 40 ≤ 140737488355328))
    (some (.nx (s3009 ++ [(false, x3018)])))) (by omega) (fun k s => s = factsE (ls.take k)) rfl (by
    rintro k s hk rfl
    obtain ⟨x, hx, _⟩ := drop_some hk
    refine ⟨_, ?_, rfl⟩
    simp only [hx, bind_s]
    rw [iffO_d (by unfold factsE; rw [List.length_map, List.length_take]; omega), List.take_add_one, hx]
    simp [factsE])
  rw [e1, bind_s, elim_l, e2, List.take_length]
theorem r_small {ls : List Ln} (h : limL ls) (hl : ls.length ≤ 1100000) : ∃ b, law07_small ls 8 = some b ∧ (b = true → (ls.length : Int) ≤ 8 ∧ ∀ f ∈ factsE ls, fewT f.2.2) := by
  unfold law07_small
  rw [r_facts hl, bind_s]
  have hlen : (factsE ls).length = ls.length := by unfold factsE; rw [List.length_map]
  obtain ⟨b, e, hb⟩ := r_few7 (fs := factsE ls) ⟨by omega, fun f hf => by
    obtain ⟨l, hl, rfl⟩ := List.mem_map.1 hf
    exact h.2 l hl⟩ 8
  rw [e, bind_s]
  exact ⟨b, rfl, fun q => by rw [← hlen]; exact hb q⟩

end Go.Proofs.Ytgjamefpphhobaa.M7I
