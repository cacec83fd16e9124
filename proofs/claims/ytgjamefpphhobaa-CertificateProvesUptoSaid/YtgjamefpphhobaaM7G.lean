/- What certificates refute, on both sides. -/
import Derived.Test.YtgjamefpphhobaaM7F
namespace Go.Proofs.Ytgjamefpphhobaa.M7G
open Go Go.Proofs.Ytgjamefpphhobaa.Eng Go.Proofs.Ytgjamefpphhobaa Go.RowKit Go.Proofs.Ytgjamefpphhobaa.LM Go.Proofs.Ytgjamefpphhobaa.PK Go.Proofs.Ytgjamefpphhobaa.D7P Go.Proofs.Ytgjamefpphhobaa.D7R Go.Proofs.Ytgjamefpphhobaa.M7A Go.Proofs.Ytgjamefpphhobaa.M7B Go.Proofs.Ytgjamefpphhobaa.M7C Go.Proofs.Ytgjamefpphhobaa.M7D Go.Proofs.Ytgjamefpphhobaa.M7E Go.Proofs.Ytgjamefpphhobaa.M7F
set_option linter.unusedSimpArgs false
set_option linter.unusedVariables false
set_option linter.unusedSectionVars false
set_option maxRecDepth 100000

def sumE (fs : List Fc) (ms : List Int) : Bool :=
  decide (ms.length = fs.length ∧ oks fs ms = true ∧ (comb fs ms (0, [])).2 = [] ∧ (comb fs ms (0, [])).1 < 0)
def refE : Nat → List Fc → T_api_Cert → Bool
  | 0, _, _ => false
  | n + 1, fs, c =>
    if c.f0 = 1 then decide (c.f2 = (0, [])) && (decide (c.f3 = []) && sumE fs c.f1)
    else if c.f0 = 2 then decide (c.f2 = (0, [])) && (match c.f3 with
      | [k] => if (cutE fs c.f1).2 = 0 then refE n (fs ++ [(false, (cutE fs c.f1).1)]) k else false
      | _ => false)
    else if c.f0 = 3 then decide (c.f1 = []) && (match c.f3 with
      | [k, q] => if (negE c.f2).2 = 0 then refE n (fs ++ [(false, c.f2)]) k && refE n (fs ++ [(false, (negE c.f2).1)]) q else false
      | _ => false)
    else false
theorem len0 {α : Type} (l : List α) : (((l.length : Nat) : Int) == (0 : Int)) = decide (l = []) := by
  cases l with
  | nil => rfl
  | cons x r =>
    rw [decide_eq_false (by simp), beq_eq_false_iff_ne]
    simp only [List.length_cons]
    omega
theorem cut_valid {fs : List Fc} {ms : List Int} (h : (cutE fs ms).2 = 0) : vE (cutE fs ms).1 = true := by
  unfold cutE at h ⊢
  split
  · rename_i h1
    rw [if_pos h1] at h
    split
    · rename_i h2
      rw [if_pos h2] at h
      cases h
    · rename_i h2
      rw [if_neg h2] at h
      unfold cutR at h ⊢
      split
      · assumption
      · rename_i h3
        rw [if_neg h3] at h
        cases h
  · rename_i h1
    rw [if_neg h1] at h
    cases h
theorem valids_app {fs : List Fc} {f : Fc} (h : valids fs) (hf : vE f.2 = true) : valids (fs ++ [f]) := fun g hg => by
  rcases List.mem_append.1 hg with hg | hg
  · exact h g hg
  · simp at hg; subst hg; exact hf
theorem p_app (l : Int × List Tm) {fs : List Fc} (h : fs.length ≤ 1000) : certificate_refutes_1__v l fs = some (fs ++ [(false, l)]) := by
  unfold certificate_refutes_1__v
  rw [iffO_d (by omega)]
theorem p_sum {fs : List Fc} (ms : List Int) (hv : valids fs) (hl : fs.length ≤ 300) : ((certificate_combine fs ms).bind fun y883 =>
          if (y883.2.2 == (0 : Int)) then
            if (((y883.1.length : Nat) : Int) == (0 : Int)) then
              some (decide (y883.2.1 < (0 : Int)))
            else
              some false
          else
            some false) = some (sumE fs ms) := by
  rw [p_combine fs ms hv hl, bind_s]
  unfold sumE
  by_cases h : ms.length = fs.length ∧ oks fs ms = true
  · rw [if_pos h]
    simp only
    rw [if_pos (show ((0 : Int) == 0) = true from rfl), len0]
    by_cases h2 : (comb fs ms (0, [])).2 = []
    · rw [decide_eq_true h2, if_pos rfl]
      congr 1
      simp only [h.1, h.2, h2, true_and]
    · rw [decide_eq_false h2, if_neg Bool.false_ne_true, decide_eq_false (fun q => h2 q.2.2.1)]
  · rw [if_neg h]
    simp only
    rw [if_neg (show ¬ ((18 : Int) == 0) = true by decide), decide_eq_false (fun q => h ⟨q.1, q.2.1⟩)]
theorem r_sum {fs : List Fc} (ms : List Int) (hv : valids fs) (hl : fs.length ≤ 300) : ((ref07_combine fs ms).bind fun y2708 =>
    if y2708.2 then
      if (((y2708.1.2.length : Nat) : Int) == (0 : Int)) then
        some (decide (y2708.1.1 < (0 : Int)))
      else
        some false
    else
      some false) = some (sumE fs ms) := by
  rw [r_combine fs ms hv (by omega), bind_s]
  unfold sumE
  by_cases h : ms.length = fs.length ∧ oks fs ms = true
  · rw [if_pos h]
    simp only
    rw [if_pos trivial, len0]
    by_cases h2 : (comb fs ms (0, [])).2 = []
    · rw [decide_eq_true h2, if_pos rfl]
      congr 1
      simp only [h.1, h.2, h2, true_and]
    · rw [decide_eq_false h2, if_neg Bool.false_ne_true, decide_eq_false (fun q => h2 q.2.2.1)]
  · rw [if_neg h]
    simp only
    rw [if_neg (by simp), decide_eq_false (fun q => h ⟨q.1, q.2.1⟩)]
theorem f_len {f3 : List T_api_Cert} (n : Nat) : (((f3.length : Nat) : Int) == (n : Int)) = decide (f3.length = n) := beq_nat _ _
set_option maxHeartbeats 2000000 in
theorem p_refutes : ∀ {n : Nat} {c : T_api_Cert} {fs : List Fc} (j : Nat), gd n c → valids fs → fs.length + n ≤ 100 → certificate_refutes (n + j) fs c = some (refE n fs c)
  | 0, _, _, _, h, _, _ => h.elim
  | n + 1, ⟨f0, f1, f2, f3⟩, fs, j, ⟨_, h2, h3, h4, _⟩, hv, hl => by
    rw [show n + 1 + j = (n + j) + 1 by omega, certificate_refutes, refE]
    simp only at h2 h3 h4 ⊢
    have hm := few_names h2
    have e1 := p_sum f1 hv (by omega)
    simp only [l_equal f2 (0, []) (by have := h2.1; omega), p_cut f1 hv (by omega), p_neg hm, bind_s, p_app _ (show fs.length ≤ 1000 by omega), len0]
    have e2 := cut_valid (fs := fs) (ms := f1)
    have e3 := neg_valid (l := f2)
    generalize cutE fs f1 = cu at e2 ⊢
    generalize negE f2 = ne at e3 ⊢
    have a3 : (f0 == (3 : Int)) = decide (f0 = 3) := rfl
    have a2 : (f0 == (2 : Int)) = decide (f0 = 2) := rfl
    have a1 : (f0 == (1 : Int)) = decide (f0 = 1) := rfl
    simp only [a3, a2, a1]
    by_cases c3 : f0 = 3
    · subst c3
      rw [if_pos (decide_eq_true rfl), if_neg (show ¬ decide ((3 : Int) = 1) = true by decide), if_neg (show ¬ (3 : Int) = 1 by decide), if_neg (show ¬ (3 : Int) = 2 by decide), if_pos (show (3 : Int) = 3 from rfl)]
      cases f1 with
      | cons m r =>
        rw [if_pos (decide_eq_true (by simp only [List.length_cons]; omega))]
        rfl
      | nil =>
        rw [if_neg (show ¬ decide ((0 : Int) < ((([] : List Int).length : Nat) : Int)) = true by simp), if_neg (show ¬ decide ((3 : Int) = 2) = true by decide)]
        rw [show decide (([] : List Int) = []) = true from rfl, Bool.true_and]
        match f3, h4 with
        | [], _ => rfl
        | [_], _ => rfl
        | a :: b :: d :: r, _ =>
          rw [if_neg (by simp; omega)]
        | [a, b], h4 =>
          rw [if_pos (show ((([a, b].length : Nat) : Int) == 2) = true from rfl)]
          simp only [List.getElem?_cons_zero, List.getElem?_cons_succ, bind_s]
          by_cases q : ne.2 = 0
          · obtain ⟨v1, v2, _⟩ := e3 q
            rw [if_pos q, if_pos (by simpa using q), p_refutes (n := n) j (h4 a (by simp)) (valids_app hv v1) (by simp; omega), bind_s]
            cases hr : refE n (fs ++ [(false, f2)]) a with
            | false => rfl
            | true =>
              rw [if_pos rfl, p_refutes (n := n) j (h4 b (by simp)) (valids_app hv v2) (by simp; omega), bind_s, Bool.true_and]
          · rw [if_neg q, if_neg (by simpa using q)]
    · rw [if_neg (show ¬ decide (f0 = 3) = true by simpa using c3)]
      by_cases z : f2 = (0, [])
      · rw [decide_eq_true z, if_pos rfl]
        by_cases c1 : f0 = 1
        · rw [if_pos (decide_eq_true c1), if_pos c1, Bool.true_and]
          by_cases h0 : f3 = []
          · rw [if_pos (decide_eq_true h0), decide_eq_true h0, Bool.true_and]
            simp only [len0] at e1
            exact e1
          · rw [if_neg (by simpa using h0), decide_eq_false h0, Bool.false_and, if_neg (by rw [c1]; decide)]
        · rw [if_neg (by simpa using c1), if_neg c1]
          by_cases c2 : f0 = 2
          · rw [if_pos (decide_eq_true c2), if_pos c2, Bool.true_and]
            match f3, h4 with
            | [], _ => rfl
            | a :: b :: r, _ => rw [if_neg (by simp; omega)]
            | [a], h4 =>
              rw [if_pos (show ((([a].length : Nat) : Int) == 1) = true from rfl)]
              simp only [List.getElem?_cons_zero, List.getElem?_cons_succ, bind_s]
              by_cases q : cu.2 = 0
              · rw [if_pos q, if_pos (by simpa using q), p_refutes (n := n) j (h4 a (by simp)) (valids_app hv (e2 q)) (by simp; omega), bind_s]
              · rw [if_neg q, if_neg (by simpa using q)]
          · rw [if_neg (by simpa using c2), if_neg c2, if_neg c3]
      · rw [decide_eq_false z, if_neg Bool.false_ne_true]
        simp only [Bool.false_and, c3, if_false]
        split
        · rfl
        · split <;> rfl
theorem r_plain (c : T_api_Cert) (h : c.f2.2.length ≤ 1000000) : ref07_plain c = some (if c.f0 = 1 then decide (c.f2 = (0, [])) && decide (c.f3.length = 0) else if c.f0 = 2 then decide (c.f2 = (0, [])) && decide (c.f3.length = 1) else if c.f0 = 3 then decide (c.f1 = []) && decide (c.f3.length = 2) else false) := by
  unfold ref07_plain
  rw [r_equal c.f2 (0, []) h (by simp), bind_s, len0]
  have b0 := f_len (f3 := c.f3) 0
  have b1 := f_len (f3 := c.f3) 1
  have b2 := f_len (f3 := c.f3) 2
  rw [show ((0 : Nat) : Int) = 0 from rfl] at b0
  rw [show ((1 : Nat) : Int) = 1 from rfl] at b1
  rw [show ((2 : Nat) : Int) = 2 from rfl] at b2
  rw [← len0] 
  simp only [b0, b1, b2]
  rw [len0]
  by_cases c1 : c.f0 = 1
  · rw [if_pos c1, if_pos (by simpa using c1)]
    cases decide (c.f2 = (0, [])) <;> rfl
  · rw [if_neg c1, if_neg (by simpa using c1)]
    by_cases c2 : c.f0 = 2
    · rw [if_pos c2, if_pos (by simpa using c2)]
      cases decide (c.f2 = (0, [])) <;> rfl
    · rw [if_neg c2, if_neg (by simpa using c2)]
      by_cases c3 : c.f0 = 3
      · rw [if_pos c3, if_pos (by simpa using c3)]
        cases decide (c.f1 = []) <;> rfl
      · rw [if_neg c3, if_neg (by simpa using c3)]
set_option maxHeartbeats 2000000 in
theorem r_refutes : ∀ {n : Nat} {c : T_api_Cert} {fs : List Fc} (j : Nat), gd n c → valids fs → fs.length + n ≤ 100 → ref07_refutes (n + j) fs c = some (refE n fs c)
  | 0, _, _, _, h, _, _ => h.elim
  | n + 1, ⟨f0, f1, f2, f3⟩, fs, j, ⟨_, h2, h3, h4, _⟩, hv, hl => by
    rw [show n + 1 + j = (n + j) + 1 by omega, ref07_refutes, refE]
    simp only at h2 h3 h4 ⊢
    have hm := few_names h2
    have e1 := r_sum f1 hv (by omega)
    have hval : ref07_Valid fs = some true := by rw [r_validF (nm_v hv (by omega)), vF_iff.2 hv]
    rw [r_plain _ (by have := h2.1; simp only; omega), bind_s]
    simp only [r_cut f1 hv (by omega) hval, r_neg hm, bind_s, iffO_d (show fs.length * 40 ≤ 140737488355328 by omega), iffO_d (show (fs.length + 1) * 40 ≤ 140737488355328 by omega)]
    have e2 := cut_valid (fs := fs) (ms := f1)
    have e3 := neg_valid (l := f2)
    generalize cutE fs f1 = cu at e2 ⊢
    generalize negE f2 = ne at e3 ⊢
    by_cases c1 : f0 = 1
    · subst c1
      rw [if_pos (show (1 : Int) = 1 from rfl), if_pos (show (1 : Int) = 1 from rfl)]
      cases decide (f2 = (0, [])) with
      | false => rfl
      | true =>
        rw [Bool.true_and, Bool.true_and]
        cases f3 with
        | cons a r => rw [decide_eq_false (by simp), if_neg Bool.false_ne_true]; rfl
        | nil =>
          rw [show decide (([] : List T_api_Cert).length = 0) = true from rfl, if_pos rfl, if_pos (by decide), show decide (([] : List T_api_Cert) = []) = true from decide_eq_true rfl, Bool.true_and]
          exact e1
    · rw [if_neg c1, if_neg c1]
      by_cases c2 : f0 = 2
      · subst c2
        rw [if_pos (show (2 : Int) = 2 from rfl), if_pos (show (2 : Int) = 2 from rfl)]
        cases decide (f2 = (0, [])) with
        | false => rfl
        | true =>
          rw [Bool.true_and, Bool.true_and]
          match f3, h4 with
          | [], _ => rfl
          | a :: b :: r, _ => rw [decide_eq_false (by simp), if_neg Bool.false_ne_true]
          | [a], h4 =>
            rw [show decide ([a].length = 1) = true from rfl, if_pos rfl, if_neg (by decide), if_pos (by decide)]
            simp only [List.getElem?_cons_zero, List.getElem?_cons_succ, bind_s]
            by_cases q : cu.2 = 0
            · rw [if_pos q, if_pos (by simpa using q), r_refutes (n := n) j (h4 a (by simp)) (valids_app hv (e2 q)) (by simp; omega), bind_s]
            · rw [if_neg q, if_neg (by simpa using q)]
      · rw [if_neg c2, if_neg c2]
        by_cases c3 : f0 = 3
        · subst c3
          rw [if_pos (show (3 : Int) = 3 from rfl), if_pos (show (3 : Int) = 3 from rfl)]
          cases decide (f1 = []) with
          | false => rfl
          | true =>
            rw [Bool.true_and, Bool.true_and]
            match f3, h4 with
            | [], _ => rfl
            | [_], _ => rfl
            | a :: b :: d :: r, _ => rw [decide_eq_false (by simp), if_neg Bool.false_ne_true]
            | [a, b], h4 =>
              rw [show decide ([a, b].length = 2) = true from rfl, if_pos rfl, if_neg (by decide), if_neg (by decide)]
              simp only [List.getElem?_cons_zero, List.getElem?_cons_succ, bind_s]
              by_cases q : ne.2 = 0
              · obtain ⟨v1, v2, _⟩ := e3 q
                rw [if_pos q, if_pos (by simpa using q), r_refutes (n := n) j (h4 a (by simp)) (valids_app hv v1) (by simp; omega), bind_s]
                cases hr : refE n (fs ++ [(false, f2)]) a with
                | false => rfl
                | true =>
                  rw [if_pos rfl, r_refutes (n := n) j (h4 b (by simp)) (valids_app hv v2) (by simp; omega), bind_s, Bool.true_and]
              · rw [if_neg q, if_neg (by simpa using q)]
        · rw [if_neg c3, if_neg c3, if_neg Bool.false_ne_true]

def checkE (n : Nat) (fs : List Fc) (c : T_api_Cert) : Int := if vF fs = true then (if refE n fs c = true then 0 else 18) else 1
theorem p_check {n : Nat} {c : T_api_Cert} {fs : List Fc} (hg : gd n c) (hn : n ≤ 50) (hf : nmF fs) (hl : fs.length ≤ 50) : certificate_Check fs c = some (checkE n fs c) := by
  unfold certificate_Check checkE
  rw [p_valid hf, bind_s]
  cases hv : vF fs with
  | false => rfl
  | true =>
    have hv := vF_iff.1 hv
    have hs := gd_sz hg
    have e1 := p_count (4611686018427387904 - n) 1000 hg (by omega) (by omega)
    have e2 := p_refutes (4611686018427387904 - n) hg hv (by omega)
    rw [show n + (4611686018427387904 - n) = 4611686018427387904 by omega] at e1 e2
    rw [if_pos rfl, if_pos rfl, if_neg (by simp; omega), e1, bind_s, if_neg (by simp; omega), e2, bind_s]
    cases refE n fs c <;> rfl
theorem r_check {n : Nat} {c : T_api_Cert} {fs : List Fc} (hg : gd n c) (hn : n ≤ 50) (hf : nmF fs) (hl : fs.length ≤ 50) : ref07_Check fs c = some (checkE n fs c) := by
  unfold ref07_Check checkE
  rw [r_validF hf, bind_s]
  cases hv : vF fs with
  | false => rfl
  | true =>
    have hv := vF_iff.1 hv
    have hs := gd_sz hg
    have e1 := r_size (4611686018427387904 - n) hg
    have e2 := r_refutes (4611686018427387904 - n) hg hv (by omega)
    rw [show n + (4611686018427387904 - n) = 4611686018427387904 by omega] at e1 e2
    rw [if_pos rfl, if_pos rfl, if_neg (by simp; omega), e1, bind_s, if_neg (by simp; omega), e2, bind_s]
    cases refE n fs c <;> rfl

end Go.Proofs.Ytgjamefpphhobaa.M7G
