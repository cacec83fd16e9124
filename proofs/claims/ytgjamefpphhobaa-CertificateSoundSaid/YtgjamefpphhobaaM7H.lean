/- What is refuted has no point. -/
import Derived.Test.YtgjamefpphhobaaM7G
namespace Go.Proofs.Ytgjamefpphhobaa.M7H
open Go Go.Proofs.Ytgjamefpphhobaa.Eng Go.Proofs.Ytgjamefpphhobaa Go.RowKit Go.Proofs.Ytgjamefpphhobaa.LM Go.Proofs.Ytgjamefpphhobaa.PK Go.Proofs.Ytgjamefpphhobaa.D7P Go.Proofs.Ytgjamefpphhobaa.D7R Go.Proofs.Ytgjamefpphhobaa.M7A Go.Proofs.Ytgjamefpphhobaa.M7B Go.Proofs.Ytgjamefpphhobaa.M7C Go.Proofs.Ytgjamefpphhobaa.M7D Go.Proofs.Ytgjamefpphhobaa.M7E Go.Proofs.Ytgjamefpphhobaa.M7F Go.Proofs.Ytgjamefpphhobaa.M7G
set_option linter.unusedSimpArgs false
set_option linter.unusedVariables false
set_option linter.unusedSectionVars false
set_option maxRecDepth 100000

section
variable (val : ByteArray → Int)
theorem E_insX (s : ByteArray) (x : Int) : ∀ l : List Tm, sortedT l → W (aget s l + x) = aget s l + x → E val (insP s x l) = x * val s + E val l
  | [], _, _ => rfl
  | t :: r, hs, hw => by
    unfold insP
    split
    · rfl
    · split
      · rename_i e
        subst e
        rw [aget, if_pos rfl] at hw
        rw [E, E]
        show W (t.2 + x) * val t.1 + _ = _
        rw [hw, Int.add_mul]
        omega
      · rename_i e
        rw [aget, if_neg e] at hw
        rw [E, E, E_insX s x r hs.2.2 hw]
        omega
theorem E_plusX (s : ByteArray) (x : Int) {l : List Tm} (hs : sortedT l) (hw : W (aget s l + x) = aget s l + x) : E val (plusT s x l) = x * val s + E val l := by
  unfold plusT
  rw [E_filter, E_insX val s x l hs hw]
theorem E_timesX (k : Int) : ∀ (ts : List Tm) {l : List Tm}, sortedT l → sortedT ts → (∀ t ∈ ts, W (k * t.2) = k * t.2 ∧ W (aget t.1 l + k * t.2) = aget t.1 l + k * t.2) → E val (timesT k ts l) = E val l + k * E val ts
  | [], l, _, _, _ => by rw [timesT, E, Int.mul_zero, Int.add_zero]
  | t :: r, l, hl, ht, h => by
    obtain ⟨w1, w2⟩ := h t (by simp)
    rw [timesT, E, w1, E_timesX k r (plus_sorted _ _ hl) ht.2.2 (fun u hu => ?_), E_plusX val t.1 (k * t.2) hl w2, Int.mul_add, Int.mul_assoc]
    · omega
    · obtain ⟨u1, u2⟩ := h u (by simp [hu])
      have hlt := ht.1 u hu
      rw [plus_get _ _ w1 u.1 hl, if_neg (fun e => ltB_irr _ (by rw [e] at hlt; exact hlt))]
      exact ⟨u1, u2⟩
theorem V_timesX {a b : Int × List Tm} {k : Int} (ha : sortedT a.2) (hb : sortedT b.2) (hc : W (k * b.1) = k * b.1 ∧ W (a.1 + k * b.1) = a.1 + k * b.1) (h : ∀ t ∈ b.2, W (k * t.2) = k * t.2 ∧ W (aget t.1 a.2 + k * t.2) = aget t.1 a.2 + k * t.2) : V val (timesE a b k) = V val a + k * V val b := by
  unfold V timesE
  simp only
  rw [hc.1, hc.2, E_timesX val k b.2 ha hb h, Int.mul_add]
  omega
def sat (f : Fc) : Prop := 0 ≤ V val f.2 ∧ (f.1 = true → V val f.2 = 0)
theorem comb_V : ∀ (fs : List Fc) (ms : List Int) {j : Nat} {s : Int × Int × Mp} {l : Int × List Tm}, M7C.Good j s l → j + 13 * fs.length ≤ 3900 → valids fs → oks fs ms = true → (∀ f ∈ fs, sat val f) → V val l ≤ V val (comb fs ms l)
  | [], ms, j, s, l, _, _, _, _, _ => by cases ms <;> exact Int.le_refl _
  | f :: fs, [], j, s, l, _, _, _, _, _ => Int.le_refl _
  | f :: fs, k :: ks, j, s, l, g, hj, hv, ho, hs => by
    rw [oks, okM] at ho
    simp only [Bool.and_eq_true, decide_eq_true_eq, Bool.or_eq_true] at ho
    rw [List.length_cons] at hj
    rw [comb]
    have hvf := hv f (by simp)
    refine Int.le_trans ?_ (comb_V fs ks (good_step g (by omega) hvf ⟨ho.1.1, ho.1.2.1⟩) (by omega) (fun x hx => hv x (by simp [hx])) ho.2 (fun x hx => hs x (by simp [hx])))
    by_cases h0 : k = 0
    · rw [if_pos h0]; exact Int.le_refl _
    · rw [if_neg h0]
      obtain ⟨v1, v2, v3, v4⟩ := valid_parts hvf
      have b1 := mul_b ⟨ho.1.1, ho.1.2.1⟩ v1
      have hcv : -(1000000000000000 * (j : Int)) ≤ tv (s.1, s.2.1) ∧ tv (s.1, s.2.1) ≤ 1000000000000000 * (j : Int) := ⟨g.c.2.2.1, g.c.2.2.2⟩
      have hlc := g.lc
      rw [V_timesX val g.ls v3 ⟨wrap_in (by omega) (by omega), wrap_in (by omega) (by omega)⟩ (fun t ht => by
        have b2 := mul_b ⟨ho.1.1, ho.1.2.1⟩ (v4 t ht).1
        have b3 := aget_nrm (B := 1000000000000000 * (j : Int)) (by omega) s.2.2 g.nr t.1
        rw [← g.lg] at b3
        exact ⟨wrap_in (by omega) (by omega), wrap_in (by omega) (by omega)⟩)]
      obtain ⟨s1, s2⟩ := hs f (by simp)
      have : 0 ≤ k * V val f.2 := by
        rcases ho.1.2.2 with h | h
        · exact Int.mul_nonneg h s1
        · rw [s2 h, Int.mul_zero]; exact Int.le_refl _
      omega
theorem comb_0 {fs : List Fc} {ms : List Int} (hl : fs.length ≤ 300) (hv : valids fs) (ho : oks fs ms = true) (hs : ∀ f ∈ fs, sat val f) : 0 ≤ V val (comb fs ms (0, [])) :=
  comb_V val fs ms (j := 0) good_0 (by omega) hv ho hs
theorem E_div {g : Int} : ∀ {l : List Tm}, (∀ t ∈ l, g ∣ t.2) → E val l = g * E val (divT g l)
  | [], _ => by simp [divT, E]
  | t :: r, h => by
    have h1 := h t (by simp)
    show t.2 * val t.1 + E val r = g * ((t.2 / g) * val t.1 + E val (divT g r))
    rw [E_div (l := r) (fun u hu => h u (by simp [hu])), Int.mul_add, ← Int.mul_assoc, Int.mul_ediv_cancel' h1]
theorem cut_V {fs : List Fc} {ms : List Int} (hl : fs.length ≤ 300) (hv : valids fs) (hs : ∀ f ∈ fs, sat val f) (h : (cutE fs ms).2 = 0) : 0 ≤ V val (cutE fs ms).1 := by
  unfold cutE at h ⊢
  split
  · rename_i h1
    rw [if_pos h1] at h
    have hc := comb_0 val hl hv h1.2 hs
    have K := comb_ok hv hl h1.2
    generalize comb fs ms (0, []) = l at h hc K ⊢
    split
    · rename_i h2
      rw [if_pos h2] at h
      cases h
    · rename_i h2
      rw [if_neg h2] at h
      obtain ⟨g1, g2, g3⟩ := gE_pos K.b h2 (sorted_nz K.s)
      unfold cutR at h ⊢
      split
      · unfold V at hc ⊢
        simp only
        rw [E_div val g3] at hc
        generalize gE l.2 = g at *
        generalize E val (divT g l.2) = X at *
        have : -X ≤ l.1 / g := by
          rw [Int.le_ediv_iff_mul_le g1, Int.neg_mul, Int.mul_comm]
          omega
        omega
      · rename_i h3
        rw [if_neg h3] at h
        cases h
  · rename_i h1
    rw [if_neg h1] at h
    cases h
theorem neg_V {l : Int × List Tm} (h : (negE l).2 = 0) : V val (negE l).1 = -1 - V val l := by
  obtain ⟨h1, h2, h3⟩ := neg_valid h
  obtain ⟨v1, v2, v3, v4⟩ := valid_parts h1
  have b := fits_b v1
  rw [h3, V_timesX val (a := (-1, [])) trivial v3 ⟨wrap_in (by omega) (by omega), wrap_in (by simp only; omega) (by simp only; omega)⟩ (fun t ht => by
    have b2 := fits_b (v4 t ht).1
    have e : aget t.1 ((-1, []) : Int × List Tm).2 = 0 := rfl
    rw [e]
    exact ⟨wrap_in (by omega) (by omega), wrap_in (by omega) (by omega)⟩)]
  show (-1 + E val []) + _ = _
  rw [E]
  omega
/-- Certificates are sound. -/
theorem sound : ∀ {n : Nat} {fs : List Fc} {c : T_api_Cert}, refE n fs c = true → valids fs → fs.length + n ≤ 200 → (∀ f ∈ fs, sat val f) → False
  | 0, fs, c, h, _, _, _ => by cases h
  | n + 1, fs, ⟨f0, f1, f2, f3⟩, h, hv, hl, hs => by
    rw [refE] at h
    simp only at h
    by_cases c1 : f0 = 1
    · rw [if_pos c1] at h
      simp only [Bool.and_eq_true, decide_eq_true_eq, sumE] at h
      obtain ⟨_, _, h1, h2, h3, h4⟩ := h
      have := comb_0 val (by omega) hv h2 hs
      unfold V at this
      rw [h3, E] at this
      omega
    · rw [if_neg c1] at h
      by_cases c2 : f0 = 2
      · rw [if_pos c2] at h
        simp only [Bool.and_eq_true, decide_eq_true_eq] at h
        obtain ⟨_, h⟩ := h
        match f3, h with
        | [k], h =>
          simp only at h
          split at h
          · rename_i q
            refine sound h (valids_app hv (cut_valid q)) (by simp; omega) fun f hf => ?_
            rcases List.mem_append.1 hf with hf | hf
            · exact hs f hf
            · simp at hf
              subst hf
              exact ⟨cut_V val (by omega) hv hs q, fun e => by cases e⟩
          · cases h
      · rw [if_neg c2] at h
        by_cases c3 : f0 = 3
        · rw [if_pos c3] at h
          simp only [Bool.and_eq_true, decide_eq_true_eq] at h
          obtain ⟨_, h⟩ := h
          match f3, h with
          | [k, q'], h =>
            simp only at h
            split at h
            · rename_i q
              simp only [Bool.and_eq_true] at h
              obtain ⟨n1, n2, _⟩ := neg_valid q
              have nv := neg_V val q
              by_cases h0 : 0 ≤ V val f2
              · refine sound h.1 (valids_app hv n1) (by simp; omega) fun f hf => ?_
                rcases List.mem_append.1 hf with hf | hf
                · exact hs f hf
                · simp at hf
                  subst hf
                  exact ⟨h0, fun e => by cases e⟩
              · refine sound h.2 (valids_app hv n2) (by simp; omega) fun f hf => ?_
                rcases List.mem_append.1 hf with hf | hf
                · exact hs f hf
                · simp at hf
                  subst hf
                  exact ⟨by rw [nv]; omega, fun e => by cases e⟩
            · cases h
        · rw [if_neg c3] at h
          cases h
end

/-! Values that are given. -/
theorem evalL_has (vs : List Tm) : ∀ (ts : List Tm) {n m : Int}, evalL vs ts n = (m, 0) → ∀ u ∈ ts, has vs u.1
  | [], _, _, _, u, hu => by cases hu
  | t :: r, n, m, h, u, hu => by
    rw [evalL] at h
    split at h
    · cases h
    · rename_i b hb
      split at h
      · cases h
      · rename_i hr
        rcases List.mem_cons.1 hu with rfl | hu
        · exact ⟨b, hb, by omega, by omega⟩
        · exact evalL_has vs r h u hu
theorem E_bound {vs : List Tm} : ∀ {ts : List Tm}, (∀ u ∈ ts, fitsI u.2 = true ∧ has vs u.1) → -(1000000000000000 * (ts.length : Int)) ≤ E (LM.valOf vs) ts ∧ E (LM.valOf vs) ts ≤ 1000000000000000 * (ts.length : Int)
  | [], _ => by simp [E]
  | t :: r, h => by
    obtain ⟨h1, h2⟩ := h t (by simp)
    obtain ⟨b, _, b1, b2, b3⟩ := has_val h2
    have hb := mul_b ⟨b1, b2⟩ h1
    have ih := E_bound (vs := vs) (ts := r) fun u hu => h u (by simp [hu])
    rw [E, b3, List.length_cons, Int.mul_comm t.2]
    push_cast
    omega
theorem eval_V {vs : List Tm} {l : Int × List Tm} {m : Int} (h : evalE l.1 l.2 vs = (m, 0)) : vE l = true ∧ (∀ u ∈ l.2, has vs u.1) ∧ m = V (LM.valOf vs) l := by
  have h' := h
  unfold evalE at h
  split at h
  · rename_i hv
    have hh := evalL_has vs l.2 h
    obtain ⟨m', e, w, c⟩ := evalE_V hv hh
    rw [h'] at e
    cases e
    obtain ⟨v1, v2, v3, v4⟩ := valid_parts hv
    have b := E_bound (vs := vs) (ts := l.2) fun u hu => ⟨(v4 u hu).1, hh u hu⟩
    have b2 := fits_b v1
    refine ⟨hv, hh, cg_eq c w (wrap_in ?_ ?_)⟩
    · unfold V; omega
    · unfold V; omega
  · cases h
theorem holds_sat {vs : List Tm} {fs : List Fc} (h : holdsE fs vs = true) : valids fs ∧ ∀ f ∈ fs, sat (LM.valOf vs) f ∧ ∀ u ∈ f.2.2, has vs u.1 := by
  unfold holdsE at h
  rw [List.all_eq_true] at h
  have key : ∀ f ∈ fs, vE f.2 = true ∧ sat (LM.valOf vs) f ∧ ∀ u ∈ f.2.2, has vs u.1 := fun f hf => by
    have h1 := h f hf
    unfold M7E.okF at h1
    rcases he : evalE f.2.1 f.2.2 vs with ⟨m, e⟩
    rw [he] at h1
    simp only [Bool.and_eq_true, decide_eq_true_eq, beq_iff_eq, Bool.or_eq_true, Bool.not_eq_true'] at h1
    obtain ⟨rfl, h2, h3⟩ := h1
    obtain ⟨e1, e2, rfl⟩ := eval_V he
    refine ⟨e1, ⟨h2, fun e => ?_⟩, e2⟩
    rcases h3 with h3 | h3
    · rw [e] at h3; cases h3
    · exact h3
  exact ⟨fun f hf => (key f hf).1, fun f hf => (key f hf).2⟩

end Go.Proofs.Ytgjamefpphhobaa.M7H
