/- Linear expressions: values of sums, as the law asks for them. -/
import Derived.Test.YtjgaebomcdkohaaGreatDoorL30
import Derived.Test.YtjgaebomcdkohaaGreatDoorL34
namespace Go.Proofs.YtjgaebomcdkohaaGreatDoor.L35
open Go Go.Proofs.YtjgaebomcdkohaaGreatDoor.Eng Go.Proofs.YtjgaebomcdkohaaGreatDoor Go.RowKit Go.Proofs.YtjgaebomcdkohaaGreatDoor.L1 Go.Proofs.YtjgaebomcdkohaaGreatDoor.L2 Go.Proofs.YtjgaebomcdkohaaGreatDoor.L3 Go.Proofs.YtjgaebomcdkohaaGreatDoor.L6 Go.Proofs.YtjgaebomcdkohaaGreatDoor.L13 Go.Proofs.YtjgaebomcdkohaaGreatDoor.L16 Go.Proofs.YtjgaebomcdkohaaGreatDoor.L17 Go.Proofs.YtjgaebomcdkohaaGreatDoor.L19 Go.Proofs.YtjgaebomcdkohaaGreatDoor.L20 Go.Proofs.YtjgaebomcdkohaaGreatDoor.L23 Go.Proofs.YtjgaebomcdkohaaGreatDoor.L27 Go.Proofs.YtjgaebomcdkohaaGreatDoor.L28 Go.Proofs.YtjgaebomcdkohaaGreatDoor.L29 Go.Proofs.YtjgaebomcdkohaaGreatDoor.L30 Go.Proofs.YtjgaebomcdkohaaGreatDoor.L31 Go.Proofs.YtjgaebomcdkohaaGreatDoor.L34
set_option linter.unusedSimpArgs false
set_option linter.unusedVariables false
set_option linter.unusedSectionVars false
set_option maxRecDepth 100000

/-- The values that the law gives to variables. -/
def vsE : List Tm → Nat → List Tm
  | [], _ => []
  | t :: r, i => (t.1, 7 * (i : Int) - 20) :: vsE r (i + 1)
theorem vsE_app (t : Tm) : ∀ (l : List Tm) (i : Nat), vsE (l ++ [t]) i = vsE l i ++ [(t.1, 7 * ((i + l.length : Nat) : Int) - 20)]
  | [], i => rfl
  | u :: l, i => by
    rw [List.cons_append, vsE, vsE_app t l (i + 1), vsE, List.length_cons, show i + 1 + l.length = i + (l.length + 1) by omega]
    rfl
theorem vsE_len : ∀ (l : List Tm) (i : Nat), (vsE l i).length = l.length
  | [], _ => rfl
  | t :: r, i => by rw [vsE, List.length_cons, List.length_cons, vsE_len r]
theorem hit_self (v : ByteArray) (x : Int) : hitV v (v, x) = true := by simp [hitV]
theorem hit_ne {v u : ByteArray} {x : Int} (h : hitV v (u, x) = true) : u = v := by
  have h1 : (u.toList == v.toList) = true := h
  rw [L17.eqS] at h1
  exact bs_inj (of_decide_eq_true h1)
theorem vsE_has {v : ByteArray} : ∀ {l : List Tm} {i : Nat}, i + l.length ≤ 1000 → (∃ u ∈ l, u.1 = v) → has (vsE l i) v
  | [], _, _, ⟨u, hu, _⟩ => by cases hu
  | t :: r, i, hi, ⟨u, hu, e⟩ => by
    simp only [List.length_cons] at hi
    unfold has
    rw [vsE, List.find?_cons]
    cases hh : hitV v (t.1, 7 * (i : Int) - 20) with
    | true => exact ⟨_, rfl, by simp only; omega, by simp only; omega⟩
    | false =>
      refine vsE_has (by omega) ?_
      rcases List.mem_cons.1 hu with rfl | hu
      · rw [← e, hit_self] at hh
        cases hh
      · exact ⟨u, hu, e⟩
/-- What Eval returns for a sum, or for an error. -/
theorem eval_add {vs : List Tm} {a b : Int × List Tm} {x y : Int} (va : validE a.1 a.2 = true) (vb : validE b.1 b.2 = true) (ha : ∀ u ∈ a.2, has vs u.1) (hb : ∀ u ∈ b.2, has vs u.1) (hx : evalE a.1 a.2 vs = (x, 0)) (hy : evalE b.1 b.2 vs = (y, 0)) (h : (addR a b 1).2 = 0) : evalE (addR a b 1).1.1 (addR a b 1).1.2 vs = (W (x + y), 0) := by
  rw [addR_v va vb] at h ⊢
  have hv := lim_valid h
  rw [lim_yes hv]
  obtain ⟨m, e1, _, c1⟩ := evalE_V va ha
  obtain ⟨n, e2, w2, c2⟩ := evalE_V vb hb
  rw [hx] at e1
  rw [hy] at e2
  cases e1
  cases e2
  have := evalE_times hv ha hb c1 c2
  rw [Int.one_mul, show W y = y from w2] at this
  exact this
theorem eval_sub {vs : List Tm} {a b : Int × List Tm} {x y : Int} (va : validE a.1 a.2 = true) (vb : validE b.1 b.2 = true) (ha : ∀ u ∈ a.2, has vs u.1) (hb : ∀ u ∈ b.2, has vs u.1) (hx : evalE a.1 a.2 vs = (x, 0)) (hy : evalE b.1 b.2 vs = (y, 0)) (h : (addR a b (-1)).2 = 0) : evalE (addR a b (-1)).1.1 (addR a b (-1)).1.2 vs = (W (x - y), 0) := by
  rw [addR_v va vb] at h ⊢
  have hv := lim_valid h
  rw [lim_yes hv]
  obtain ⟨m, e1, _, c1⟩ := evalE_V va ha
  obtain ⟨n, e2, w2, c2⟩ := evalE_V vb hb
  rw [hx] at e1
  rw [hy] at e2
  cases e1
  cases e2
  have := evalE_times hv ha hb c1 c2
  rw [this]
  congr 1
  refine W_cg ?_
  exact ((cg.rfl' _).add (cg_W _)).trans (cg.of_eq (by omega))
theorem eval_scale {vs : List Tm} {a : Int × List Tm} {x k : Int} (va : validE a.1 a.2 = true) (ha : ∀ u ∈ a.2, has vs u.1) (hx : evalE a.1 a.2 vs = (x, 0)) (h : (scaleR a k).2 = 0) : evalE (scaleR a k).1.1 (scaleR a k).1.2 vs = (W (k * x), 0) := by
  rcases scale_cases va h with ⟨hf, hv, e⟩ | ⟨_, rfl, e⟩
  · rw [e]
    obtain ⟨m, e1, _, c1⟩ := evalE_V va ha
    rw [hx] at e1
    cases e1
    have := evalE_times (a := (0, [])) hv (fun u hu => by cases hu) ha (m := 0) (cg.of_eq rfl) c1
    rw [this]
    congr 1
    refine W_cg ?_
    exact (cg.of_eq (by omega)).trans (cg_W _)
  · rw [e]
    have h0 : evalE 0 [] vs = (0, 0) := rfl
    rw [h0] at hx
    cases hx
    rw [Int.mul_zero]
    exact h0
/-- One variable substituted: the values agree. -/
theorem eval_put {vs : List Tm} {c1 c2 y : Int} {t1 t2 : List Tm} {v : ByteArray} {b : Bd} (hb : b.kind = 1 ∧ b.var = v ∧ b.c = c2 ∧ b.ts = t2) (va : validE c1 t1 = true) (vb : validE c2 t2 = true) (ha : ∀ u ∈ t1, has vs u.1) (h2 : ∀ u ∈ t2, has vs u.1) (hy : evalE c2 t2 vs = (y, 0)) (l1 : -1000000000 ≤ y) (l2 : y ≤ 1000000000) (h : (substR c1 t1 [b]).2 = 0) :
    ∃ z, evalE (substR c1 t1 [b]).1.1 (substR c1 t1 [b]).1.2 vs = (z, 0) ∧ evalE c1 t1 ((v, y) :: vs) = (z, 0) := by
  obtain ⟨k1, k2, k3, k4⟩ := hb
  unfold substR at h ⊢
  rw [if_pos va] at h ⊢
  cases hs : subR [b] t1 (c1, []) with
  | none => rw [hs] at h; cases h
  | some st =>
    rw [hs] at h
    simp only at h ⊢
    have hv := lim_valid h
    rw [lim_yes hv]
    simp only
    obtain ⟨m, e2, w2, c2'⟩ := evalE_V (l := (c2, t2)) vb h2
    rw [show evalE (c2, t2).1 (c2, t2).2 vs = (y, 0) from hy] at e2
    cases e2
    have hby : ∀ u, (u = v ∧ byE [b] u = (c2, t2)) ∨ (u ≠ v ∧ byE [b] u = (0, [(u, 1)])) := fun u => by
      unfold byE
      rw [List.find?_cons]
      have e : hitB u b = decide (bs v = bs u) := by
        unfold hitB
        rw [k1, k2]
        exact (Bool.true_and _).trans (L17.eqS _ _)
      by_cases hu : u = v
      · subst hu
        rw [e, decide_eq_true rfl]
        exact Or.inl ⟨rfl, by show (b.c, b.ts) = _; rw [k3, k4]⟩
      · rw [e, decide_eq_false fun h => hu (bs_inj h).symm]
        exact Or.inr ⟨hu, rfl⟩
    have hval : ∀ u, u ≠ v → ((v, y) :: vs).find? (hitV u) = vs.find? (hitV u) := fun u hu => by
      rw [List.find?_cons]
      cases hh : hitV u (v, y) with
      | true => exact absurd (hit_ne hh).symm hu
      | false => rfl
    have hvv : ((v, y) :: vs).find? (hitV v) = some (v, y) := by rw [List.find?_cons, hit_self]
    obtain ⟨s1, s2⟩ := sub_V vs [b] (fun u => ∃ w ∈ t1, w.1 = u) (L30.valOf ((v, y) :: vs))
      (fun u _ => by
        rcases hby u with ⟨rfl, e⟩ | ⟨hu, e⟩
        · rw [e]
          refine c2'.symm.trans (cg.of_eq ?_)
          unfold L30.valOf
          rw [hvv]
        · rw [e]
          refine cg.of_eq ?_
          show 0 + (1 * L30.valOf vs u + 0) = L30.valOf ((v, y) :: vs) u
          unfold L30.valOf
          rw [hval u hu]
          omega)
      (fun u ⟨w, hw, e'⟩ => by
        rcases hby u with ⟨rfl, e⟩ | ⟨hu, e⟩
        · rw [e]; exact h2
        · rw [e]
          intro x hx
          simp at hx
          subst hx
          exact e' ▸ ha w hw)
      t1 (st := (c1, [])) (fun u hu => ⟨u, hu, rfl⟩) (fun u hu => by cases hu) hs
    obtain ⟨z, e1, w1, c1'⟩ := evalE_V hv s1
    refine ⟨z, e1, ?_⟩
    obtain ⟨m, e3, w3, c3⟩ := evalE_V (vs := (v, y) :: vs) (l := (c1, t1)) va fun u hu => by
      by_cases e : u.1 = v
      · exact ⟨(v, y), by rw [e]; exact hvv, l1, l2⟩
      · obtain ⟨b', q1, q2⟩ := ha u hu
        exact ⟨b', by rw [hval _ e]; exact q1, q2⟩
    rw [show evalE (c1, t1).1 (c1, t1).2 ((v, y) :: vs) = evalE c1 t1 ((v, y) :: vs) from rfl] at e3
    rw [e3]
    congr 1
    refine cg_eq (c3.trans ?_) w3 w1
    refine (cg.symm (c1'.trans (s2.trans (cg.of_eq ?_))))
    show c1 + E (L30.valOf vs) [] + E (L30.valOf ((v, y) :: vs)) t1 = c1 + E (L30.valOf ((v, y) :: vs)) t1
    rw [E]
    omega

end Go.Proofs.YtjgaebomcdkohaaGreatDoor.L35
