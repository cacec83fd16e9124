/- Linear expressions: sums of valid ones, as the reference makes them. -/
import Derived.Test.YtjgaebomcdkohaaGreatDoorL17
import Derived.Test.YtjgaebomcdkohaaGreatDoorL19
namespace Go.Proofs.YtjgaebomcdkohaaGreatDoor.L20
open Go Go.Proofs.YtjgaebomcdkohaaGreatDoor.Eng Go.Proofs.YtjgaebomcdkohaaGreatDoor Go.RowKit Go.Proofs.YtjgaebomcdkohaaGreatDoor.L1 Go.Proofs.YtjgaebomcdkohaaGreatDoor.L2 Go.Proofs.YtjgaebomcdkohaaGreatDoor.L3 Go.Proofs.YtjgaebomcdkohaaGreatDoor.L4 Go.Proofs.YtjgaebomcdkohaaGreatDoor.L5 Go.Proofs.YtjgaebomcdkohaaGreatDoor.L6 Go.Proofs.YtjgaebomcdkohaaGreatDoor.L7 Go.Proofs.YtjgaebomcdkohaaGreatDoor.L16 Go.Proofs.YtjgaebomcdkohaaGreatDoor.L17 Go.Proofs.YtjgaebomcdkohaaGreatDoor.L19
set_option linter.unusedSimpArgs false
set_option linter.unusedVariables false
set_option linter.unusedSectionVars false
set_option maxRecDepth 100000

theorem ltS_is (a b : ByteArray) : ltS a b = true ↔ ltB a b := by
  unfold ltS ltB
  rw [lessS]
  exact decide_eq_true_iff
theorem terms_sorted : ∀ (ts : List Tm) (p : Option ByteArray), termsE p ts = true → sortedT ts ∧ (∀ q, p = some q → ∀ u ∈ ts, ltB q u.1) ∧ ∀ u ∈ ts, fitsI u.2 = true ∧ nameE u.1 = true
  | [], p, _ => ⟨trivial, fun _ _ u hu => (by cases hu), fun u hu => (by cases hu)⟩
  | t :: r, p, h => by
    rw [termsE_cons] at h
    simp only [Bool.and_eq_true, Bool.not_eq_true', decide_eq_false_iff_not] at h
    obtain ⟨h0, hf, hn, hp, hr⟩ := h
    obtain ⟨i1, i2, i3⟩ := terms_sorted r (some t.1) hr
    refine ⟨⟨i2 t.1 rfl, h0, i1⟩, fun q hq u hu => ?_, fun u hu => ?_⟩
    · subst hq
      have h1 := (ltS_is q t.1).1 hp
      rcases List.mem_cons.1 hu with rfl | hu
      · exact h1
      · exact List.lt_trans h1 (i2 t.1 rfl u hu)
    · rcases List.mem_cons.1 hu with rfl | hu
      · exact ⟨hf, hn⟩
      · exact i3 u hu
theorem fits_W {x : Int} (h : fitsI x = true) : W x = x := by
  simp [fitsI] at h
  exact wrap_in (by omega) (by omega)
theorem valid_parts {c : Int} {ts : List Tm} (h : validE c ts = true) : fitsI c = true ∧ ts.length ≤ 12 ∧ sortedT ts ∧ ∀ u ∈ ts, fitsI u.2 = true ∧ nameE u.1 = true := by
  unfold validE at h
  simp only [Bool.and_eq_true, decide_eq_true_eq] at h
  obtain ⟨h1, h2, h3⟩ := h
  obtain ⟨h4, _, h5⟩ := terms_sorted ts none h3
  exact ⟨h1, h2, h4, h5⟩
theorem add_one (v : ByteArray) : ∀ (ts : List Tm) {cs : List Tm}, sortedT ts → (∀ u ∈ ts, fitsI u.2 = true) → (∀ u ∈ ts, aget u.1 cs = 0) → aget v (addT 1 ts cs) = aget v ts + aget v cs
  | [], cs, _, _, _ => by simp [addT, aget]
  | t :: r, cs, h, hw, hz => by
    have e : W (aget t.1 cs + W (1 * t.2)) = t.2 := by
      rw [hz t List.mem_cons_self, Int.one_mul, Int.zero_add, fits_W (hw t List.mem_cons_self), fits_W (hw t List.mem_cons_self)]
    have ih := add_one v r (cs := aput t.1 t.2 cs) h.2.2 (fun u hu => hw u (List.mem_cons_of_mem _ hu)) fun u hu => by
      rw [aput_get, if_neg]
      · exact hz u (List.mem_cons_of_mem _ hu)
      · intro e
        have := h.1 u hu
        rw [e] at this
        exact ltB_irr _ this
    rw [addT, e, ih, aput_get, aget]
    by_cases ev : t.1 = v
    · subst ev
      rw [if_pos rfl, if_pos rfl, aget_lt h.1, hz t List.mem_cons_self]
      omega
    · rw [if_neg ev, if_neg fun e => ev e.symm]
def limE (l : Int × List Tm) : (Int × List Tm) × Int := if validE l.1 l.2 = true then (l, 0) else ((0, []), 3)
def timesE (l x : Int × List Tm) (k : Int) : Int × List Tm := (W (l.1 + W (k * x.1)), timesT k x.2 l.2)
theorem combine_is {a b : Int × List Tm} (k : Int) (ha : validE a.1 a.2 = true) (hb : validE b.1 b.2 = true) : combineE a b k = limE (timesE a b k) := by
  obtain ⟨f1, _, s1, w1⟩ := valid_parts ha
  unfold combineE
  rw [ha, hb, if_neg (by simp)]
  have e1 : addC 0 1 a.1 = a.1 := by
    unfold addC
    rw [Int.one_mul, Int.zero_add, fits_W f1, fits_W f1]
  have e2 : linT (addT k b.2 (addT 1 a.2 [])) = timesT k b.2 a.2 := (times_is k b.2 s1 (addT_d 1 a.2 (cs := []) (by simp [keysD])) fun v => by rw [add_one v a.2 s1 (fun u hu => (w1 u hu).1) fun u hu => rfl]; simp [aget]).symm
  unfold linearE limE timesE
  rw [e1, e2]
  rfl

end Go.Proofs.YtjgaebomcdkohaaGreatDoor.L20
