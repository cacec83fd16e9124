/- Certificates: sizes, and what they refute. -/
import Derived.Test.YtgjamefpphhobaaM7E
namespace Go.Proofs.Ytgjamefpphhobaa.M7F
open Go Go.Proofs.Ytgjamefpphhobaa.Eng Go.Proofs.Ytgjamefpphhobaa Go.RowKit Go.Proofs.Ytgjamefpphhobaa.LM Go.Proofs.Ytgjamefpphhobaa.PK Go.Proofs.Ytgjamefpphhobaa.D7P Go.Proofs.Ytgjamefpphhobaa.D7R Go.Proofs.Ytgjamefpphhobaa.M7A Go.Proofs.Ytgjamefpphhobaa.M7B Go.Proofs.Ytgjamefpphhobaa.M7C Go.Proofs.Ytgjamefpphhobaa.M7D Go.Proofs.Ytgjamefpphhobaa.M7E
set_option linter.unusedSimpArgs false
set_option linter.unusedVariables false
set_option linter.unusedSectionVars false
set_option maxRecDepth 100000

theorem v1 : validE (-1) [] = true := rfl
/-! Equality. -/
def cl : List Tm → List Tm → Option Int
  | s :: r, t :: r' => if lessB s.1 t.1 = true then some (-1) else if eqB s.1 t.1 = true then (if s.2 < t.2 then some (-1) else if s.2 = t.2 then cl r r' else some 1) else some 1
  | _, _ => none
theorem cl_some : ∀ {a b : List Tm} {r : Int}, cl a b = some r → r ≠ 0 ∧ a ≠ b
  | [], [], r, h => by cases h
  | [], _ :: _, r, h => by cases h
  | _ :: _, [], r, h => by cases h
  | s :: a, t :: b, r, h => by
    rw [cl] at h
    split at h
    · rename_i hl
      cases h
      refine ⟨by omega, fun e => ?_⟩
      obtain ⟨rfl, _⟩ := List.cons.inj e
      exact ltB_irr _ ((less_iff _ _).1 hl)
    · split at h
      · split at h
        · rename_i h2
          cases h
          refine ⟨by omega, fun e => ?_⟩
          obtain ⟨rfl, _⟩ := List.cons.inj e
          omega
        · split at h
          · obtain ⟨h1, h2⟩ := cl_some h
            exact ⟨h1, fun e => h2 (List.cons.inj e).2⟩
          · rename_i h3
            cases h
            refine ⟨by omega, fun e => ?_⟩
            obtain ⟨rfl, _⟩ := List.cons.inj e
            exact h3 rfl
      · rename_i h2
        cases h
        refine ⟨by omega, fun e => ?_⟩
        obtain ⟨rfl, _⟩ := List.cons.inj e
        exact h2 (eqB_self _)
theorem cl_none : ∀ {a b : List Tm}, cl a b = none → a.length = b.length → a = b
  | [], [], _, _ => rfl
  | [], _ :: _, _, hl => by simp at hl
  | _ :: _, [], _, hl => by simp at hl
  | s :: a, t :: b, h, hl => by
    rw [cl] at h
    split at h
    · cases h
    · split at h
      · rename_i h1
        split at h
        · cases h
        · split at h
          · rename_i h2
            rw [cl_none h (by simpa using hl), show s = t from Prod.ext (eqB_iff.1 h1) h2]
          · cases h
      · cases h
theorem r_equal (a b : Int × List Tm) (ha : a.2.length ≤ 1000000) (hb : b.2.length ≤ 1000000) : ref04_Equal a b = some (decide (a = b)) := by
  obtain ⟨c, x⟩ := a
  obtain ⟨d, y⟩ := b
  simp only at ha hb
  unfold ref04_Equal ref04_Compare
  simp only
  rw [whlC_val (fun i => some (match cl (x.drop i.toNat) (y.drop i.toNat) with | none => .inl ((min x.length y.length : Nat) : Int) | some r => .inr r)) (fun i => 0 ≤ i ∧ i ≤ (min x.length y.length : Nat)) (fun i => (min x.length y.length) - i.toNat) ⟨by omega, by omega⟩ (by omega) ?_ ?_]
  · simp only [Int.toNat_zero, List.drop_zero, bind_s]
    cases hc : cl x y with
    | some r =>
      obtain ⟨h1, h2⟩ := cl_some hc
      simp only [elim_r, bind_s]
      congr 1
      rw [show (r == (0 : Int)) = false by simpa using h1]
      symm
      rw [decide_eq_false_iff_not]
      intro e
      exact h2 (Prod.mk.inj e).2
    | none =>
      simp only [elim_l]
      by_cases c1 : x.length < y.length
      · rw [if_pos (decide_eq_true (by omega)), bind_s]
        congr 1
        symm
        rw [show ((-1 : Int) == 0) = false from rfl, decide_eq_false_iff_not]
        intro e
        rw [(Prod.mk.inj e).2] at c1
        omega
      · rw [if_neg (by simpa using by omega)]
        by_cases c2 : x.length = y.length
        · obtain rfl := cl_none hc c2
          rw [if_pos (by simp)]
          by_cases c3 : c < d
          · rw [if_pos (decide_eq_true c3), bind_s]
            congr 1
            symm
            rw [show ((-1 : Int) == 0) = false from rfl, decide_eq_false_iff_not]
            intro e
            have := (Prod.mk.inj e).1
            omega
          · rw [if_neg (by simpa using c3), if_neg (by simp)]
            by_cases c4 : d < c
            · rw [if_pos (decide_eq_true c4), bind_s]
              congr 1
              symm
              rw [show ((1 : Int) == 0) = false from rfl, decide_eq_false_iff_not]
              intro e
              have := (Prod.mk.inj e).1
              omega
            · rw [if_neg (by simpa using c4), bind_s]
              obtain rfl : c = d := by omega
              simp
        · rw [if_neg (by simp; omega), if_pos (decide_eq_true (by omega)), bind_s]
          congr 1
          symm
          rw [show ((1 : Int) == 0) = false from rfl, decide_eq_false_iff_not]
          intro e
          exact c2 (by rw [(Prod.mk.inj e).2])
  · rintro i ⟨h0, h1⟩
    obtain ⟨n, rfl⟩ := Int.eq_ofNat_of_zero_le h0
    simp only [Int.toNat_natCast]
    by_cases hx : n < x.length
    · rw [if_pos (decide_eq_true (by omega))]
      by_cases hy : n < y.length
      · obtain ⟨s, hs, ds⟩ := drop_some hx
        obtain ⟨t, ht, dt⟩ := drop_some hy
        rw [if_pos (decide_eq_true (by omega)), idxO_nat, idxO_nat, hs, ht, bind_s, bind_s, ds, dt, cl]
        cases e1 : lessB s.1 t.1 with
        | true => rfl
        | false =>
          rw [if_neg Bool.false_ne_true, if_neg Bool.false_ne_true]
          cases e2 : eqB s.1 t.1 with
          | false => rfl
          | true =>
            rw [if_pos (show true = true from rfl), if_pos (show true = true from rfl)]
            by_cases h2 : s.2 < t.2
            · rw [if_pos h2, if_pos (decide_eq_true h2)]; rfl
            · rw [if_neg h2, if_neg (show ¬ decide (s.2 < t.2) = true by simpa using h2)]
              by_cases h3 : s.2 = t.2
              · rw [if_pos h3, if_pos (show (s.2 == t.2) = true by simpa using h3), bind_s, on_nx, wrap_in (by omega) (by omega), show ((n : Int) + 1).toNat = n + 1 by omega]
              · rw [if_neg h3, if_neg (show ¬ (s.2 == t.2) = true by simpa using h3)]; rfl
      · rw [if_neg (by simpa using by omega), bind_s, on_br, show y.drop n = [] from List.drop_eq_nil_of_le (by omega)]
        have : cl (x.drop n) [] = none := by cases x.drop n <;> rfl
        rw [this]
        simp only
        congr 2
        omega
    · rw [if_neg (by simpa using by omega), bind_s, on_br, show x.drop n = [] from List.drop_eq_nil_of_le (by omega)]
      have : cl [] (y.drop n) = none := by cases y.drop n <;> rfl
      rw [this]
      simp only
      congr 2
      omega
  · rintro i i' ⟨h0, h1⟩ h
    obtain ⟨n, rfl⟩ := Int.eq_ofNat_of_zero_le h0
    by_cases hx : n < x.length
    · rw [if_pos (decide_eq_true (by omega))] at h
      by_cases hy : n < y.length
      · obtain ⟨s, hs, ds⟩ := drop_some hx
        obtain ⟨t, ht, dt⟩ := drop_some hy
        rw [if_pos (decide_eq_true (by omega)), idxO_nat, idxO_nat, hs, ht, bind_s, bind_s] at h
        split at h
        · simp at h
        · split at h
          · split at h
            · simp at h
            · split at h
              · rw [wrap_in (by omega) (by omega)] at h
                simp at h
                subst h
                omega
              · simp at h
          · simp at h
      · rw [if_neg (by simpa using by omega)] at h
        simp at h
    · rw [if_neg (by simpa using by omega)] at h
      simp at h
def fewT (ts : List Tm) : Prop := ts.length ≤ 8 ∧ ∀ t ∈ ts, t.1.size ≤ 40
theorem few_names {ts : List Tm} (h : fewT ts) : names ts := ⟨by have := h.1; omega, fun t ht => by have := h.2 t ht; omega⟩
theorem r_few4 (l : Int × List Tm) (hl : l.2.length ≤ 9223372036854775807) (k : Int) : ref04_Few l k = some (l.2.all (fun t => decide (t.1.size ≤ 40)) && decide ((l.2.length : Int) ≤ k)) := by
  unfold ref04_Few
  rw [forC_all (xs := l.2) (s := ()) (r := false) (by omega) (fun t => decide (t.1.size ≤ 40)) (fun k x hx => by
    simp only [hx, bind_s]
    by_cases h : x.1.size ≤ 40
    · rw [if_neg (by simpa using by omega), decide_eq_true h, if_pos rfl]
    · rw [if_pos (decide_eq_true (by omega)), decide_eq_false h, if_neg (by simp)])]
  cases l.2.all (fun t => decide (t.1.size ≤ 40)) <;> rfl
theorem few_of {l : Int × List Tm} (h : (l.2.all (fun t => decide (t.1.size ≤ 40)) && decide ((l.2.length : Int) ≤ 8)) = true) : fewT l.2 := by
  simp only [Bool.and_eq_true, List.all_eq_true, decide_eq_true_eq] at h
  exact ⟨by omega, h.1⟩
end Go.Proofs.Ytgjamefpphhobaa.M7F
