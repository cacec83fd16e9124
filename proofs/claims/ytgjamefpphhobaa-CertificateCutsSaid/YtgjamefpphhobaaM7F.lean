/- Certificates: sizes, and what they refute. -/
import Derived.Test.YtgjamefpphhobaaM7E
namespace Go.Proofs.Ytgjamefpphhobaa.M7F
open Go Go.Proofs.Ytgjamefpphhobaa.Eng Go.Proofs.Ytgjamefpphhobaa Go.RowKit Go.Proofs.Ytgjamefpphhobaa.LM Go.Proofs.Ytgjamefpphhobaa.PK Go.Proofs.Ytgjamefpphhobaa.D7P Go.Proofs.Ytgjamefpphhobaa.D7R Go.Proofs.Ytgjamefpphhobaa.M7A Go.Proofs.Ytgjamefpphhobaa.M7B Go.Proofs.Ytgjamefpphhobaa.M7C Go.Proofs.Ytgjamefpphhobaa.M7D Go.Proofs.Ytgjamefpphhobaa.M7E
set_option linter.unusedSimpArgs false
set_option linter.unusedVariables false
set_option linter.unusedSectionVars false
set_option maxRecDepth 100000

theorem nil_names : names ([] : List Tm) := ⟨by simp, by simp⟩
theorem v1 : validE (-1) [] = true := rfl
/-! Equality. -/
def cl : List Tm → List Tm → Option Int
  | s :: r, t :: r' => if lessB s.1 t.1 = true then some (-1) else if eqB s.1 t.1 = true then (if s.2 < t.2 then some (-1) else if s.2 = t.2 then cl r r' else some 1) else some 1
  | _, _ => none
def fewT (ts : List Tm) : Prop := ts.length ≤ 8 ∧ ∀ t ∈ ts, t.1.size ≤ 40
theorem few_names {ts : List Tm} (h : fewT ts) : names ts := ⟨by have := h.1; omega, fun t ht => by have := h.2 t ht; omega⟩
theorem r_few4 (l : Int × List Tm) (hl : l.2.length ≤ 9223372036854775807) (k : Int) : ref04_Few l k = some (l.2.all (fun t => decide (t.1.size ≤ 40)) && decide ((l.2.length : Int) ≤ k)) := by
  unfold ref04_Few
  rw [forC_all (xs := l.2) (s := ()) (r := false) (by omega) (fun t => decide (t.1.size ≤ 40)) (fun k x hx => by
    simp only [hx, bind_s]
    by_cases h : x.1.size ≤ 40
    · rw [if_neg (by simpa using by omega), decide_eq_true h, if_pos rfl]
    · rw [if_pos (decide_eq_true (by omega)), decide_eq_false h, if_neg (by simp)])]
  cases l.2.all (fun t => decide (t.1.size ≤ 40)) <;> rfl
theorem few_of {l : Int × List Tm} (h : (l.2.all (fun t => decide (t.1.size ≤ 40)) && decide ((l.2.length : Int) ≤ 8)) = true) : fewT l.2 := by
  simp only [Bool.and_eq_true, List.all_eq_true, decide_eq_true_eq] at h
  exact ⟨by omega, h.1⟩
end Go.Proofs.Ytgjamefpphhobaa.M7F
