/- Linear expressions: the reference's sums. -/
import Derived.Test.YtjgaebomcdkohaaGreatDoorL20
namespace Go.Proofs.YtjgaebomcdkohaaGreatDoor.L25
open Go Go.Proofs.YtjgaebomcdkohaaGreatDoor.Eng Go.Proofs.YtjgaebomcdkohaaGreatDoor Go.RowKit Go.Proofs.YtjgaebomcdkohaaGreatDoor.L1 Go.Proofs.YtjgaebomcdkohaaGreatDoor.L2 Go.Proofs.YtjgaebomcdkohaaGreatDoor.L3 Go.Proofs.YtjgaebomcdkohaaGreatDoor.L16 Go.Proofs.YtjgaebomcdkohaaGreatDoor.L17 Go.Proofs.YtjgaebomcdkohaaGreatDoor.L19 Go.Proofs.YtjgaebomcdkohaaGreatDoor.L20
set_option linter.unusedSimpArgs false
set_option linter.unusedVariables false
set_option linter.unusedSectionVars false
set_option maxRecDepth 100000

/-- What the first loop of Plus has made behind some terms, and whether the new one is there. -/
def half (s : ByteArray) (x : Int) (ts : List Tm) (i : Nat) (put : Bool) (o : List Tm) : Prop :=
  (i = 0 ↔ o = []) ∧ o.length ≤ 2 * i ∧ ((put = false ∧ insP s x ts = o ++ insP s x (ts.drop i)) ∨ (put = true ∧ insP s x ts = o ++ ts.drop i ∧ ∀ u ∈ ts.drop i, ltB s u.1))
theorem half_0 (s : ByteArray) (x : Int) (ts : List Tm) : half s x ts 0 false [] := ⟨by simp, by simp, Or.inl ⟨rfl, rfl⟩⟩
theorem ris_drop : ∀ {ts : List Tm} (i : Nat), risT ts → risT (ts.drop i)
  | [], i, h => by rw [List.drop_nil]; exact h
  | t :: r, 0, h => h
  | t :: r, i + 1, h => ris_drop (ts := r) i h.2
section
variable {s : ByteArray} {x : Int} {ts : List Tm} {i : Nat} {o : List Tm} {t : Tm} (hr : risT ts) (ht : ts[i]? = some t)
include hr ht
theorem drop_t : ts.drop i = t :: ts.drop (i + 1) ∧ ∀ u ∈ ts.drop (i + 1), ltB t.1 u.1 := by
  obtain ⟨h1, rfl⟩ := List.getElem?_eq_some_iff.1 ht
  have h2 := List.drop_eq_getElem_cons h1
  have h3 := ris_drop i hr
  rw [h2] at h3
  exact ⟨h2, h3.1⟩
theorem half_less (h : half s x ts i false o) (hl : ltB s t.1) : half s x ts (i + 1) true (o ++ [(s, x), t]) := by
  obtain ⟨h1, h2, h3⟩ := h
  obtain ⟨e, d⟩ := drop_t hr ht
  refine ⟨by simp, by simp; omega, Or.inr ⟨rfl, ?_, fun u hu => List.lt_trans hl (d u hu)⟩⟩
  rcases h3 with ⟨_, h3⟩ | ⟨h3, _⟩
  · rw [h3, e, insP, if_pos (show bs s < bs t.1 from hl)]; simp
  · cases h3
theorem half_same (h : half s x ts i false o) (hl : ¬ ltB s t.1) (he : t.1 = s) : half s x ts (i + 1) true (o ++ [(s, W (t.2 + x))]) := by
  obtain ⟨h1, h2, h3⟩ := h
  obtain ⟨e, d⟩ := drop_t hr ht
  subst he
  refine ⟨by simp, by simp; omega, Or.inr ⟨rfl, ?_, d⟩⟩
  rcases h3 with ⟨_, h3⟩ | ⟨h3, _⟩
  · rw [h3, e, insP, if_neg (show ¬ bs t.1 < bs t.1 from hl), if_pos rfl]; simp
  · cases h3
theorem half_more (h : half s x ts i false o) (hl : ¬ ltB s t.1) (he : ¬ t.1 = s) : half s x ts (i + 1) false (o ++ [t]) := by
  obtain ⟨h1, h2, h3⟩ := h
  obtain ⟨e, d⟩ := drop_t hr ht
  refine ⟨by simp, by simp; omega, Or.inl ⟨rfl, ?_⟩⟩
  rcases h3 with ⟨_, h3⟩ | ⟨h3, _⟩
  · rw [h3, e, insP, if_neg (show ¬ bs s < bs t.1 from hl), if_neg he]; simp
  · cases h3
theorem half_put (h : half s x ts i true o) : ltB s t.1 ∧ half s x ts (i + 1) true (o ++ [t]) := by
  obtain ⟨h1, h2, h3⟩ := h
  obtain ⟨e, d⟩ := drop_t hr ht
  rcases h3 with ⟨h3, _⟩ | ⟨_, h3, h4⟩
  · cases h3
  · have hs := h4 t (by rw [e]; exact List.mem_cons_self)
    refine ⟨hs, by simp, by simp; omega, Or.inr ⟨rfl, by rw [h3, e]; simp, fun u hu => List.lt_trans hs (d u hu)⟩⟩
end
theorem half_end {s : ByteArray} {x : Int} {ts : List Tm} {i : Nat} {o : List Tm} {put : Bool} (hi : ts.length ≤ i) (h : half s x ts i put o) : insP s x ts = if put = true then o else o ++ [(s, x)] := by
  have e : ts.drop i = [] := List.drop_eq_nil_of_le hi
  obtain ⟨_, _, h3⟩ := h
  rw [e] at h3
  rcases h3 with ⟨rfl, h3⟩ | ⟨rfl, h3, _⟩
  · rw [h3]; rfl
  · rw [h3]; simp

end Go.Proofs.YtjgaebomcdkohaaGreatDoor.L25
