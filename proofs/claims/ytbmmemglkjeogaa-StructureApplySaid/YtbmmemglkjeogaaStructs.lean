/- Slices of structs of integers that came in as parameters. -/
import Derived.Test.YtbmmemglkjeogaaFields
import Derived.Test.YtbmmemglkjeogaaTexts
namespace Go.Proofs.Ytbmmemglkjeogaa
open Go.RowKit Go.WideShapes Go.ChangeShapes Go.ChangeMaps

/-- A slice of structs of n integers that lies below block B. -/
def LiesR (w : World) (k : IntKind) (n B : Nat) (A : Option Addr) (rows : List (List Int)) : Prop :=
  0 < rows.length → ∃ ad : Addr, A = some ad ∧ ad.block < B ∧ ∀ i, i < rows.length → ∀ j, j < n → w.cell? (ad.add (i * n + j)) = some (.int k ((rows.getD i []).getD j 0))

theorem LiesR.below {w w' : World} {k : IntKind} {n B : Nat} {A : Option Addr} {rows : List (List Int)} (h : LiesR w k n B A rows) (hb : Below B w w') : LiesR w' k n B A rows := fun h0 => by
  obtain ⟨ad, e, hlt, hc⟩ := h h0
  exact ⟨ad, e, hlt, fun i hi j hj => (hb.cell (by rw [block_add_of]; exact hlt)).trans (hc i hi j hj)⟩
theorem LiesR.more {w : World} {k : IntKind} {n B B' : Nat} {A : Option Addr} {rows : List (List Int)} (h : LiesR w k n B A rows) (hB : B ≤ B') : LiesR w k n B' A rows := fun h0 => by
  obtain ⟨ad, e, hlt, hc⟩ := h h0
  exact ⟨ad, e, Nat.lt_of_lt_of_le hlt hB, hc⟩
theorem LiesR.later {w w' : World} {k : IntKind} {n : Nat} {A : Option Addr} {rows : List (List Int)} (h : LiesR w k n w.heap.size A rows) (hb : Below w.heap.size w w') : LiesR w' k n w'.heap.size A rows := (h.below hb).more hb.size

section
variable {H : Type} {enc : TypeId × Value → H} {P : Program}

theorem pickRows {α : Type} {Q : Nat → α → Prop} : ∀ (n : Nat), (∀ i, i < n → ∃ x, Q i x) → ∃ l : List α, l.length = n ∧ ∀ (i : Nat) (h : i < l.length), Q i l[i]
  | 0, _ => ⟨[], rfl, fun i h => by simp at h⟩
  | n + 1, h => by
    obtain ⟨l, hl, hq⟩ := pickRows n (fun i hi => h i (by omega))
    obtain ⟨x, hx⟩ := h n (by omega)
    refine ⟨l ++ [x], by simp [hl], fun i hi => ?_⟩
    by_cases h1 : i < l.length
    · rw [List.getElem_append_left h1]; exact hq i h1
    · have h2 : i = l.length := by simp at hi; omega
      subst h2
      rw [List.getElem_append_right (Nat.le_refl _)]
      simp only [Nat.sub_self, List.getElem_cons_zero]
      rw [hl]; exact hx

end

end Go.Proofs.Ytbmmemglkjeogaa
