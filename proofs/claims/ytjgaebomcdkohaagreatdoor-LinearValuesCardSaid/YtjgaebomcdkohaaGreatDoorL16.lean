/- Linear expressions: their order. -/
import Derived.Test.YtjgaebomcdkohaaGreatDoorL6
import Derived.Sort.Walk0
namespace Go.Proofs.YtjgaebomcdkohaaGreatDoor.L16
open Go Go.Proofs.YtjgaebomcdkohaaGreatDoor.Eng Go.Proofs.YtjgaebomcdkohaaGreatDoor Go.RowKit Go.Proofs.YtjgaebomcdkohaaGreatDoor.L1 Go.Proofs.YtjgaebomcdkohaaGreatDoor.L2 Go.Proofs.YtjgaebomcdkohaaGreatDoor.L3 Go.Proofs.YtjgaebomcdkohaaGreatDoor.L4 Go.Proofs.YtjgaebomcdkohaaGreatDoor.L5 Go.Proofs.YtjgaebomcdkohaaGreatDoor.L6
set_option linter.unusedSimpArgs false
set_option linter.unusedVariables false
set_option linter.unusedSectionVars false
set_option maxRecDepth 100000

/-! Three-way comparisons. -/
structure Ordd {α : Type} (f : α → α → Int) : Prop where
  anti : ∀ a b, f b a = - f a b
  tr : ∀ a b c, f a b ≤ 0 → f b c ≤ 0 → f a c ≤ 0 ∧ ((f a b < 0 ∨ f b c < 0) → f a c < 0)
def orI (a b : Int) : Int := if a = 0 then b else a
theorem Ordd.zero {α : Type} {f : α → α → Int} (h : Ordd f) {a b c : α} (h1 : f a b = 0) (h2 : f b c = 0) : f a c = 0 := by
  have := (h.tr a b c (by omega) (by omega)).1
  have h3 := h.anti a b
  have h4 := h.anti b c
  have := (h.tr c b a (by omega) (by omega)).1
  have := h.anti a c
  omega
theorem Ordd.or {α : Type} {f g : α → α → Int} (hf : Ordd f) (hg : Ordd g) : Ordd fun a b => orI (f a b) (g a b) := by
  refine ⟨fun a b => ?_, fun a b c => ?_⟩
  · have h1 := hf.anti a b
    have h2 := hg.anti a b
    simp only [orI]
    split <;> split <;> omega
  · have h1 := hf.tr a b c
    have h2 := hg.tr a b c
    have h3 := hf.zero (a := a) (b := b) (c := c)
    simp only [orI]
    split <;> split <;> split <;> omega
def sgI (a b : Int) : Int := if a < b then -1 else if b < a then 1 else 0
theorem sgI_ord : Ordd sgI := ⟨fun a b => by unfold sgI; (repeat' split) <;> omega, fun a b c => by unfold sgI; (repeat' split) <;> omega⟩
def sgL (a b : List UInt8) : Int := if a < b then -1 else if b < a then 1 else 0
theorem sgL_cases (a b : List UInt8) : (a < b ∧ sgL a b = -1) ∨ (a = b ∧ sgL a b = 0) ∨ (b < a ∧ sgL a b = 1) := by
  unfold sgL
  by_cases h1 : a < b
  · exact Or.inl ⟨h1, if_pos h1⟩
  · by_cases h2 : b < a
    · exact Or.inr (Or.inr ⟨h2, by rw [if_neg h1, if_pos h2]⟩)
    · exact Or.inr (Or.inl ⟨List.le_antisymm (List.not_lt.1 h2) (List.not_lt.1 h1), by rw [if_neg h1, if_neg h2]⟩)
theorem sgL_lt {a b : List UInt8} (h : a < b) : sgL a b = -1 := if_pos h
theorem sgL_gt {a b : List UInt8} (h : b < a) : sgL a b = 1 := by
  have h1 : ¬ a < b := fun h' => List.lt_irrefl a (List.lt_trans h' h)
  unfold sgL
  rw [if_neg h1, if_pos h]
theorem sgL_self (a : List UInt8) : sgL a a = 0 := by
  unfold sgL
  rw [if_neg (List.lt_irrefl a), if_neg (List.lt_irrefl a)]
theorem sgL_ord : Ordd sgL := by
  refine ⟨fun a b => ?_, fun a b c h1 h2 => ?_⟩
  · rcases sgL_cases a b with ⟨h, e⟩ | ⟨rfl, e⟩ | ⟨h, e⟩
    · rw [e, sgL_gt h]; rfl
    · rw [e]; rfl
    · rw [e, sgL_lt h]
  · rcases sgL_cases a b with ⟨h, e⟩ | ⟨rfl, e⟩ | ⟨h, e⟩
    · rcases sgL_cases b c with ⟨h', e'⟩ | ⟨rfl, e'⟩ | ⟨h', e'⟩
      · rw [sgL_lt (List.lt_trans h h')]; omega
      · omega
      · omega
    · omega
    · omega
def sgS (a b : ByteArray) : Int := sgL (bs a) (bs b)
def cmpC (s t : Tm) : Int := orI (sgS s.1 t.1) (sgI s.2 t.2)
def cmpT : List Tm → List Tm → Int
  | [], [] => 0
  | [], _ :: _ => -1
  | _ :: _, [] => 1
  | s :: r, t :: r' => orI (cmpC s t) (cmpT r r')
def cmpE (a b : Int × List Tm) : Int := orI (cmpT a.2 b.2) (sgI a.1 b.1)
theorem sgS_ord : Ordd sgS := ⟨fun a b => sgL_ord.anti (bs a) (bs b), fun a b c => sgL_ord.tr (bs a) (bs b) (bs c)⟩
theorem cmpC_ord : Ordd cmpC := Ordd.or (f := fun s t : Tm => sgS s.1 t.1) (g := fun s t : Tm => sgI s.2 t.2) ⟨fun a b => sgS_ord.anti _ _, fun a b c => sgS_ord.tr _ _ _⟩ ⟨fun a b => sgI_ord.anti _ _, fun a b c => sgI_ord.tr _ _ _⟩
theorem cmpT_anti : ∀ a b, cmpT b a = - cmpT a b
  | [], [] => rfl
  | [], _ :: _ => rfl
  | _ :: _, [] => rfl
  | s :: r, t :: r' => by
    have h1 := cmpC_ord.anti s t
    have h2 := cmpT_anti r r'
    simp only [cmpT, orI]
    split <;> split <;> omega
theorem cmpT_tr : ∀ a b c, cmpT a b ≤ 0 → cmpT b c ≤ 0 → cmpT a c ≤ 0 ∧ ((cmpT a b < 0 ∨ cmpT b c < 0) → cmpT a c < 0)
  | [], [], [] => by simp [cmpT]
  | [], [], _ :: _ => by simp [cmpT]
  | [], _ :: _, [] => by simp [cmpT]
  | [], _ :: _, _ :: _ => by simp [cmpT]
  | _ :: _, [], _ => by simp [cmpT]
  | _ :: _, _ :: _, [] => by simp [cmpT]
  | s :: r, t :: r', u :: r'' => by
    have h1 := cmpC_ord.tr s t u
    have h2 := cmpT_tr r r' r''
    have h3 := cmpC_ord.zero (a := s) (b := t) (c := u)
    simp only [cmpT, orI]
    split <;> split <;> split <;> omega
theorem cmpE_ord : Ordd cmpE := Ordd.or (f := fun a b : Int × List Tm => cmpT a.2 b.2) (g := fun a b : Int × List Tm => sgI a.1 b.1) ⟨fun a b => cmpT_anti _ _, fun a b c => cmpT_tr _ _ _⟩ ⟨fun a b => sgI_ord.anti _ _, fun a b c => sgI_ord.tr _ _ _⟩

theorem sgS_zero (a b : ByteArray) : (a.toList == b.toList) = decide (sgS a b = 0) := by
  simp only [ByteArray.toList_eq]
  unfold sgS
  rcases sgL_cases (bs a) (bs b) with ⟨h, e⟩ | ⟨h, e⟩ | ⟨h, e⟩
  · rw [e]
    have : ¬ bs a = bs b := fun h' => List.lt_irrefl (bs b) (h' ▸ h)
    simpa using this
  · rw [e]
    simpa using h
  · rw [e]
    have : ¬ bs a = bs b := fun h' => List.lt_irrefl (bs b) (by rw [h'] at h; exact h)
    simpa using this
theorem sgI_zero (a b : Int) : (a == b) = decide (sgI a b = 0) := by
  unfold sgI
  by_cases h1 : a < b
  · rw [if_pos h1]
    have : ¬ a = b := by omega
    simpa using this
  · rw [if_neg h1]
    by_cases h2 : b < a
    · rw [if_pos h2]
      have : ¬ a = b := by omega
      simpa using this
    · rw [if_neg h2]
      have : a = b := by omega
      simpa using this
theorem orI_zero (x y : Int) : decide (orI x y = 0) = (decide (x = 0) && decide (y = 0)) := by
  unfold orI
  by_cases h : x = 0
  · simp [h]
  · simp [h]
theorem cmpC_zero (s t : Tm) : (s.1.toList == t.1.toList && (s.2 == t.2 && true)) = decide (cmpC s t = 0) := by
  unfold cmpC
  rw [orI_zero, sgS_zero, sgI_zero, Bool.and_true]
theorem cmpT_zero : ∀ a b, eqT a b = decide (cmpT a b = 0)
  | [], [] => by simp [cmpT, eqT]
  | [], _ :: _ => by simp [cmpT, eqT]
  | _ :: _, [] => by simp [cmpT, eqT]
  | s :: r, t :: r' => by
    rw [eqT, cmpC_zero, cmpT_zero r r', cmpT, orI_zero]
theorem cmpE_zero (a b : Int × List Tm) : eqE a b = (cmpE a b == 0) := by
  unfold cmpE eqE
  rw [show (orI (cmpT a.2 b.2) (sgI a.1 b.1) == 0) = decide (orI (cmpT a.2 b.2) (sgI a.1 b.1) = 0) from rfl, orI_zero, cmpT_zero, sgI_zero, Bool.and_comm]

end Go.Proofs.YtjgaebomcdkohaaGreatDoor.L16
