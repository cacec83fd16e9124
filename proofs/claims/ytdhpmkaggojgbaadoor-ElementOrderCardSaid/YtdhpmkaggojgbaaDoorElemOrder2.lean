/- The law ElementOrder. -/
import Derived.Test.YtdhpmkaggojgbaaDoorElemOrder
namespace Go.Proofs.YtdhpmkaggojgbaaDoor.ElemOrder2
set_option linter.unusedVariables false
open Go.RowKit Go.Proofs.YtdhpmkaggojgbaaDoor.ElemTable Go.Proofs.YtdhpmkaggojgbaaDoor.ElemFind Go.Proofs.YtdhpmkaggojgbaaDoor.ElemApply Go.Proofs.YtdhpmkaggojgbaaDoor.ElemValue Go.Proofs.YtdhpmkaggojgbaaDoor.ElemGives Go.Proofs.YtdhpmkaggojgbaaDoor.ElemOps Go.Proofs.YtdhpmkaggojgbaaDoor.ElemAwake Go.Proofs.YtdhpmkaggojgbaaDoor.ElemLaws Go.Proofs.YtdhpmkaggojgbaaDoor.ElemDivision Go.Proofs.YtdhpmkaggojgbaaDoor.ElemOrder


theorem sign_abs (x : Int) : x * x.sign = max x (-x) := by
  rcases Int.lt_trichotomy x 0 with h | h | h
  · rw [Int.sign_eq_neg_one_of_neg h]; omega
  · subst h; rfl
  · rw [Int.sign_eq_one_of_pos h]; omega
theorem sign_in (x : Int) : isI x.sign := by
  rcases Int.lt_trichotomy x 0 with h | h | h
  · rw [Int.sign_eq_neg_one_of_neg h]; unfold isI; omega
  · subst h; unfold isI; decide
  · rw [Int.sign_eq_one_of_pos h]; unfold isI; omega

theorem law_order (w : World) (ht : Tab w) (x : Int) (hx : (Lit.int .i32 x).wf = true) (y : Int) (hy : (Lit.int .i32 y).wf = true) (z : Int) (hz : (Lit.int .i32 z).wf = true) :
    Calls Tryd.prog 7 #[.int .i32 x, .int .i32 y, .int .i32 z] w fun e w' => e = .returned (.bool true) ∧ Below w.heap.size w w' := by
  have x' := i32_of hx
  have y' := i32_of hy
  have z' := i32_of hz
  have mn : ∀ a b : Int, isI a → isI b → isI (min a b) := fun a b h k => by unfold isI at *; omega
  have mx : ∀ a b : Int, isI a → isI b → isI (max a b) := fun a b h k => by unfold isI at *; omega
  have m1 := op_min x (max x y) x' (mx _ _ x' y')
  rw [show min x (max x y) = x by omega] at m1
  have m2 := op_max x (min x y) x' (mn _ _ x' y')
  rw [show max x (min x y) = x by omega] at m2
  have sa := op_mul x x.sign x' (sign_in x)
  rw [sign_abs] at sa
  refine order_main x y z (min x y) (max x y) (if decide (x < y) then 1 else 0) (if (x == y) then 1 else 0) (if decide (y < x) then 1 else 0) (if decide (x ≤ y) then 1 else 0) (if decide (y ≤ x) then 1 else 0) (if (x != y) then 1 else 0)
    (min x (min y z)) (min y z) (max x (max y z)) (max y z) x.sign (wrap32 (max x (-x))) (wrap32 (x + y)) w ht x' y' z' ?_
    (Lib.hid (op_min _ _ x' y')) (Lib.hid (op_max _ _ x' y')) (Lib.hid (op_lt _ _ x' y')) (Lib.hid (op_eq _ _ x' y')) (Lib.hid (op_gt _ _ x' y')) (Lib.hid (Int.min_comm x y ▸ op_min y x y' x')) (Lib.hid (Int.max_comm x y ▸ op_max y x y' x'))
    (Lib.hid (Int.min_assoc x y z ▸ op_min _ _ (mn _ _ x' y') z')) (Lib.hid (op_min _ _ y' z')) (Lib.hid (op_min _ _ x' (mn _ _ y' z'))) (Lib.hid (Int.max_assoc x y z ▸ op_max _ _ (mx _ _ x' y') z')) (Lib.hid (op_max _ _ y' z')) (Lib.hid (op_max _ _ x' (mx _ _ y' z')))
    (Lib.hid m1) (Lib.hid m2)
    (Lib.hid (op_le _ _ x' y')) (Lib.hid (op_ge _ _ x' y')) (Lib.hid (op_ne _ _ x' y')) (Lib.hid (op_sign _ x')) (Lib.hid sa) (Lib.hid (op_abs _ x')) (Lib.hid ((show min x y + max x y = x + y by omega) ▸ op_add (min x y) (max x y) (mn _ _ x' y') (mx _ _ x' y'))) (Lib.hid (op_add _ _ x' y'))
  rcases Int.lt_trichotomy x y with h | h | h
  · exact Or.inl ⟨by simp [h], by simp [h], by simp; omega, by simp; omega, by simp; omega, by simp; omega, by simp; omega⟩
  · subst h; exact Or.inr (Or.inl ⟨by simp, by simp, by simp, by simp, by simp, by simp, by simp⟩)
  · exact Or.inr (Or.inr ⟨by simp; omega, by simp; omega, by simp; omega, by simp [h], by simp; omega, by simp; omega, by simp; omega⟩)

end Go.Proofs.YtdhpmkaggojgbaaDoor.ElemOrder2
