/- What the law's 'apply' gives for each name. -/
import Derived.Test.YtdhpmkaggojgbaaDoorElemGives
namespace Go.Proofs.YtdhpmkaggojgbaaDoor.ElemOps
set_option linter.unusedVariables false
open Go.RowKit Go.Proofs.YtdhpmkaggojgbaaDoor.ElemTable Go.Proofs.YtdhpmkaggojgbaaDoor.ElemFind Go.Proofs.YtdhpmkaggojgbaaDoor.ElemApply Go.Proofs.YtdhpmkaggojgbaaDoor.ElemValue Go.Proofs.YtdhpmkaggojgbaaDoor.ElemGives

theorem finds (k : Nat) (op : ByteArray) (row : Array Value) (hk : k < 22) (h : (List.range k).all (fun i => !((str i 0).toList == op.toList)) = true) (he : ((str k 0).toList == op.toList) = true) (hr : ElemFind.rowAt k = .agg row) : Hid (Finds op row) := by
  refine Lib.hid fun w ht => ?_
  rw [← hr]
  refine find_at op k w ht hk (fun i hi => ?_) he
  have := List.all_eq_true.1 h i (by simpa using hi)
  simpa using this

/-- The law's 'apply' behind a good Apply. -/
theorem app_of (s : ByteArray) (A : Value) (v : Int) (w : World) (h : Hid (Calls Tryd.prog 11 #[.string s, A] w fun e w' => e = .returned (.tuple #[.int .i64 v, .bool true]) ∧ Below w.heap.size w w')) :
    Calls Tryd.prog 22 #[.string s, A] w fun e w' => e = .returned (.int .i64 v) ∧ Below w.heap.size w w' := by
  go_enter Tryd.func22, Tryd.ntmps22
  go_wp2_with (fail)
  refine h.out.mono ?_
  rintro e w1 ⟨rfl, b1⟩
  have B1 := Lib.hid b1
  go_wp2
  go_ret
  exact ⟨rfl, B1.out⟩

def Op1 (s : ByteArray) (x v : Int) : Prop := ∀ b w, Tab w → b < w.heap.size → w.cell? ⟨b, 0, none⟩ = some (.int .i64 x) →
  Calls Tryd.prog 22 #[.string s, .slice (some ⟨b, 0, none⟩) 1 1] w fun e w' => e = .returned (.int .i64 v) ∧ Below w.heap.size w w'
def Op2 (s : ByteArray) (x y v : Int) : Prop := ∀ b w, Tab w → b < w.heap.size → w.cell? ⟨b, 0, none⟩ = some (.int .i64 x) → w.cell? ⟨b, 1, none⟩ = some (.int .i64 y) →
  Calls Tryd.prog 22 #[.string s, .slice (some ⟨b, 0, none⟩) 2 2] w fun e w' => e = .returned (.int .i64 v) ∧ Below w.heap.size w w'
def Op3 (s : ByteArray) (x y z v : Int) : Prop := ∀ b w, Tab w → b < w.heap.size → w.cell? ⟨b, 0, none⟩ = some (.int .i64 x) → w.cell? ⟨b, 1, none⟩ = some (.int .i64 y) → w.cell? ⟨b, 2, none⟩ = some (.int .i64 z) →
  Calls Tryd.prog 22 #[.string s, .slice (some ⟨b, 0, none⟩) 3 3] w fun e w' => e = .returned (.int .i64 v) ∧ Below w.heap.size w w'

theorem b_i {n : Int} (h : isB n) : isI n := by unfold isB at h; unfold isI; omega
theorem finds_add : Hid (Finds ⟨#[97, 100, 100]⟩ #[.string ⟨#[97, 100, 100]⟩, .string ⟨#[105, 110, 116]⟩, .string ⟨#[105, 110, 116]⟩, .string ⟨#[]⟩, .string ⟨#[105, 110, 116]⟩]) := finds 0 _ _ (by decide) (by kernel_rfl) (by kernel_rfl) (by kernel_rfl)
theorem op_add (x y : Int) (hx : isI x) (hy : isI y) : Op2 ⟨#[97, 100, 100]⟩ x y (wrap32 (x + y)) := by
  intro b w ht hb h0 h1
  refine app_of _ _ _ w (Lib.hid (apply_ii _ _ x y _ b w ht finds_add (Lib.hid ?_) hx hy hb h0 h1))
  exact gives_add x y _ hx hy
theorem finds_sub : Hid (Finds ⟨#[115, 117, 98]⟩ #[.string ⟨#[115, 117, 98]⟩, .string ⟨#[105, 110, 116]⟩, .string ⟨#[105, 110, 116]⟩, .string ⟨#[]⟩, .string ⟨#[105, 110, 116]⟩]) := finds 1 _ _ (by decide) (by kernel_rfl) (by kernel_rfl) (by kernel_rfl)
theorem op_sub (x y : Int) (hx : isI x) (hy : isI y) : Op2 ⟨#[115, 117, 98]⟩ x y (wrap32 (x - y)) := by
  intro b w ht hb h0 h1
  refine app_of _ _ _ w (Lib.hid (apply_ii _ _ x y _ b w ht finds_sub (Lib.hid ?_) hx hy hb h0 h1))
  exact gives_sub x y _ hx hy
theorem finds_mul : Hid (Finds ⟨#[109, 117, 108]⟩ #[.string ⟨#[109, 117, 108]⟩, .string ⟨#[105, 110, 116]⟩, .string ⟨#[105, 110, 116]⟩, .string ⟨#[]⟩, .string ⟨#[105, 110, 116]⟩]) := finds 2 _ _ (by decide) (by kernel_rfl) (by kernel_rfl) (by kernel_rfl)
theorem op_mul (x y : Int) (hx : isI x) (hy : isI y) : Op2 ⟨#[109, 117, 108]⟩ x y (wrap32 (x * y)) := by
  intro b w ht hb h0 h1
  refine app_of _ _ _ w (Lib.hid (apply_ii _ _ x y _ b w ht finds_mul (Lib.hid ?_) hx hy hb h0 h1))
  exact gives_mul x y _ hx hy
theorem finds_div : Hid (Finds ⟨#[100, 105, 118]⟩ #[.string ⟨#[100, 105, 118]⟩, .string ⟨#[105, 110, 116]⟩, .string ⟨#[105, 110, 116]⟩, .string ⟨#[]⟩, .string ⟨#[105, 110, 116]⟩]) := finds 3 _ _ (by decide) (by kernel_rfl) (by kernel_rfl) (by kernel_rfl)
theorem op_div (x y : Int) (hx : isI x) (hy : isI y) : Op2 ⟨#[100, 105, 118]⟩ x y (wrap32 (quo x y)) := by
  intro b w ht hb h0 h1
  refine app_of _ _ _ w (Lib.hid (apply_ii _ _ x y _ b w ht finds_div (Lib.hid ?_) hx hy hb h0 h1))
  exact gives_div x y _ hx hy
theorem finds_mod : Hid (Finds ⟨#[109, 111, 100]⟩ #[.string ⟨#[109, 111, 100]⟩, .string ⟨#[105, 110, 116]⟩, .string ⟨#[105, 110, 116]⟩, .string ⟨#[]⟩, .string ⟨#[105, 110, 116]⟩]) := finds 4 _ _ (by decide) (by kernel_rfl) (by kernel_rfl) (by kernel_rfl)
theorem op_mod (x y : Int) (hx : isI x) (hy : isI y) : Op2 ⟨#[109, 111, 100]⟩ x y ((if y = 0 then 0 else x - y * quo x y)) := by
  intro b w ht hb h0 h1
  refine app_of _ _ _ w (Lib.hid (apply_ii _ _ x y _ b w ht finds_mod (Lib.hid ?_) hx hy hb h0 h1))
  by_cases h : y = 0
  · subst h; rw [if_pos rfl]; exact gives_mod_zero x _
  · rw [if_neg h]; exact gives_mod x y _ hx hy (by omega)
theorem finds_min : Hid (Finds ⟨#[109, 105, 110]⟩ #[.string ⟨#[109, 105, 110]⟩, .string ⟨#[105, 110, 116]⟩, .string ⟨#[105, 110, 116]⟩, .string ⟨#[]⟩, .string ⟨#[105, 110, 116]⟩]) := finds 5 _ _ (by decide) (by kernel_rfl) (by kernel_rfl) (by kernel_rfl)
theorem op_min (x y : Int) (hx : isI x) (hy : isI y) : Op2 ⟨#[109, 105, 110]⟩ x y (min x y) := by
  intro b w ht hb h0 h1
  refine app_of _ _ _ w (Lib.hid (apply_ii _ _ x y _ b w ht finds_min (Lib.hid ?_) hx hy hb h0 h1))
  exact gives_min x y _ _ hx hy (by omega)
theorem finds_max : Hid (Finds ⟨#[109, 97, 120]⟩ #[.string ⟨#[109, 97, 120]⟩, .string ⟨#[105, 110, 116]⟩, .string ⟨#[105, 110, 116]⟩, .string ⟨#[]⟩, .string ⟨#[105, 110, 116]⟩]) := finds 6 _ _ (by decide) (by kernel_rfl) (by kernel_rfl) (by kernel_rfl)
theorem op_max (x y : Int) (hx : isI x) (hy : isI y) : Op2 ⟨#[109, 97, 120]⟩ x y (max x y) := by
  intro b w ht hb h0 h1
  refine app_of _ _ _ w (Lib.hid (apply_ii _ _ x y _ b w ht finds_max (Lib.hid ?_) hx hy hb h0 h1))
  exact gives_max x y _ _ hx hy (by omega)
theorem finds_neg : Hid (Finds ⟨#[110, 101, 103]⟩ #[.string ⟨#[110, 101, 103]⟩, .string ⟨#[105, 110, 116]⟩, .string ⟨#[]⟩, .string ⟨#[]⟩, .string ⟨#[105, 110, 116]⟩]) := finds 7 _ _ (by decide) (by kernel_rfl) (by kernel_rfl) (by kernel_rfl)
theorem op_neg (x : Int) (hx : isI x) : Op1 ⟨#[110, 101, 103]⟩ x (wrap32 (-x)) := by
  intro b w ht hb h0
  refine app_of _ _ _ w (Lib.hid (apply_i _ _ x _ b w ht finds_neg (Lib.hid ?_) hx hb h0))
  exact gives_neg x _ _ hx
theorem finds_abs : Hid (Finds ⟨#[97, 98, 115]⟩ #[.string ⟨#[97, 98, 115]⟩, .string ⟨#[105, 110, 116]⟩, .string ⟨#[]⟩, .string ⟨#[]⟩, .string ⟨#[105, 110, 116]⟩]) := finds 8 _ _ (by decide) (by kernel_rfl) (by kernel_rfl) (by kernel_rfl)
theorem op_abs (x : Int) (hx : isI x) : Op1 ⟨#[97, 98, 115]⟩ x (wrap32 (max x (-x))) := by
  intro b w ht hb h0
  refine app_of _ _ _ w (Lib.hid (apply_i _ _ x _ b w ht finds_abs (Lib.hid ?_) hx hb h0))
  exact gives_abs x _ _ _ hx (by omega)
theorem finds_sign : Hid (Finds ⟨#[115, 105, 103, 110]⟩ #[.string ⟨#[115, 105, 103, 110]⟩, .string ⟨#[105, 110, 116]⟩, .string ⟨#[]⟩, .string ⟨#[]⟩, .string ⟨#[105, 110, 116]⟩]) := finds 9 _ _ (by decide) (by kernel_rfl) (by kernel_rfl) (by kernel_rfl)
theorem op_sign (x : Int) (hx : isI x) : Op1 ⟨#[115, 105, 103, 110]⟩ x (x.sign) := by
  intro b w ht hb h0
  refine app_of _ _ _ w (Lib.hid (apply_i _ _ x _ b w ht finds_sign (Lib.hid ?_) hx hb h0))
  refine gives_sign x _ _ _ ?_
  rcases Int.lt_trichotomy x 0 with h | h | h
  · exact Or.inr (Or.inl ⟨h, Int.sign_eq_neg_one_of_neg h⟩)
  · subst h; exact Or.inr (Or.inr ⟨rfl, rfl⟩)
  · exact Or.inl ⟨h, Int.sign_eq_one_of_pos h⟩
theorem finds_lt : Hid (Finds ⟨#[108, 116]⟩ #[.string ⟨#[108, 116]⟩, .string ⟨#[105, 110, 116]⟩, .string ⟨#[105, 110, 116]⟩, .string ⟨#[]⟩, .string ⟨#[98, 111, 111, 108]⟩]) := finds 10 _ _ (by decide) (by kernel_rfl) (by kernel_rfl) (by kernel_rfl)
theorem op_lt (x y : Int) (hx : isI x) (hy : isI y) : Op2 ⟨#[108, 116]⟩ x y ((if decide (x < y) then 1 else 0)) := by
  intro b w ht hb h0 h1
  refine app_of _ _ _ w (Lib.hid (apply_ii _ _ x y _ b w ht finds_lt (Lib.hid ?_) hx hy hb h0 h1))
  exact gives_lt x y _ _ (truth_lt x y)
theorem finds_le : Hid (Finds ⟨#[108, 101]⟩ #[.string ⟨#[108, 101]⟩, .string ⟨#[105, 110, 116]⟩, .string ⟨#[105, 110, 116]⟩, .string ⟨#[]⟩, .string ⟨#[98, 111, 111, 108]⟩]) := finds 11 _ _ (by decide) (by kernel_rfl) (by kernel_rfl) (by kernel_rfl)
theorem op_le (x y : Int) (hx : isI x) (hy : isI y) : Op2 ⟨#[108, 101]⟩ x y ((if decide (x ≤ y) then 1 else 0)) := by
  intro b w ht hb h0 h1
  refine app_of _ _ _ w (Lib.hid (apply_ii _ _ x y _ b w ht finds_le (Lib.hid ?_) hx hy hb h0 h1))
  exact gives_le x y _ _ (truth_le x y)
theorem finds_gt : Hid (Finds ⟨#[103, 116]⟩ #[.string ⟨#[103, 116]⟩, .string ⟨#[105, 110, 116]⟩, .string ⟨#[105, 110, 116]⟩, .string ⟨#[]⟩, .string ⟨#[98, 111, 111, 108]⟩]) := finds 12 _ _ (by decide) (by kernel_rfl) (by kernel_rfl) (by kernel_rfl)
theorem op_gt (x y : Int) (hx : isI x) (hy : isI y) : Op2 ⟨#[103, 116]⟩ x y ((if decide (y < x) then 1 else 0)) := by
  intro b w ht hb h0 h1
  refine app_of _ _ _ w (Lib.hid (apply_ii _ _ x y _ b w ht finds_gt (Lib.hid ?_) hx hy hb h0 h1))
  exact gives_gt x y _ _ (truth_gt x y)
theorem finds_ge : Hid (Finds ⟨#[103, 101]⟩ #[.string ⟨#[103, 101]⟩, .string ⟨#[105, 110, 116]⟩, .string ⟨#[105, 110, 116]⟩, .string ⟨#[]⟩, .string ⟨#[98, 111, 111, 108]⟩]) := finds 13 _ _ (by decide) (by kernel_rfl) (by kernel_rfl) (by kernel_rfl)
theorem op_ge (x y : Int) (hx : isI x) (hy : isI y) : Op2 ⟨#[103, 101]⟩ x y ((if decide (y ≤ x) then 1 else 0)) := by
  intro b w ht hb h0 h1
  refine app_of _ _ _ w (Lib.hid (apply_ii _ _ x y _ b w ht finds_ge (Lib.hid ?_) hx hy hb h0 h1))
  exact gives_ge x y _ _ (truth_ge x y)
theorem finds_eq : Hid (Finds ⟨#[101, 113]⟩ #[.string ⟨#[101, 113]⟩, .string ⟨#[65]⟩, .string ⟨#[65]⟩, .string ⟨#[]⟩, .string ⟨#[98, 111, 111, 108]⟩]) := finds 14 _ _ (by decide) (by kernel_rfl) (by kernel_rfl) (by kernel_rfl)
theorem op_eq (x y : Int) (hx : isI x) (hy : isI y) : Op2 ⟨#[101, 113]⟩ x y ((if (x == y) then 1 else 0)) := by
  intro b w ht hb h0 h1
  refine app_of _ _ _ w (Lib.hid (apply_aa _ _ x y _ b w ht finds_eq (Lib.hid ?_) hx hy hb h0 h1))
  exact gives_eq x y _ _ (truth_eq x y)
theorem finds_ne : Hid (Finds ⟨#[110, 101]⟩ #[.string ⟨#[110, 101]⟩, .string ⟨#[65]⟩, .string ⟨#[65]⟩, .string ⟨#[]⟩, .string ⟨#[98, 111, 111, 108]⟩]) := finds 15 _ _ (by decide) (by kernel_rfl) (by kernel_rfl) (by kernel_rfl)
theorem op_ne (x y : Int) (hx : isI x) (hy : isI y) : Op2 ⟨#[110, 101]⟩ x y ((if (x != y) then 1 else 0)) := by
  intro b w ht hb h0 h1
  refine app_of _ _ _ w (Lib.hid (apply_aa _ _ x y _ b w ht finds_ne (Lib.hid ?_) hx hy hb h0 h1))
  exact gives_ne x y _ _ (truth_ne x y)
theorem finds_and : Hid (Finds ⟨#[97, 110, 100]⟩ #[.string ⟨#[97, 110, 100]⟩, .string ⟨#[98, 111, 111, 108]⟩, .string ⟨#[98, 111, 111, 108]⟩, .string ⟨#[]⟩, .string ⟨#[98, 111, 111, 108]⟩]) := finds 16 _ _ (by decide) (by kernel_rfl) (by kernel_rfl) (by kernel_rfl)
theorem op_and (x y : Int) (hx : isB x) (hy : isB y) : Op2 ⟨#[97, 110, 100]⟩ x y ((if (x == 1 && y == 1) then 1 else 0)) := by
  intro b w ht hb h0 h1
  refine app_of _ _ _ w (Lib.hid (apply_bb _ _ x y _ b w ht finds_and (Lib.hid ?_) hx hy hb h0 h1))
  exact gives_and x y _ _ (truth_and x y)
theorem finds_or : Hid (Finds ⟨#[111, 114]⟩ #[.string ⟨#[111, 114]⟩, .string ⟨#[98, 111, 111, 108]⟩, .string ⟨#[98, 111, 111, 108]⟩, .string ⟨#[]⟩, .string ⟨#[98, 111, 111, 108]⟩]) := finds 17 _ _ (by decide) (by kernel_rfl) (by kernel_rfl) (by kernel_rfl)
theorem op_or (x y : Int) (hx : isB x) (hy : isB y) : Op2 ⟨#[111, 114]⟩ x y ((if (x == 1 || y == 1) then 1 else 0)) := by
  intro b w ht hb h0 h1
  refine app_of _ _ _ w (Lib.hid (apply_bb _ _ x y _ b w ht finds_or (Lib.hid ?_) hx hy hb h0 h1))
  exact gives_or x y _ _ (truth_or x y)
theorem finds_xor : Hid (Finds ⟨#[120, 111, 114]⟩ #[.string ⟨#[120, 111, 114]⟩, .string ⟨#[98, 111, 111, 108]⟩, .string ⟨#[98, 111, 111, 108]⟩, .string ⟨#[]⟩, .string ⟨#[98, 111, 111, 108]⟩]) := finds 18 _ _ (by decide) (by kernel_rfl) (by kernel_rfl) (by kernel_rfl)
theorem op_xor (x y : Int) (hx : isB x) (hy : isB y) : Op2 ⟨#[120, 111, 114]⟩ x y ((if (x != y) then 1 else 0)) := by
  intro b w ht hb h0 h1
  refine app_of _ _ _ w (Lib.hid (apply_bb _ _ x y _ b w ht finds_xor (Lib.hid ?_) hx hy hb h0 h1))
  exact gives_xor x y _ _ (truth_xor x y)
theorem finds_not : Hid (Finds ⟨#[110, 111, 116]⟩ #[.string ⟨#[110, 111, 116]⟩, .string ⟨#[98, 111, 111, 108]⟩, .string ⟨#[]⟩, .string ⟨#[]⟩, .string ⟨#[98, 111, 111, 108]⟩]) := finds 19 _ _ (by decide) (by kernel_rfl) (by kernel_rfl) (by kernel_rfl)
theorem op_not (x : Int) (hx : isB x) : Op1 ⟨#[110, 111, 116]⟩ x ((if (x == 0) then 1 else 0)) := by
  intro b w ht hb h0
  refine app_of _ _ _ w (Lib.hid (apply_b _ _ x _ b w ht finds_not (Lib.hid ?_) hx hb h0))
  exact gives_not x 0 _ _ (truth_not x 0)
theorem finds_select : Hid (Finds ⟨#[115, 101, 108, 101, 99, 116]⟩ #[.string ⟨#[115, 101, 108, 101, 99, 116]⟩, .string ⟨#[98, 111, 111, 108]⟩, .string ⟨#[65]⟩, .string ⟨#[65]⟩, .string ⟨#[65]⟩]) := finds 20 _ _ (by decide) (by kernel_rfl) (by kernel_rfl) (by kernel_rfl)
theorem op_select (x y z v : Int) (hx : isB x) (hy : isI y) (hz : isI z) (h : (x = 1 ∧ v = y) ∨ (x = 0 ∧ v = z)) : Op3 ⟨#[115, 101, 108, 101, 99, 116]⟩ x y z v := by
  intro b w ht hb h0 h1 h2
  refine app_of _ _ _ w (Lib.hid (apply_baa _ _ x y z _ b w ht finds_select (Lib.hid ?_) hx hy hz hb h0 h1 h2))
  rcases h with ⟨rfl, rfl⟩ | ⟨rfl, rfl⟩
  · exact gives_select_1 _ _
  · exact gives_select_0 _ _
theorem finds_toint : Hid (Finds ⟨#[116, 111, 105, 110, 116]⟩ #[.string ⟨#[116, 111, 105, 110, 116]⟩, .string ⟨#[98, 111, 111, 108]⟩, .string ⟨#[]⟩, .string ⟨#[]⟩, .string ⟨#[105, 110, 116]⟩]) := finds 21 _ _ (by decide) (by kernel_rfl) (by kernel_rfl) (by kernel_rfl)
theorem op_toint (x : Int) (hx : isB x) : Op1 ⟨#[116, 111, 105, 110, 116]⟩ x (x) := by
  intro b w ht hb h0
  refine app_of _ _ _ w (Lib.hid (apply_b _ _ x _ b w ht finds_toint (Lib.hid ?_) hx hb h0))
  exact gives_toint x _ _

end Go.Proofs.YtdhpmkaggojgbaaDoor.ElemOps
