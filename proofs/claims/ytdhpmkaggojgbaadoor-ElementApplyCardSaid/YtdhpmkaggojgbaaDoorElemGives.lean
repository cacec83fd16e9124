/- What 'value' gives for each name. -/
import Derived.Test.YtdhpmkaggojgbaaDoorElemValue
namespace Go.Proofs.YtdhpmkaggojgbaaDoor.ElemGives
set_option linter.unusedVariables false
open Go.RowKit Go.Proofs.YtdhpmkaggojgbaaDoor.ElemTable Go.Proofs.YtdhpmkaggojgbaaDoor.ElemFind Go.Proofs.YtdhpmkaggojgbaaDoor.ElemApply Go.Proofs.YtdhpmkaggojgbaaDoor.ElemValue

set_option maxHeartbeats 1000000 in
theorem gives_add (x y z : Int) (hx : isI x) (hy : isI y) : Gives ⟨#[97, 100, 100]⟩ x y z (wrap32 (x + y)) := by
  intro w
  obtain ⟨x1, x2⟩ := hx
  obtain ⟨y1, y2⟩ := hy
  go_enter Tryd.func28, Tryd.ntmps28
  go_wp2_with (fail)
  refine (wrap_any _ _).mono ?_
  rintro e w' ⟨rfl, rfl⟩
  go_wp2
  go_ret
  exact ⟨rfl, rfl⟩

set_option maxHeartbeats 1000000 in
theorem gives_sub (x y z : Int) (hx : isI x) (hy : isI y) : Gives ⟨#[115, 117, 98]⟩ x y z (wrap32 (x - y)) := by
  intro w
  obtain ⟨x1, x2⟩ := hx
  obtain ⟨y1, y2⟩ := hy
  go_enter Tryd.func28, Tryd.ntmps28
  go_wp2_with (fail)
  refine (wrap_any _ _).mono ?_
  rintro e w' ⟨rfl, rfl⟩
  go_wp2
  go_ret
  exact ⟨rfl, rfl⟩

theorem prod_range (x y : Int) (hx : isI x) (hy : isI y) : -4611686018427387904 ≤ x * y ∧ x * y ≤ 4611686018427387904 := by
  obtain ⟨x1, x2⟩ := hx
  obtain ⟨y1, y2⟩ := hy
  have h : (x * y).natAbs ≤ 2147483648 * 2147483648 := by
    rw [Int.natAbs_mul]
    exact Nat.mul_le_mul (by omega) (by omega)
  omega
set_option maxHeartbeats 1000000 in
theorem gives_mul (x y z : Int) (hx : isI x) (hy : isI y) : Gives ⟨#[109, 117, 108]⟩ x y z (wrap32 (x * y)) := by
  intro w
  have hm := prod_range x y hx hy
  obtain ⟨m1, m2⟩ := hm
  go_enter Tryd.func28, Tryd.ntmps28
  go_wp2_with (fail)
  refine (wrap_any _ _).mono ?_
  rintro e w' ⟨rfl, rfl⟩
  go_wp2
  go_ret
  exact ⟨rfl, rfl⟩

/-- 'quotient' on elements. -/
theorem quotient_any (x y : Int) (w : World) (hx : isI x) (hy : isI y) : Calls Tryd.prog 33 #[.int .i64 x, .int .i64 y] w fun e w' => e = .returned (.int .i64 (quo x y)) ∧ w = w' := by
  unfold quo
  by_cases h0 : y = 0
  · subst h0; rw [if_pos rfl]; exact quotient_zero x w
  rw [if_neg h0]
  have q1 : (x.tdiv y).natAbs ≤ x.natAbs := by rw [Int.natAbs_tdiv]; exact Nat.div_le_self _ _
  have hx' := hx
  obtain ⟨x1, x2⟩ := hx'
  have hs : (0 ≤ x → 0 ≤ x.tmod y) ∧ (x < 0 → x.tmod y ≤ 0) := by
    refine ⟨fun h => Int.tmod_nonneg y h, fun h => ?_⟩
    have := Int.tmod_nonneg y (a := -x) (by omega)
    rw [Int.neg_tmod] at this
    omega
  by_cases sx : x < 0 <;> by_cases sy : y < 0
  · rw [if_neg (by simp [sx, sy])]
    exact quotient_main x y _ _ _ w hx hy (by omega) (by omega) (Or.inr (Or.inl ⟨sx, sy, rfl, rfl, rfl, by have := hs.2 sx; omega⟩))
  · by_cases hr : x.tmod y = 0
    · rw [if_neg (by simp [hr])]
      exact quotient_main x y _ _ _ w hx hy (by omega) (by omega) (Or.inl ⟨sx, by omega, rfl, rfl, Or.inr ⟨hr, rfl⟩⟩)
    · rw [if_pos (by simp [hr, sx, sy])]
      exact quotient_main x y _ _ _ w hx hy (by omega) (by omega) (Or.inl ⟨sx, by omega, rfl, rfl, Or.inl ⟨by have := hs.2 sx; omega, rfl⟩⟩)
  · by_cases hr : x.tmod y = 0
    · rw [if_neg (by simp [hr])]
      exact quotient_main x y _ _ _ w hx hy (by omega) (by omega) (Or.inr (Or.inr (Or.inr ⟨by omega, sy, rfl, rfl, Or.inr ⟨hr, rfl⟩⟩)))
    · rw [if_pos (by simp [hr, sx, sy])]
      exact quotient_main x y _ _ _ w hx hy (by omega) (by omega) (Or.inr (Or.inr (Or.inr ⟨by omega, sy, rfl, rfl, Or.inl ⟨by have := hs.1 (by omega); omega, rfl⟩⟩)))
  · rw [if_neg (by simp [sx, sy])]
    exact quotient_main x y _ _ _ w hx hy (by omega) (by omega) (Or.inr (Or.inr (Or.inl ⟨by omega, by omega, (Int.tdiv_eq_ediv_of_nonneg (by omega)).symm, (Int.tmod_eq_emod_of_nonneg (by omega)).symm, rfl, by have := hs.1 (by omega); omega⟩)))

theorem quo_range (x y : Int) (hx : isI x) : -2147483649 ≤ quo x y ∧ quo x y ≤ 2147483648 := by
  have q1 : (x.tdiv y).natAbs ≤ x.natAbs := by rw [Int.natAbs_tdiv]; exact Nat.div_le_self _ _
  obtain ⟨x1, x2⟩ := hx
  unfold quo
  split
  · omega
  · split <;> omega
set_option maxHeartbeats 1000000 in
theorem gives_div (x y z : Int) (hx : isI x) (hy : isI y) : Gives ⟨#[100, 105, 118]⟩ x y z (wrap32 (quo x y)) := by
  intro w
  have HQ := Lib.hid (quotient_any x y · hx hy)
  have hr := quo_range x y hx
  obtain ⟨r1, r2⟩ := hr
  clear hx hy
  generalize quo x y = q at *
  go_enter Tryd.func28, Tryd.ntmps28
  go_wp2_with (fail)
  refine (HQ.out _).mono ?_
  rintro e w' ⟨rfl, rfl⟩
  go_wp2_with (fail)
  refine (wrap_any _ _).mono ?_
  rintro e w' ⟨rfl, rfl⟩
  go_wp2
  go_ret
  exact ⟨rfl, rfl⟩

theorem gives_mod_zero (x z : Int) : Gives ⟨#[109, 111, 100]⟩ x 0 z 0 := by
  intro w
  go_enter Tryd.func28, Tryd.ntmps28
  go_wp2
  go_ret
  exact ⟨rfl, rfl⟩

set_option maxHeartbeats 1000000 in
theorem gives_mod (x y z : Int) (hx : isI x) (hy : isI y) (h0 : y < 0 ∨ 0 < y) : Gives ⟨#[109, 111, 100]⟩ x y z (x - y * quo x y) := by
  intro w
  have HQ := Lib.hid (quotient_any x y · hx hy)
  have hr := quo_range x y hx
  have hx' := hx
  have hm : -4611686020574871552 ≤ y * quo x y ∧ y * quo x y ≤ 4611686020574871552 := by
    obtain ⟨y1, y2⟩ := hy
    have h : (y * quo x y).natAbs ≤ 2147483648 * 2147483649 := by
      rw [Int.natAbs_mul]
      exact Nat.mul_le_mul (by omega) (by omega)
    omega
  obtain ⟨x1, x2⟩ := hx'
  obtain ⟨r1, r2⟩ := hr
  obtain ⟨m1, m2⟩ := hm
  clear hx hy
  generalize hq : quo x y = q at *
  clear hq
  rcases h0 with h0 | h0
  all_goals
    go_enter Tryd.func28, Tryd.ntmps28
    go_wp2_with (fail)
    refine (HQ.out _).mono ?_
    rintro e w' ⟨rfl, rfl⟩
    go_wp2
    go_ret
    exact ⟨rfl, rfl⟩

set_option maxHeartbeats 1000000 in
theorem gives_min (x y z v : Int) (hx : isI x) (hy : isI y) (h : ((x < y ∧ v = x) ∨ (y < x ∧ v = y) ∨ (x = y ∧ v = x))) : Gives ⟨#[109, 105, 110]⟩ x y z v := by
  intro w
  obtain ⟨x1, x2⟩ := hx
  obtain ⟨y1, y2⟩ := hy
  rcases h with ⟨h, rfl⟩ | ⟨h, rfl⟩ | ⟨rfl, rfl⟩
  all_goals
    go_enter Tryd.func28, Tryd.ntmps28
    go_wp2
    go_ret
    exact ⟨rfl, rfl⟩

set_option maxHeartbeats 1000000 in
theorem gives_max (x y z v : Int) (hx : isI x) (hy : isI y) (h : ((y < x ∧ v = x) ∨ (x < y ∧ v = y) ∨ (x = y ∧ v = x))) : Gives ⟨#[109, 97, 120]⟩ x y z v := by
  intro w
  obtain ⟨x1, x2⟩ := hx
  obtain ⟨y1, y2⟩ := hy
  rcases h with ⟨h, rfl⟩ | ⟨h, rfl⟩ | ⟨rfl, rfl⟩
  all_goals
    go_enter Tryd.func28, Tryd.ntmps28
    go_wp2
    go_ret
    exact ⟨rfl, rfl⟩

set_option maxHeartbeats 1000000 in
theorem gives_neg (x y z : Int) (hx : isI x) : Gives ⟨#[110, 101, 103]⟩ x y z (wrap32 (-x)) := by
  intro w
  obtain ⟨x1, x2⟩ := hx
  go_enter Tryd.func28, Tryd.ntmps28
  go_wp2_with (fail)
  refine (wrap_any _ _).mono ?_
  rintro e w' ⟨rfl, rfl⟩
  go_wp2
  go_ret
  exact ⟨rfl, rfl⟩

set_option maxHeartbeats 1000000 in
theorem gives_abs (x y z v : Int) (hx : isI x) (h : ((0 < x ∧ v = x) ∨ (x < 0 ∧ v = -x) ∨ (x = 0 ∧ v = 0))) : Gives ⟨#[97, 98, 115]⟩ x y z (wrap32 v) := by
  intro w
  obtain ⟨x1, x2⟩ := hx
  rcases h with ⟨h, rfl⟩ | ⟨h, rfl⟩ | ⟨rfl, rfl⟩
  all_goals
    go_enter Tryd.func28, Tryd.ntmps28
    go_wp2_with (fail)
    refine (wrap_any _ _).mono ?_
    rintro e w' ⟨rfl, rfl⟩
    go_wp2
    go_ret
    exact ⟨rfl, rfl⟩

set_option maxHeartbeats 1000000 in
theorem gives_sign (x y z v : Int) (h : (0 < x ∧ v = 1) ∨ (x < 0 ∧ v = -1) ∨ (x = 0 ∧ v = 0)) : Gives ⟨#[115, 105, 103, 110]⟩ x y z v := by
  intro w
  rcases h with ⟨h, rfl⟩ | ⟨h, rfl⟩ | ⟨rfl, rfl⟩
  all_goals
    go_enter Tryd.func28, Tryd.ntmps28
    go_wp2_with (fail)
    refine (number_any _ _).mono ?_
    rintro e w' ⟨rfl, rfl⟩
    go_wp2_with (fail)
    refine (number_any _ _).mono ?_
    rintro e w' ⟨rfl, rfl⟩
    go_wp2
    go_ret
    exact ⟨rfl, rfl⟩

theorem gives_select_1 (y z : Int) : Gives ⟨#[115, 101, 108, 101, 99, 116]⟩ 1 y z y := by
  intro w
  go_enter Tryd.func28, Tryd.ntmps28
  go_wp2
  go_ret
  exact ⟨rfl, rfl⟩

theorem gives_select_0 (y z : Int) : Gives ⟨#[115, 101, 108, 101, 99, 116]⟩ 0 y z z := by
  intro w
  go_enter Tryd.func28, Tryd.ntmps28
  go_wp2
  go_ret
  exact ⟨rfl, rfl⟩

theorem gives_toint (x y z : Int) : Gives ⟨#[116, 111, 105, 110, 116]⟩ x y z x := by
  intro w
  go_enter Tryd.func28, Tryd.ntmps28
  go_wp2
  go_ret
  exact ⟨rfl, rfl⟩

set_option maxHeartbeats 1000000 in
theorem gives_lt (x y z : Int) (t : Bool) (h : Truth ⟨#[108, 116]⟩ x y t) : Gives ⟨#[108, 116]⟩ x y z (if t then 1 else 0) := by
  intro w
  have HT := Lib.hid h
  clear h
  cases t
  all_goals
    go_enter Tryd.func28, Tryd.ntmps28
    go_wp2_with (fail)
    refine (HT.out _).mono ?_
    rintro e w' ⟨rfl, rfl⟩
    go_wp2_with (fail)
    refine (number_any _ _).mono ?_
    rintro e w' ⟨rfl, rfl⟩
    go_wp2
    go_ret
    exact ⟨rfl, rfl⟩

set_option maxHeartbeats 1000000 in
theorem gives_le (x y z : Int) (t : Bool) (h : Truth ⟨#[108, 101]⟩ x y t) : Gives ⟨#[108, 101]⟩ x y z (if t then 1 else 0) := by
  intro w
  have HT := Lib.hid h
  clear h
  cases t
  all_goals
    go_enter Tryd.func28, Tryd.ntmps28
    go_wp2_with (fail)
    refine (HT.out _).mono ?_
    rintro e w' ⟨rfl, rfl⟩
    go_wp2_with (fail)
    refine (number_any _ _).mono ?_
    rintro e w' ⟨rfl, rfl⟩
    go_wp2
    go_ret
    exact ⟨rfl, rfl⟩

set_option maxHeartbeats 1000000 in
theorem gives_gt (x y z : Int) (t : Bool) (h : Truth ⟨#[103, 116]⟩ x y t) : Gives ⟨#[103, 116]⟩ x y z (if t then 1 else 0) := by
  intro w
  have HT := Lib.hid h
  clear h
  cases t
  all_goals
    go_enter Tryd.func28, Tryd.ntmps28
    go_wp2_with (fail)
    refine (HT.out _).mono ?_
    rintro e w' ⟨rfl, rfl⟩
    go_wp2_with (fail)
    refine (number_any _ _).mono ?_
    rintro e w' ⟨rfl, rfl⟩
    go_wp2
    go_ret
    exact ⟨rfl, rfl⟩

set_option maxHeartbeats 1000000 in
theorem gives_ge (x y z : Int) (t : Bool) (h : Truth ⟨#[103, 101]⟩ x y t) : Gives ⟨#[103, 101]⟩ x y z (if t then 1 else 0) := by
  intro w
  have HT := Lib.hid h
  clear h
  cases t
  all_goals
    go_enter Tryd.func28, Tryd.ntmps28
    go_wp2_with (fail)
    refine (HT.out _).mono ?_
    rintro e w' ⟨rfl, rfl⟩
    go_wp2_with (fail)
    refine (number_any _ _).mono ?_
    rintro e w' ⟨rfl, rfl⟩
    go_wp2
    go_ret
    exact ⟨rfl, rfl⟩

set_option maxHeartbeats 1000000 in
theorem gives_eq (x y z : Int) (t : Bool) (h : Truth ⟨#[101, 113]⟩ x y t) : Gives ⟨#[101, 113]⟩ x y z (if t then 1 else 0) := by
  intro w
  have HT := Lib.hid h
  clear h
  cases t
  all_goals
    go_enter Tryd.func28, Tryd.ntmps28
    go_wp2_with (fail)
    refine (HT.out _).mono ?_
    rintro e w' ⟨rfl, rfl⟩
    go_wp2_with (fail)
    refine (number_any _ _).mono ?_
    rintro e w' ⟨rfl, rfl⟩
    go_wp2
    go_ret
    exact ⟨rfl, rfl⟩

set_option maxHeartbeats 1000000 in
theorem gives_ne (x y z : Int) (t : Bool) (h : Truth ⟨#[110, 101]⟩ x y t) : Gives ⟨#[110, 101]⟩ x y z (if t then 1 else 0) := by
  intro w
  have HT := Lib.hid h
  clear h
  cases t
  all_goals
    go_enter Tryd.func28, Tryd.ntmps28
    go_wp2_with (fail)
    refine (HT.out _).mono ?_
    rintro e w' ⟨rfl, rfl⟩
    go_wp2_with (fail)
    refine (number_any _ _).mono ?_
    rintro e w' ⟨rfl, rfl⟩
    go_wp2
    go_ret
    exact ⟨rfl, rfl⟩

set_option maxHeartbeats 1000000 in
theorem gives_xor (x y z : Int) (t : Bool) (h : Truth ⟨#[120, 111, 114]⟩ x y t) : Gives ⟨#[120, 111, 114]⟩ x y z (if t then 1 else 0) := by
  intro w
  have HT := Lib.hid h
  clear h
  cases t
  all_goals
    go_enter Tryd.func28, Tryd.ntmps28
    go_wp2_with (fail)
    refine (HT.out _).mono ?_
    rintro e w' ⟨rfl, rfl⟩
    go_wp2_with (fail)
    refine (number_any _ _).mono ?_
    rintro e w' ⟨rfl, rfl⟩
    go_wp2
    go_ret
    exact ⟨rfl, rfl⟩

set_option maxHeartbeats 1000000 in
theorem gives_and (x y z : Int) (t : Bool) (h : Truth ⟨#[97, 110, 100]⟩ x y t) : Gives ⟨#[97, 110, 100]⟩ x y z (if t then 1 else 0) := by
  intro w
  have HT := Lib.hid h
  clear h
  cases t
  all_goals
    go_enter Tryd.func28, Tryd.ntmps28
    go_wp2_with (fail)
    refine (HT.out _).mono ?_
    rintro e w' ⟨rfl, rfl⟩
    go_wp2_with (fail)
    refine (number_any _ _).mono ?_
    rintro e w' ⟨rfl, rfl⟩
    go_wp2
    go_ret
    exact ⟨rfl, rfl⟩

set_option maxHeartbeats 1000000 in
theorem gives_or (x y z : Int) (t : Bool) (h : Truth ⟨#[111, 114]⟩ x y t) : Gives ⟨#[111, 114]⟩ x y z (if t then 1 else 0) := by
  intro w
  have HT := Lib.hid h
  clear h
  cases t
  all_goals
    go_enter Tryd.func28, Tryd.ntmps28
    go_wp2_with (fail)
    refine (HT.out _).mono ?_
    rintro e w' ⟨rfl, rfl⟩
    go_wp2_with (fail)
    refine (number_any _ _).mono ?_
    rintro e w' ⟨rfl, rfl⟩
    go_wp2
    go_ret
    exact ⟨rfl, rfl⟩

set_option maxHeartbeats 1000000 in
theorem gives_not (x y z : Int) (t : Bool) (h : Truth ⟨#[110, 111, 116]⟩ x y t) : Gives ⟨#[110, 111, 116]⟩ x y z (if t then 1 else 0) := by
  intro w
  have HT := Lib.hid h
  clear h
  cases t
  all_goals
    go_enter Tryd.func28, Tryd.ntmps28
    go_wp2_with (fail)
    refine (HT.out _).mono ?_
    rintro e w' ⟨rfl, rfl⟩
    go_wp2_with (fail)
    refine (number_any _ _).mono ?_
    rintro e w' ⟨rfl, rfl⟩
    go_wp2
    go_ret
    exact ⟨rfl, rfl⟩

end Go.Proofs.YtdhpmkaggojgbaaDoor.ElemGives
