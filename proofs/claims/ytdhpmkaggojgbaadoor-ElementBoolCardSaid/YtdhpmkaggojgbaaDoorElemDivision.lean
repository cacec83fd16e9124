/- The walk of the law ElementDivision. -/
import Derived.Test.YtdhpmkaggojgbaaDoorElemLaws
namespace Go.Proofs.YtdhpmkaggojgbaaDoor.ElemDivision
set_option linter.unusedVariables false
open Go.RowKit Go.Proofs.YtdhpmkaggojgbaaDoor.ElemTable Go.Proofs.YtdhpmkaggojgbaaDoor.ElemFind Go.Proofs.YtdhpmkaggojgbaaDoor.ElemApply Go.Proofs.YtdhpmkaggojgbaaDoor.ElemValue Go.Proofs.YtdhpmkaggojgbaaDoor.ElemGives Go.Proofs.YtdhpmkaggojgbaaDoor.ElemOps Go.Proofs.YtdhpmkaggojgbaaDoor.ElemAwake Go.Proofs.YtdhpmkaggojgbaaDoor.ElemLaws

set_option maxRecDepth 100000 in
set_option maxHeartbeats 4000000 in
theorem division_zero (x : Int) (w : World) (ht : Tab w) (hx : -2147483648 ≤ x ∧ x ≤ 2147483647) (h1 : Hid (Op2 ⟨#[100, 105, 118]⟩ x 0 0)) (h2 : Hid (Op2 ⟨#[109, 111, 100]⟩ x 0 0)) :
    Calls Tryd.prog 6 #[.int .i32 x, .int .i32 0] w fun e w' => e = .returned (.bool true) ∧ Below w.heap.size w w' := by
  have HT0 := Lib.hid ht
  obtain ⟨x1, x2⟩ := hx
  go_enter Tryd.func6, Tryd.ntmps6
  go_wp2_with (fail)
  refine (awake_any _ ht).mono ?_
  rintro e w1 ⟨rfl, b1⟩
  have HB1 := Lib.hid b1
  have HT1 := Lib.hid (tab_below ht b1)
  clear b1 ht
  go_wp2_with (fail)
  refine (h1.out _ _ (tab_below HT1.out (by go_grown)) (by go_size) (by go_cell) (by go_cell)).mono ?_
  rintro e w2 ⟨rfl, b⟩
  have HB2 := Lib.hid (bt HB1.out (bt (by go_grown) b))
  have HT2 := Lib.hid (tab_below HT0.out HB2.out)
  clear b
  go_wp2_with (fail)
  refine (h2.out _ _ (tab_below HT2.out (by go_grown)) (by go_size) (by go_cell) (by go_cell)).mono ?_
  rintro e w3 ⟨rfl, b⟩
  have HB3 := Lib.hid (bt HB2.out (bt (by go_grown) b))
  have HT3 := Lib.hid (tab_below HT0.out HB3.out)
  clear b
  go_wp2
  go_ret
  exact ⟨rfl, HB3.out⟩

set_option maxRecDepth 100000 in
set_option maxHeartbeats 4000000 in
theorem division_pos (x y q r m : Int) (w : World) (ht : Tab w) (hy : 0 < y ∧ y ≤ 2147483647) (hr : 0 ≤ r ∧ r < y) (hx : -2147483648 ≤ x ∧ x ≤ 2147483647) (h1 : Hid (Op2 ⟨#[100, 105, 118]⟩ x y q)) (h2 : Hid (Op2 ⟨#[109, 111, 100]⟩ x y r)) (h3 : Hid (Op2 ⟨#[109, 117, 108]⟩ y q m)) (h4 : Hid (Op2 ⟨#[97, 100, 100]⟩ m r x)) :
    Calls Tryd.prog 6 #[.int .i32 x, .int .i32 y] w fun e w' => e = .returned (.bool true) ∧ Below w.heap.size w w' := by
  have HT0 := Lib.hid ht
  obtain ⟨y1, y2⟩ := hy
  obtain ⟨r1, r2⟩ := hr
  obtain ⟨x1, x2⟩ := hx
  have hy0 : (y == 0) = false := beq_eq_false_iff_ne.2 (by omega)
  go_enter Tryd.func6, Tryd.ntmps6
  go_wp2_with (fail)
  refine (awake_any _ ht).mono ?_
  rintro e w1 ⟨rfl, b1⟩
  have HB1 := Lib.hid b1
  have HT1 := Lib.hid (tab_below ht b1)
  clear b1 ht
  go_wp2_with (fail)
  refine (h1.out _ _ (tab_below HT1.out (by go_grown)) (by go_size) (by go_cell) (by go_cell)).mono ?_
  rintro e w2 ⟨rfl, b⟩
  have HB2 := Lib.hid (bt HB1.out (bt (by go_grown) b))
  have HT2 := Lib.hid (tab_below HT0.out HB2.out)
  clear b
  go_wp2_with (fail)
  refine (h2.out _ _ (tab_below HT2.out (by go_grown)) (by go_size) (by go_cell) (by go_cell)).mono ?_
  rintro e w3 ⟨rfl, b⟩
  have HB3 := Lib.hid (bt HB2.out (bt (by go_grown) b))
  have HT3 := Lib.hid (tab_below HT0.out HB3.out)
  clear b
  go_wp2_with (fail)
  refine (h3.out _ _ (tab_below HT3.out (by go_grown)) (by go_size) (by go_cell) (by go_cell)).mono ?_
  rintro e w4 ⟨rfl, b⟩
  have HB4 := Lib.hid (bt HB3.out (bt (by go_grown) b))
  have HT4 := Lib.hid (tab_below HT0.out HB4.out)
  clear b
  go_wp2_with (fail)
  refine (h4.out _ _ (tab_below HT4.out (by go_grown)) (by go_size) (by go_cell) (by go_cell)).mono ?_
  rintro e w5 ⟨rfl, b⟩
  have HB5 := Lib.hid (bt HB4.out (bt (by go_grown) b))
  have HT5 := Lib.hid (tab_below HT0.out HB5.out)
  clear b
  go_wp2
  go_ret
  exact ⟨rfl, HB5.out⟩

set_option maxRecDepth 100000 in
set_option maxHeartbeats 4000000 in
theorem division_neg (x y q r m : Int) (w : World) (ht : Tab w) (hy : y < 0 ∧ -2147483648 ≤ y) (hr : r ≤ 0 ∧ y < r) (hx : -2147483648 ≤ x ∧ x ≤ 2147483647) (h1 : Hid (Op2 ⟨#[100, 105, 118]⟩ x y q)) (h2 : Hid (Op2 ⟨#[109, 111, 100]⟩ x y r)) (h3 : Hid (Op2 ⟨#[109, 117, 108]⟩ y q m)) (h4 : Hid (Op2 ⟨#[97, 100, 100]⟩ m r x)) :
    Calls Tryd.prog 6 #[.int .i32 x, .int .i32 y] w fun e w' => e = .returned (.bool true) ∧ Below w.heap.size w w' := by
  have HT0 := Lib.hid ht
  obtain ⟨y1, y2⟩ := hy
  obtain ⟨r1, r2⟩ := hr
  obtain ⟨x1, x2⟩ := hx
  have hy0 : (y == 0) = false := beq_eq_false_iff_ne.2 (by omega)
  go_enter Tryd.func6, Tryd.ntmps6
  go_wp2_with (fail)
  refine (awake_any _ ht).mono ?_
  rintro e w1 ⟨rfl, b1⟩
  have HB1 := Lib.hid b1
  have HT1 := Lib.hid (tab_below ht b1)
  clear b1 ht
  go_wp2_with (fail)
  refine (h1.out _ _ (tab_below HT1.out (by go_grown)) (by go_size) (by go_cell) (by go_cell)).mono ?_
  rintro e w2 ⟨rfl, b⟩
  have HB2 := Lib.hid (bt HB1.out (bt (by go_grown) b))
  have HT2 := Lib.hid (tab_below HT0.out HB2.out)
  clear b
  go_wp2_with (fail)
  refine (h2.out _ _ (tab_below HT2.out (by go_grown)) (by go_size) (by go_cell) (by go_cell)).mono ?_
  rintro e w3 ⟨rfl, b⟩
  have HB3 := Lib.hid (bt HB2.out (bt (by go_grown) b))
  have HT3 := Lib.hid (tab_below HT0.out HB3.out)
  clear b
  go_wp2_with (fail)
  refine (h3.out _ _ (tab_below HT3.out (by go_grown)) (by go_size) (by go_cell) (by go_cell)).mono ?_
  rintro e w4 ⟨rfl, b⟩
  have HB4 := Lib.hid (bt HB3.out (bt (by go_grown) b))
  have HT4 := Lib.hid (tab_below HT0.out HB4.out)
  clear b
  go_wp2_with (fail)
  refine (h4.out _ _ (tab_below HT4.out (by go_grown)) (by go_size) (by go_cell) (by go_cell)).mono ?_
  rintro e w5 ⟨rfl, b⟩
  have HB5 := Lib.hid (bt HB4.out (bt (by go_grown) b))
  have HT5 := Lib.hid (tab_below HT0.out HB5.out)
  clear b
  go_wp2
  go_ret
  exact ⟨rfl, HB5.out⟩

/-- A wrapped number differs by a multiple of 2^32. -/
theorem wrap_is (n : Int) : ∃ k, wrap32 n = n + 4294967296 * k := by
  refine ⟨(wrap32 n - n) / 4294967296, ?_⟩
  unfold wrap32
  omega
theorem wrap_of {n m k : Int} (hm : isI m) (h : n = m + 4294967296 * k) : wrap32 n = m := by
  unfold isI at hm
  unfold wrap32
  omega

theorem i32_of {n : Int} (h : (Lit.int .i32 n).wf = true) : isI n := by unfold isI; simpa [Lit.wf, IntKind.min, IntKind.max, IntKind.signed, IntKind.bits] using h

theorem quo_pos (x y : Int) (hy : 0 < y) : 0 ≤ x - y * quo x y ∧ x - y * quo x y < y := by
  have e := Int.mul_tdiv_add_tmod x y
  have l := Int.tmod_lt_of_pos x hy
  have g : -y < x.tmod y := by
    have := Int.tmod_lt_of_pos (-x) hy
    rw [Int.neg_tmod] at this
    omega
  have s1 : 0 ≤ x → 0 ≤ x.tmod y := fun h => Int.tmod_nonneg y h
  have s2 : x < 0 → x.tmod y ≤ 0 := fun h => by
    have := Int.tmod_nonneg y (a := -x) (by omega)
    rw [Int.neg_tmod] at this
    omega
  unfold quo
  rw [if_neg (by omega)]
  split
  · rename_i h
    rw [Int.mul_sub]
    have : x < 0 := by
      rcases h with ⟨_, h⟩
      rcases Int.lt_or_le x 0 with hx | hx
      · exact hx
      · exact absurd (by simp [show ¬ x < 0 by omega, show ¬ y < 0 by omega]) h
    have := s2 this
    omega
  · rename_i h
    by_cases hx : x < 0
    · have : x.tmod y = 0 := by
        by_cases h0 : x.tmod y = 0
        · exact h0
        · exact absurd ⟨h0, by simp [hx, show ¬ y < 0 by omega]⟩ h
      omega
    · have := s1 (by omega)
      omega

theorem quo_neg (x y : Int) (hy : y < 0) : x - y * quo x y ≤ 0 ∧ y < x - y * quo x y := by
  have e := Int.mul_tdiv_add_tmod x y
  have l := Int.tmod_lt_of_pos x (b := -y) (by omega)
  have g : -(-y) < x.tmod (-y) := by
    have := Int.tmod_lt_of_pos (-x) (b := -y) (by omega)
    rw [Int.neg_tmod] at this
    omega
  rw [Int.tmod_neg] at l g
  have s1 : 0 ≤ x → 0 ≤ x.tmod y := fun h => Int.tmod_nonneg y h
  have s2 : x < 0 → x.tmod y ≤ 0 := fun h => by
    have := Int.tmod_nonneg y (a := -x) (by omega)
    rw [Int.neg_tmod] at this
    omega
  unfold quo
  rw [if_neg (by omega)]
  split
  · rename_i h
    rw [Int.mul_sub]
    have : 0 ≤ x := by
      rcases h with ⟨_, h⟩
      rcases Int.lt_or_le x 0 with hx | hx
      · exact absurd (by simp [hx, hy]) h
      · exact hx
    have := s1 this
    omega
  · rename_i h
    by_cases hx : x < 0
    · have := s2 hx
      omega
    · have : x.tmod y = 0 := by
        by_cases h0 : x.tmod y = 0
        · exact h0
        · exact absurd ⟨h0, by simp [hx, hy]⟩ h
      omega

theorem division_sum (x y : Int) (hx : isI x) : wrap32 (wrap32 (y * wrap32 (quo x y)) + (x - y * quo x y)) = x := by
  obtain ⟨k, hk⟩ := wrap_is (quo x y)
  obtain ⟨j, hj⟩ := wrap_is (y * wrap32 (quo x y))
  refine wrap_of (k := j + y * k) hx ?_
  rw [hj, hk]
  rw [Int.mul_add, show y * (4294967296 * k) = 4294967296 * (y * k) by rw [Int.mul_left_comm]]
  generalize y * quo x y = a
  generalize y * k = b
  omega

theorem law_division (w : World) (ht : Tab w) (a : Int) (ha : (Lit.int .i32 a).wf = true) (b : Int) (hb : (Lit.int .i32 b).wf = true) :
    Calls Tryd.prog 6 #[.int .i32 a, .int .i32 b] w fun e w' => e = .returned (.bool true) ∧ Below w.heap.size w w' := by
  have ha' := i32_of ha
  have hb' := i32_of hb
  have hb'' := hb'
  have o1 := op_div a b ha' hb'
  have o2 := op_mod a b ha' hb'
  have hs := division_sum a b ha'
  by_cases h0 : b = 0
  · subst h0
    rw [if_pos rfl] at o2
    rw [show quo a 0 = 0 from if_pos rfl, show wrap32 0 = 0 by kernel_rfl] at o1
    exact division_zero a w ht ha' (Lib.hid o1) (Lib.hid o2)
  · rw [if_neg h0] at o2
    unfold isI at hb''
    have o3 := op_mul b (wrap32 (quo a b)) hb' (wrap_in _)
    rcases Int.lt_or_le b 0 with hn | hp
    · have hr := quo_neg a b hn
      have o4 := op_add (wrap32 (b * wrap32 (quo a b))) (a - b * quo a b) (wrap_in _) (by unfold isI; omega)
      rw [hs] at o4
      exact division_neg a b _ _ _ w ht ⟨hn, hb''.1⟩ hr ha' (Lib.hid o1) (Lib.hid o2) (Lib.hid o3) (Lib.hid o4)
    · have hr := quo_pos a b (by omega)
      have o4 := op_add (wrap32 (b * wrap32 (quo a b))) (a - b * quo a b) (wrap_in _) (by unfold isI; omega)
      rw [hs] at o4
      exact division_pos a b _ _ _ w ht ⟨by omega, hb''.2⟩ hr ha' (Lib.hid o1) (Lib.hid o2) (Lib.hid o3) (Lib.hid o4)

end Go.Proofs.YtdhpmkaggojgbaaDoor.ElemDivision
