/- The walk of the law ElementRing. -/
import Derived.Test.YtdhpmkaggojgbaaDoorElemDivision
namespace Go.Proofs.YtdhpmkaggojgbaaDoor.ElemRing
set_option linter.unusedVariables false
open Go.RowKit Go.Proofs.YtdhpmkaggojgbaaDoor.ElemTable Go.Proofs.YtdhpmkaggojgbaaDoor.ElemFind Go.Proofs.YtdhpmkaggojgbaaDoor.ElemApply Go.Proofs.YtdhpmkaggojgbaaDoor.ElemValue Go.Proofs.YtdhpmkaggojgbaaDoor.ElemGives Go.Proofs.YtdhpmkaggojgbaaDoor.ElemOps Go.Proofs.YtdhpmkaggojgbaaDoor.ElemAwake Go.Proofs.YtdhpmkaggojgbaaDoor.ElemLaws Go.Proofs.YtdhpmkaggojgbaaDoor.ElemDivision

set_option maxRecDepth 100000 in
set_option maxHeartbeats 4000000 in
theorem ring_main (x y z s p u t v q a c d e : Int) (w : World) (ht : Tab w) (hx : -2147483648 ≤ x ∧ x ≤ 2147483647) (hy : -2147483648 ≤ y ∧ y ≤ 2147483647) (hz : -2147483648 ≤ z ∧ z ≤ 2147483647) (hp : -4611686018427387904 ≤ x * y ∧ x * y ≤ 4611686018427387904) (hs : wrap32 (x + y) = s) (hq : wrap32 (x * y) = p) (h1 : Hid (Op2 ⟨#[97, 100, 100]⟩ x y s)) (h2 : Hid (Op2 ⟨#[109, 117, 108]⟩ x y p)) (h3 : Hid (Op2 ⟨#[97, 100, 100]⟩ y x s)) (h4 : Hid (Op2 ⟨#[109, 117, 108]⟩ y x p)) (h5 : Hid (Op2 ⟨#[97, 100, 100]⟩ s z u)) (h6 : Hid (Op2 ⟨#[97, 100, 100]⟩ y z t)) (h7 : Hid (Op2 ⟨#[97, 100, 100]⟩ x t u)) (h8 : Hid (Op2 ⟨#[109, 117, 108]⟩ p z v)) (h9 : Hid (Op2 ⟨#[109, 117, 108]⟩ y z q)) (h10 : Hid (Op2 ⟨#[109, 117, 108]⟩ x q v)) (h11 : Hid (Op2 ⟨#[109, 117, 108]⟩ x t a)) (h12 : Hid (Op2 ⟨#[109, 117, 108]⟩ x z c)) (h13 : Hid (Op2 ⟨#[97, 100, 100]⟩ p c a)) (h14 : Hid (Op2 ⟨#[115, 117, 98]⟩ x y d)) (h15 : Hid (Op1 ⟨#[110, 101, 103]⟩ y e)) (h16 : Hid (Op2 ⟨#[97, 100, 100]⟩ x e d)) :
    Calls Tryd.prog 5 #[.int .i32 x, .int .i32 y, .int .i32 z] w fun e w' => e = .returned (.bool true) ∧ Below w.heap.size w w' := by
  have HT0 := Lib.hid ht
  obtain ⟨x1, x2⟩ := hx
  obtain ⟨y1, y2⟩ := hy
  obtain ⟨z1, z2⟩ := hz
  obtain ⟨p1, p2⟩ := hp
  have HW1 := Lib.hid (wrap_any (x + y))
  have HW2 := Lib.hid (wrap_any (x * y))
  rw [hs] at HW1
  rw [hq] at HW2
  clear hs hq
  go_enter Tryd.func5, Tryd.ntmps5
  go_wp2_with (fail)
  refine (awake_any _ ht).mono ?_
  rintro en w1 ⟨rfl, b1⟩
  have HB1 := Lib.hid b1
  have HT1 := Lib.hid (tab_below ht b1)
  clear b1 ht
  go_wp2_with (fail)
  refine (h1.out _ _ (tab_below HT1.out (by go_grown)) (by go_size) (by go_cell) (by go_cell)).mono ?_
  rintro en w2 ⟨rfl, b⟩
  have HB2 := Lib.hid (bt HB1.out (bt (by go_grown) b))
  have HT2 := Lib.hid (tab_below HT0.out HB2.out)
  clear b
  go_wp2_with (fail)
  refine (h2.out _ _ (tab_below HT2.out (by go_grown)) (by go_size) (by go_cell) (by go_cell)).mono ?_
  rintro en w3 ⟨rfl, b⟩
  have HB3 := Lib.hid (bt HB2.out (bt (by go_grown) b))
  have HT3 := Lib.hid (tab_below HT0.out HB3.out)
  clear b
  go_wp2_with (fail)
  refine (h3.out _ _ (tab_below HT3.out (by go_grown)) (by go_size) (by go_cell) (by go_cell)).mono ?_
  rintro en w4 ⟨rfl, b⟩
  have HB4 := Lib.hid (bt HB3.out (bt (by go_grown) b))
  have HT4 := Lib.hid (tab_below HT0.out HB4.out)
  clear b
  go_wp2_with (fail)
  refine (h4.out _ _ (tab_below HT4.out (by go_grown)) (by go_size) (by go_cell) (by go_cell)).mono ?_
  rintro en w5 ⟨rfl, b⟩
  have HB5 := Lib.hid (bt HB4.out (bt (by go_grown) b))
  have HT5 := Lib.hid (tab_below HT0.out HB5.out)
  clear b
  go_wp2_with (fail)
  refine (h5.out _ _ (tab_below HT5.out (by go_grown)) (by go_size) (by go_cell) (by go_cell)).mono ?_
  rintro en w6 ⟨rfl, b⟩
  have HB6 := Lib.hid (bt HB5.out (bt (by go_grown) b))
  have HT6 := Lib.hid (tab_below HT0.out HB6.out)
  clear b
  go_wp2_with (fail)
  refine (h6.out _ _ (tab_below HT6.out (by go_grown)) (by go_size) (by go_cell) (by go_cell)).mono ?_
  rintro en w7 ⟨rfl, b⟩
  have HB7 := Lib.hid (bt HB6.out (bt (by go_grown) b))
  have HT7 := Lib.hid (tab_below HT0.out HB7.out)
  clear b
  go_wp2_with (fail)
  refine (h7.out _ _ (tab_below HT7.out (by go_grown)) (by go_size) (by go_cell) (by go_cell)).mono ?_
  rintro en w8 ⟨rfl, b⟩
  have HB8 := Lib.hid (bt HB7.out (bt (by go_grown) b))
  have HT8 := Lib.hid (tab_below HT0.out HB8.out)
  clear b
  go_wp2_with (fail)
  refine (h8.out _ _ (tab_below HT8.out (by go_grown)) (by go_size) (by go_cell) (by go_cell)).mono ?_
  rintro en w9 ⟨rfl, b⟩
  have HB9 := Lib.hid (bt HB8.out (bt (by go_grown) b))
  have HT9 := Lib.hid (tab_below HT0.out HB9.out)
  clear b
  go_wp2_with (fail)
  refine (h9.out _ _ (tab_below HT9.out (by go_grown)) (by go_size) (by go_cell) (by go_cell)).mono ?_
  rintro en w10 ⟨rfl, b⟩
  have HB10 := Lib.hid (bt HB9.out (bt (by go_grown) b))
  have HT10 := Lib.hid (tab_below HT0.out HB10.out)
  clear b
  go_wp2_with (fail)
  refine (h10.out _ _ (tab_below HT10.out (by go_grown)) (by go_size) (by go_cell) (by go_cell)).mono ?_
  rintro en w11 ⟨rfl, b⟩
  have HB11 := Lib.hid (bt HB10.out (bt (by go_grown) b))
  have HT11 := Lib.hid (tab_below HT0.out HB11.out)
  clear b
  go_wp2_with (fail)
  refine (h6.out _ _ (tab_below HT11.out (by go_grown)) (by go_size) (by go_cell) (by go_cell)).mono ?_
  rintro en w12 ⟨rfl, b⟩
  have HB12 := Lib.hid (bt HB11.out (bt (by go_grown) b))
  have HT12 := Lib.hid (tab_below HT0.out HB12.out)
  clear b
  go_wp2_with (fail)
  refine (h11.out _ _ (tab_below HT12.out (by go_grown)) (by go_size) (by go_cell) (by go_cell)).mono ?_
  rintro en w13 ⟨rfl, b⟩
  have HB13 := Lib.hid (bt HB12.out (bt (by go_grown) b))
  have HT13 := Lib.hid (tab_below HT0.out HB13.out)
  clear b
  go_wp2_with (fail)
  refine (h12.out _ _ (tab_below HT13.out (by go_grown)) (by go_size) (by go_cell) (by go_cell)).mono ?_
  rintro en w14 ⟨rfl, b⟩
  have HB14 := Lib.hid (bt HB13.out (bt (by go_grown) b))
  have HT14 := Lib.hid (tab_below HT0.out HB14.out)
  clear b
  go_wp2_with (fail)
  refine (h13.out _ _ (tab_below HT14.out (by go_grown)) (by go_size) (by go_cell) (by go_cell)).mono ?_
  rintro en w15 ⟨rfl, b⟩
  have HB15 := Lib.hid (bt HB14.out (bt (by go_grown) b))
  have HT15 := Lib.hid (tab_below HT0.out HB15.out)
  clear b
  go_wp2_with (fail)
  refine (h14.out _ _ (tab_below HT15.out (by go_grown)) (by go_size) (by go_cell) (by go_cell)).mono ?_
  rintro en w16 ⟨rfl, b⟩
  have HB16 := Lib.hid (bt HB15.out (bt (by go_grown) b))
  have HT16 := Lib.hid (tab_below HT0.out HB16.out)
  clear b
  go_wp2_with (fail)
  refine (h15.out _ _ (tab_below HT16.out (by go_grown)) (by go_size) (by go_cell)).mono ?_
  rintro en w17 ⟨rfl, b⟩
  have HB17 := Lib.hid (bt HB16.out (bt (by go_grown) b))
  have HT17 := Lib.hid (tab_below HT0.out HB17.out)
  clear b
  go_wp2_with (fail)
  refine (h16.out _ _ (tab_below HT17.out (by go_grown)) (by go_size) (by go_cell) (by go_cell)).mono ?_
  rintro en w18 ⟨rfl, b⟩
  have HB18 := Lib.hid (bt HB17.out (bt (by go_grown) b))
  have HT18 := Lib.hid (tab_below HT0.out HB18.out)
  clear b
  go_wp2_with (fail)
  refine (HW1.out _).mono ?_
  rintro en w' ⟨rfl, rfl⟩
  go_wp2_with (fail)
  refine (HW2.out _).mono ?_
  rintro en w' ⟨rfl, rfl⟩
  go_wp2
  go_ret
  exact ⟨rfl, HB18.out⟩


theorem add_assoc' (x y z : Int) : wrap32 (wrap32 (x + y) + z) = wrap32 (x + wrap32 (y + z)) := by
  unfold wrap32; omega
theorem wrap_congr (a b k : Int) (h : a = b + 4294967296 * k) : wrap32 a = wrap32 b := by unfold wrap32; omega
theorem mul_assoc' (x y z : Int) : wrap32 (wrap32 (x * y) * z) = wrap32 (x * wrap32 (y * z)) := by
  obtain ⟨k, hk⟩ := wrap_is (x * y)
  obtain ⟨j, hj⟩ := wrap_is (y * z)
  rw [hk, hj]
  refine wrap_congr _ _ (k * z - x * j) ?_
  rw [Int.add_mul, Int.mul_add, Int.mul_assoc x y z, Int.mul_assoc 4294967296 k z, show x * (4294967296 * j) = 4294967296 * (x * j) by rw [Int.mul_left_comm], Int.mul_sub]
  omega
theorem distrib' (x y z : Int) : wrap32 (x * wrap32 (y + z)) = wrap32 (wrap32 (x * y) + wrap32 (x * z)) := by
  obtain ⟨k, hk⟩ := wrap_is (x * y)
  obtain ⟨j, hj⟩ := wrap_is (x * z)
  obtain ⟨i, hi⟩ := wrap_is (y + z)
  rw [hk, hj, hi]
  refine wrap_congr _ _ (x * i - k - j) ?_
  rw [Int.mul_add, Int.mul_add, show x * (4294967296 * i) = 4294967296 * (x * i) by rw [Int.mul_left_comm]]
  generalize x * y = a
  generalize x * z = b
  generalize x * i = c
  omega
theorem sub_neg' (x y : Int) : wrap32 (x - y) = wrap32 (x + wrap32 (-y)) := by
  unfold wrap32; omega

theorem law_ring (w : World) (ht : Tab w) (x : Int) (hx : (Lit.int .i32 x).wf = true) (y : Int) (hy : (Lit.int .i32 y).wf = true) (z : Int) (hz : (Lit.int .i32 z).wf = true) :
    Calls Tryd.prog 5 #[.int .i32 x, .int .i32 y, .int .i32 z] w fun e w' => e = .returned (.bool true) ∧ Below w.heap.size w w' := by
  have x' := i32_of hx
  have y' := i32_of hy
  have z' := i32_of hz
  refine ring_main x y z (wrap32 (x + y)) (wrap32 (x * y)) (wrap32 (x + wrap32 (y + z))) (wrap32 (y + z)) (wrap32 (x * wrap32 (y * z))) (wrap32 (y * z)) (wrap32 (wrap32 (x * y) + wrap32 (x * z))) (wrap32 (x * z)) (wrap32 (x + wrap32 (-y))) (wrap32 (-y)) w ht x' y' z' (prod_range x y x' y') rfl rfl
    (Lib.hid (op_add _ _ x' y')) (Lib.hid (op_mul _ _ x' y')) (Lib.hid (Int.add_comm x y ▸ op_add y x y' x')) (Lib.hid (Int.mul_comm x y ▸ op_mul y x y' x')) (Lib.hid (add_assoc' x y z ▸ op_add _ _ (wrap_in _) z')) (Lib.hid (op_add _ _ y' z')) (Lib.hid (op_add _ _ x' (wrap_in _)))
    (Lib.hid (mul_assoc' x y z ▸ op_mul _ _ (wrap_in _) z')) (Lib.hid (op_mul _ _ y' z')) (Lib.hid (op_mul _ _ x' (wrap_in _))) (Lib.hid (distrib' x y z ▸ op_mul _ _ x' (wrap_in _))) (Lib.hid (op_mul _ _ x' z')) (Lib.hid (op_add _ _ (wrap_in _) (wrap_in _))) (Lib.hid (sub_neg' x y ▸ op_sub _ _ x' y')) (Lib.hid (op_neg _ y')) (Lib.hid (op_add _ _ x' (wrap_in _)))

end Go.Proofs.YtdhpmkaggojgbaaDoor.ElemRing
