/- The walk of the law ElementOrder. -/
import Derived.Test.YtdhpmkaggojgbaaDoorElemDivision
namespace Go.Proofs.YtdhpmkaggojgbaaDoor.ElemOrder
set_option linter.unusedVariables false
open Go.RowKit Go.Proofs.YtdhpmkaggojgbaaDoor.ElemTable Go.Proofs.YtdhpmkaggojgbaaDoor.ElemFind Go.Proofs.YtdhpmkaggojgbaaDoor.ElemApply Go.Proofs.YtdhpmkaggojgbaaDoor.ElemValue Go.Proofs.YtdhpmkaggojgbaaDoor.ElemGives Go.Proofs.YtdhpmkaggojgbaaDoor.ElemOps Go.Proofs.YtdhpmkaggojgbaaDoor.ElemAwake Go.Proofs.YtdhpmkaggojgbaaDoor.ElemLaws Go.Proofs.YtdhpmkaggojgbaaDoor.ElemDivision

set_option maxRecDepth 100000 in
set_option maxHeartbeats 4000000 in
theorem order_main (x y z l g lt eq gt le ge ne u t v q sg ab sm : Int) (w : World) (ht : Tab w) (hx : -2147483648 ≤ x ∧ x ≤ 2147483647) (hy : -2147483648 ≤ y ∧ y ≤ 2147483647) (hz : -2147483648 ≤ z ∧ z ≤ 2147483647) (hc : (decide (x < y) = true ∧ lt = 1 ∧ eq = 0 ∧ gt = 0 ∧ le = 1 ∧ ge = 0 ∧ ne = 1) ∨ (decide (x < y) = false ∧ lt = 0 ∧ eq = 1 ∧ gt = 0 ∧ le = 1 ∧ ge = 1 ∧ ne = 0) ∨ (decide (x < y) = false ∧ lt = 0 ∧ eq = 0 ∧ gt = 1 ∧ le = 0 ∧ ge = 1 ∧ ne = 1)) (h1 : Hid (Op2 ⟨#[109, 105, 110]⟩ x y l)) (h2 : Hid (Op2 ⟨#[109, 97, 120]⟩ x y g)) (h3 : Hid (Op2 ⟨#[108, 116]⟩ x y lt)) (h4 : Hid (Op2 ⟨#[101, 113]⟩ x y eq)) (h5 : Hid (Op2 ⟨#[103, 116]⟩ x y gt)) (h6 : Hid (Op2 ⟨#[109, 105, 110]⟩ y x l)) (h7 : Hid (Op2 ⟨#[109, 97, 120]⟩ y x g)) (h8 : Hid (Op2 ⟨#[109, 105, 110]⟩ l z u)) (h9 : Hid (Op2 ⟨#[109, 105, 110]⟩ y z t)) (h10 : Hid (Op2 ⟨#[109, 105, 110]⟩ x t u)) (h11 : Hid (Op2 ⟨#[109, 97, 120]⟩ g z v)) (h12 : Hid (Op2 ⟨#[109, 97, 120]⟩ y z q)) (h13 : Hid (Op2 ⟨#[109, 97, 120]⟩ x q v)) (h14 : Hid (Op2 ⟨#[109, 105, 110]⟩ x g x)) (h15 : Hid (Op2 ⟨#[109, 97, 120]⟩ x l x)) (h16 : Hid (Op2 ⟨#[108, 101]⟩ x y le)) (h17 : Hid (Op2 ⟨#[103, 101]⟩ x y ge)) (h18 : Hid (Op2 ⟨#[110, 101]⟩ x y ne)) (h19 : Hid (Op1 ⟨#[115, 105, 103, 110]⟩ x sg)) (h20 : Hid (Op2 ⟨#[109, 117, 108]⟩ x sg ab)) (h21 : Hid (Op1 ⟨#[97, 98, 115]⟩ x ab)) (h22 : Hid (Op2 ⟨#[97, 100, 100]⟩ l g sm)) (h23 : Hid (Op2 ⟨#[97, 100, 100]⟩ x y sm)) :
    Calls Tryd.prog 7 #[.int .i32 x, .int .i32 y, .int .i32 z] w fun e w' => e = .returned (.bool true) ∧ Below w.heap.size w w' := by
  have HT0 := Lib.hid ht
  obtain ⟨x1, x2⟩ := hx
  obtain ⟨y1, y2⟩ := hy
  obtain ⟨z1, z2⟩ := hz
  rcases hc with ⟨hd, rfl, rfl, rfl, rfl, rfl, rfl⟩ | ⟨hd, rfl, rfl, rfl, rfl, rfl, rfl⟩ | ⟨hd, rfl, rfl, rfl, rfl, rfl, rfl⟩
  all_goals
    go_enter Tryd.func7, Tryd.ntmps7
    go_wp2_with (fail)
    refine (awake_any _ ht).mono ?_
    rintro en w1 ⟨rfl, b1⟩
    have HB1 := Lib.hid b1
    have HT1 := Lib.hid (tab_below ht b1)
    clear b1 ht
    go_wp2_with (fail)
    refine (h1.out _ _ (tab_below HT1.out (by go_grown)) (by go_size) (by go_cell) (by go_cell)).mono ?_
    rintro en w2 ⟨rfl, b⟩
    have HB2 := Lib.hid (bt HB1.out (bt (by go_grown) b))
    have HT2 := Lib.hid (tab_below HT0.out HB2.out)
    clear b
    go_wp2_with (fail)
    refine (h2.out _ _ (tab_below HT2.out (by go_grown)) (by go_size) (by go_cell) (by go_cell)).mono ?_
    rintro en w3 ⟨rfl, b⟩
    have HB3 := Lib.hid (bt HB2.out (bt (by go_grown) b))
    have HT3 := Lib.hid (tab_below HT0.out HB3.out)
    clear b
    go_wp2_with (fail)
    refine (h3.out _ _ (tab_below HT3.out (by go_grown)) (by go_size) (by go_cell) (by go_cell)).mono ?_
    rintro en w4 ⟨rfl, b⟩
    have HB4 := Lib.hid (bt HB3.out (bt (by go_grown) b))
    have HT4 := Lib.hid (tab_below HT0.out HB4.out)
    clear b
    go_wp2_with (fail)
    refine (h4.out _ _ (tab_below HT4.out (by go_grown)) (by go_size) (by go_cell) (by go_cell)).mono ?_
    rintro en w5 ⟨rfl, b⟩
    have HB5 := Lib.hid (bt HB4.out (bt (by go_grown) b))
    have HT5 := Lib.hid (tab_below HT0.out HB5.out)
    clear b
    go_wp2_with (fail)
    refine (h5.out _ _ (tab_below HT5.out (by go_grown)) (by go_size) (by go_cell) (by go_cell)).mono ?_
    rintro en w6 ⟨rfl, b⟩
    have HB6 := Lib.hid (bt HB5.out (bt (by go_grown) b))
    have HT6 := Lib.hid (tab_below HT0.out HB6.out)
    clear b
    go_wp2_with (fail)
    refine (h6.out _ _ (tab_below HT6.out (by go_grown)) (by go_size) (by go_cell) (by go_cell)).mono ?_
    rintro en w7 ⟨rfl, b⟩
    have HB7 := Lib.hid (bt HB6.out (bt (by go_grown) b))
    have HT7 := Lib.hid (tab_below HT0.out HB7.out)
    clear b
    go_wp2_with (fail)
    refine (h7.out _ _ (tab_below HT7.out (by go_grown)) (by go_size) (by go_cell) (by go_cell)).mono ?_
    rintro en w8 ⟨rfl, b⟩
    have HB8 := Lib.hid (bt HB7.out (bt (by go_grown) b))
    have HT8 := Lib.hid (tab_below HT0.out HB8.out)
    clear b
    go_wp2_with (fail)
    refine (h8.out _ _ (tab_below HT8.out (by go_grown)) (by go_size) (by go_cell) (by go_cell)).mono ?_
    rintro en w9 ⟨rfl, b⟩
    have HB9 := Lib.hid (bt HB8.out (bt (by go_grown) b))
    have HT9 := Lib.hid (tab_below HT0.out HB9.out)
    clear b
    go_wp2_with (fail)
    refine (h9.out _ _ (tab_below HT9.out (by go_grown)) (by go_size) (by go_cell) (by go_cell)).mono ?_
    rintro en w10 ⟨rfl, b⟩
    have HB10 := Lib.hid (bt HB9.out (bt (by go_grown) b))
    have HT10 := Lib.hid (tab_below HT0.out HB10.out)
    clear b
    go_wp2_with (fail)
    refine (h10.out _ _ (tab_below HT10.out (by go_grown)) (by go_size) (by go_cell) (by go_cell)).mono ?_
    rintro en w11 ⟨rfl, b⟩
    have HB11 := Lib.hid (bt HB10.out (bt (by go_grown) b))
    have HT11 := Lib.hid (tab_below HT0.out HB11.out)
    clear b
    go_wp2_with (fail)
    refine (h11.out _ _ (tab_below HT11.out (by go_grown)) (by go_size) (by go_cell) (by go_cell)).mono ?_
    rintro en w12 ⟨rfl, b⟩
    have HB12 := Lib.hid (bt HB11.out (bt (by go_grown) b))
    have HT12 := Lib.hid (tab_below HT0.out HB12.out)
    clear b
    go_wp2_with (fail)
    refine (h12.out _ _ (tab_below HT12.out (by go_grown)) (by go_size) (by go_cell) (by go_cell)).mono ?_
    rintro en w13 ⟨rfl, b⟩
    have HB13 := Lib.hid (bt HB12.out (bt (by go_grown) b))
    have HT13 := Lib.hid (tab_below HT0.out HB13.out)
    clear b
    go_wp2_with (fail)
    refine (h13.out _ _ (tab_below HT13.out (by go_grown)) (by go_size) (by go_cell) (by go_cell)).mono ?_
    rintro en w14 ⟨rfl, b⟩
    have HB14 := Lib.hid (bt HB13.out (bt (by go_grown) b))
    have HT14 := Lib.hid (tab_below HT0.out HB14.out)
    clear b
    go_wp2_with (fail)
    refine (h14.out _ _ (tab_below HT14.out (by go_grown)) (by go_size) (by go_cell) (by go_cell)).mono ?_
    rintro en w15 ⟨rfl, b⟩
    have HB15 := Lib.hid (bt HB14.out (bt (by go_grown) b))
    have HT15 := Lib.hid (tab_below HT0.out HB15.out)
    clear b
    go_wp2_with (fail)
    refine (h15.out _ _ (tab_below HT15.out (by go_grown)) (by go_size) (by go_cell) (by go_cell)).mono ?_
    rintro en w16 ⟨rfl, b⟩
    have HB16 := Lib.hid (bt HB15.out (bt (by go_grown) b))
    have HT16 := Lib.hid (tab_below HT0.out HB16.out)
    clear b
    go_wp2_with (fail)
    refine (h16.out _ _ (tab_below HT16.out (by go_grown)) (by go_size) (by go_cell) (by go_cell)).mono ?_
    rintro en w17 ⟨rfl, b⟩
    have HB17 := Lib.hid (bt HB16.out (bt (by go_grown) b))
    have HT17 := Lib.hid (tab_below HT0.out HB17.out)
    clear b
    go_wp2_with (fail)
    refine (h17.out _ _ (tab_below HT17.out (by go_grown)) (by go_size) (by go_cell) (by go_cell)).mono ?_
    rintro en w18 ⟨rfl, b⟩
    have HB18 := Lib.hid (bt HB17.out (bt (by go_grown) b))
    have HT18 := Lib.hid (tab_below HT0.out HB18.out)
    clear b
    go_wp2_with (fail)
    refine (h18.out _ _ (tab_below HT18.out (by go_grown)) (by go_size) (by go_cell) (by go_cell)).mono ?_
    rintro en w19 ⟨rfl, b⟩
    have HB19 := Lib.hid (bt HB18.out (bt (by go_grown) b))
    have HT19 := Lib.hid (tab_below HT0.out HB19.out)
    clear b
    go_wp2_with (fail)
    refine (h19.out _ _ (tab_below HT19.out (by go_grown)) (by go_size) (by go_cell)).mono ?_
    rintro en w20 ⟨rfl, b⟩
    have HB20 := Lib.hid (bt HB19.out (bt (by go_grown) b))
    have HT20 := Lib.hid (tab_below HT0.out HB20.out)
    clear b
    go_wp2_with (fail)
    refine (h20.out _ _ (tab_below HT20.out (by go_grown)) (by go_size) (by go_cell) (by go_cell)).mono ?_
    rintro en w21 ⟨rfl, b⟩
    have HB21 := Lib.hid (bt HB20.out (bt (by go_grown) b))
    have HT21 := Lib.hid (tab_below HT0.out HB21.out)
    clear b
    go_wp2_with (fail)
    refine (h21.out _ _ (tab_below HT21.out (by go_grown)) (by go_size) (by go_cell)).mono ?_
    rintro en w22 ⟨rfl, b⟩
    have HB22 := Lib.hid (bt HB21.out (bt (by go_grown) b))
    have HT22 := Lib.hid (tab_below HT0.out HB22.out)
    clear b
    go_wp2_with (fail)
    refine (h22.out _ _ (tab_below HT22.out (by go_grown)) (by go_size) (by go_cell) (by go_cell)).mono ?_
    rintro en w23 ⟨rfl, b⟩
    have HB23 := Lib.hid (bt HB22.out (bt (by go_grown) b))
    have HT23 := Lib.hid (tab_below HT0.out HB23.out)
    clear b
    go_wp2_with (fail)
    refine (h23.out _ _ (tab_below HT23.out (by go_grown)) (by go_size) (by go_cell) (by go_cell)).mono ?_
    rintro en w24 ⟨rfl, b⟩
    have HB24 := Lib.hid (bt HB23.out (bt (by go_grown) b))
    have HT24 := Lib.hid (tab_below HT0.out HB24.out)
    clear b
    go_wp2
    go_ret
    exact ⟨rfl, HB24.out⟩


end Go.Proofs.YtdhpmkaggojgbaaDoor.ElemOrder
