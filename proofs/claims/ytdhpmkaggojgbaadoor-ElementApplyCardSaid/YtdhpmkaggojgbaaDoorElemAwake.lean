/- 'awake' holds wherever the table lies. -/
import Derived.Test.YtdhpmkaggojgbaaDoorElemOps
namespace Go.Proofs.YtdhpmkaggojgbaaDoor.ElemAwake
set_option linter.unusedVariables false
open Go.RowKit Go.Proofs.YtdhpmkaggojgbaaDoor.ElemTable Go.Proofs.YtdhpmkaggojgbaaDoor.ElemFind Go.Proofs.YtdhpmkaggojgbaaDoor.ElemApply Go.Proofs.YtdhpmkaggojgbaaDoor.ElemValue Go.Proofs.YtdhpmkaggojgbaaDoor.ElemGives Go.Proofs.YtdhpmkaggojgbaaDoor.ElemOps

theorem isI_of {n : Int} (h : -2147483648 ≤ n ∧ n ≤ 2147483647) : isI n := h
theorem ex_div : Hid (Op2 ⟨#[100, 105, 118]⟩ (-7) 2 (-4)) := Lib.hid ((show wrap32 (quo (-7) 2) = -4 by kernel_rfl) ▸ op_div (-7) 2 (isI_of (by decide)) (isI_of (by decide)))
theorem ex_mod : Hid (Op2 ⟨#[109, 111, 100]⟩ (-7) 2 1) := Lib.hid (op_mod (-7) 2 (isI_of (by decide)) (isI_of (by decide)))
theorem ex_mul : Hid (Op2 ⟨#[109, 117, 108]⟩ 65536 65536 0) := Lib.hid ((show wrap32 (65536 * 65536) = 0 by kernel_rfl) ▸ op_mul 65536 65536 (isI_of (by decide)) (isI_of (by decide)))
theorem ex_neg : Hid (Op1 ⟨#[110, 101, 103]⟩ (-2147483648) (-2147483648)) := Lib.hid (by have h := op_neg (-2147483648) (isI_of (by decide)); rwa [show wrap32 (- -2147483648) = -2147483648 by kernel_rfl] at h)

set_option maxRecDepth 100000 in
set_option maxHeartbeats 2000000 in
theorem awake_any (w : World) (ht : Tab w) : Calls Tryd.prog 10 #[] w fun e w' => e = .returned (.bool true) ∧ Below w.heap.size w w' := by
  have HT0 := Lib.hid ht
  have HB0 := Lib.hid (Below.refl w.heap.size w)
  have hwr : wrap32 2147483648 = -2147483648 := by kernel_rfl
  clear ht
  go_enter Tryd.func10, Tryd.ntmps10
  go_wp2_with (fail)
  refine (ex_div.out _ _ (tab_below HT0.out (by go_grown)) (by go_size) (by go_cell) (by go_cell)).mono ?_
  rintro e w1 ⟨rfl, b⟩
  have HB1 := Lib.hid (bt HB0.out (bt (by go_grown) b))
  have HT1 := Lib.hid (tab_below HT0.out HB1.out)
  clear b
  go_wp2_with (fail)
  refine (ex_mod.out _ _ (tab_below HT1.out (by go_grown)) (by go_size) (by go_cell) (by go_cell)).mono ?_
  rintro e w2 ⟨rfl, b⟩
  have HB2 := Lib.hid (bt HB1.out (bt (by go_grown) b))
  have HT2 := Lib.hid (tab_below HT0.out HB2.out)
  clear b
  go_wp2_with (fail)
  refine (ex_mul.out _ _ (tab_below HT2.out (by go_grown)) (by go_size) (by go_cell) (by go_cell)).mono ?_
  rintro e w3 ⟨rfl, b⟩
  have HB3 := Lib.hid (bt HB2.out (bt (by go_grown) b))
  have HT3 := Lib.hid (tab_below HT0.out HB3.out)
  clear b
  go_wp2_with (fail)
  refine (ex_neg.out _ _ (tab_below HT3.out (by go_grown)) (by go_size) (by go_cell)).mono ?_
  rintro e w4 ⟨rfl, b⟩
  have HB4 := Lib.hid (bt HB3.out (bt (by go_grown) b))
  have HT4 := Lib.hid (tab_below HT0.out HB4.out)
  clear b
  go_wp2_with (fail)
  refine (wrap_any _ _).mono ?_
  rintro e w5 ⟨rfl, rfl⟩
  go_wp2
  go_ret
  exact ⟨rfl, HB4.out⟩

end Go.Proofs.YtdhpmkaggojgbaaDoor.ElemAwake
