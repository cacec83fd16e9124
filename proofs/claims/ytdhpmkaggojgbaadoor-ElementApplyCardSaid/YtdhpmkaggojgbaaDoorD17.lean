/- Functions of the program as functions of values. -/
import Derived.Test.YtdhpmkaggojgbaaDoorEngD
import Derived.Test.YtdhpmkaggojgbaaDoorTy
import Derived.Test.YtdhpmkaggojgbaaDoorBase
namespace Go.Proofs.YtdhpmkaggojgbaaDoor.D17
open Go Go.Proofs.YtdhpmkaggojgbaaDoor.Eng Go.Proofs.YtdhpmkaggojgbaaDoor Go.RowKit
set_option linter.unusedSimpArgs false
set_option linter.unusedVariables false
set_option linter.unusedSectionVars false
set_option maxRecDepth 100000

abbrev e_string (x : ByteArray) : List AV := [.c (.string x)]
abbrev e_int (x : Int) : List AV := [.c (.int .i64 x)]

def element_Wrap (a0 : Int) : Option Int :=
  some (IntKind.i64.wrap (IntKind.i32.wrap a0))
set_option maxHeartbeats 2000000 in
theorem element_Wrap_ok {a0 : Int} {r : Int} (hr : element_Wrap a0 = some r) : Meets Tryd.prog 23 [.c (.int .i64 a0)] (.c (.int .i64 r)) := by
  unfold element_Wrap at hr
  refine meetsV_of (X := true) Ty.mixed Tryd.func23 (by kernel_rfl) rfl (by kernel_rfl) (by simp) ?_; rw [Tryd.ntmps23, Tryd.results23]
  simp only [awp_reg, awp_seq, awp_ret, seqQ_n, awpOps_nil, awpOps_one, awpOp_is, isCallV, putK_is, updK_is, put_s, upd_s, slot_is, pureOp, apureO, astepO, convA_c, killT, aev, cv, cvc, elO_s, toD_c, notExit, resA_nil, resA_tmp, oneA_1, argT, isC, bsD, retV_is, Bool.false_eq_true, ↓reduceIte, Bool.true_and, true_and, reduceCtorEq, Ty.td3, Ty.td21]
  cases hr
  (try simp only [List.map_append, List.map_cons, List.map_nil, List.map_set, List.length_append, List.length_cons, List.length_nil, List.length_map, Nat.zero_add, List.map_take, List.map_drop]); (repeat' (first | with_reducible exact leV.refl _ | with_reducible exact leL.refl _ | with_reducible exact leE.refl _ | refine leL_cons _ _ _ _ ?_ ?_ | refine leV_agg _ _ ?_ | refine leV_tup _ _ ?_ | refine leV_dptr _ _ ?_ | refine leV_fn _ _ _ ?_ | exact leL_nil | exact leE_nil | (rw [leV_nil]; trivial) | (rw [leV_junk]; trivial) | refine leV_sl _ _ _ _ _ rfl ?_ | exact leV.refl _ | refine leE_app _ _ _ _ ?_ ?_ | refine leE_cons _ _ _ _ ?_ ?_ | exact leE.refl _ | (refine leV_eq _ _ ?_; simp; done) | rfl | (simp [mapV_nil]; done)))

def element_quotient (a0 : Int) (a1 : Int) : Option Int :=
  if (a1 == (0 : Int)) then
  some (0 : Int)
else
  iffO (decide (a1 ≠ 0))
    (iffO (decide (a1 ≠ 0))
      (if ((a0.tmod a1) != (0 : Int)) then
        if ((decide (a0 < (0 : Int))) == (decide (a1 < (0 : Int)))) then
          some (IntKind.i64.wrap (a0.tdiv a1))
        else
          some (IntKind.i64.wrap ((IntKind.i64.wrap (a0.tdiv a1)) - (1 : Int)))
      else
        some (IntKind.i64.wrap (a0.tdiv a1))))
set_option maxHeartbeats 2000000 in
theorem element_quotient_ok {a0 : Int} {a1 : Int} {r : Int} (hr : element_quotient a0 a1 = some r) : Meets Tryd.prog 33 [.c (.int .i64 a0), .c (.int .i64 a1)] (.c (.int .i64 r)) := by
  unfold element_quotient at hr
  refine meetsV_of (X := true) Ty.mixed Tryd.func33 (by kernel_rfl) rfl (by kernel_rfl) (by simp) ?_; rw [Tryd.ntmps33, Tryd.results33]
  cases h14 : (a1 == (0 : Int)) with
  | true =>
    simp only [h14, ↓reduceIte, Bool.false_eq_true] at hr
    simp only [awp_reg, awp_seq, awp_cond, awp_ret, seqQ_n, seqQ_r, awpOps_nil, awpOps_one, awpOp_is, putK_is, put_s, slot_is, pureOp, apureO, aev, cv, cvc, binK, elO_s, condA_t, toD_c, notExit, resA_nil, resA_tmp, oneA_1, argT, isC, bsD, retV_is, ↓reduceIte, Bool.true_and, true_and, reduceCtorEq, Nat.reduceEqDiff, Nat.zero_add, h14]
    cases hr
    (try simp only [List.map_append, List.map_cons, List.map_nil, List.map_set, List.length_append, List.length_cons, List.length_nil, List.length_map, Nat.zero_add, List.map_take, List.map_drop]); (repeat' (first | with_reducible exact leV.refl _ | with_reducible exact leL.refl _ | with_reducible exact leE.refl _ | refine leL_cons _ _ _ _ ?_ ?_ | refine leV_agg _ _ ?_ | refine leV_tup _ _ ?_ | refine leV_dptr _ _ ?_ | refine leV_fn _ _ _ ?_ | exact leL_nil | exact leE_nil | (rw [leV_nil]; trivial) | (rw [leV_junk]; trivial) | refine leV_sl _ _ _ _ _ rfl ?_ | exact leV.refl _ | refine leE_app _ _ _ _ ?_ ?_ | refine leE_cons _ _ _ _ ?_ ?_ | exact leE.refl _ | (refine leV_eq _ _ ?_; simp; done) | rfl | (simp [mapV_nil]; done)))
  | false =>
    simp only [h14, ↓reduceIte, Bool.false_eq_true] at hr
    obtain ⟨h15, r16⟩ := iffO_some hr
    clear hr
    simp only [Bool.and_eq_true, decide_eq_true_eq] at h15
    obtain ⟨h17, r18⟩ := iffO_some r16
    clear r16
    simp only [Bool.and_eq_true, decide_eq_true_eq] at h17
    cases h19 : ((a0.tmod a1) != (0 : Int)) with
    | true =>
      simp only [h19, ↓reduceIte, Bool.false_eq_true] at r18
      cases h20 : ((decide (a0 < (0 : Int))) == (decide (a1 < (0 : Int)))) with
      | true =>
        simp only [h20, ↓reduceIte, Bool.false_eq_true] at r18
        simp only [awp_skip, awp_reg, awp_seq, awp_cond, awp_ret, seqQ_n, awpOps_nil, awpOps_one, awpOps_if, awpOp_is, awpO_is, putK_is, put_s, slot_is, pureOp, apureO, aev, cv, cvc, binK, elO_s, yieldA, guardA_tt, condA_f, pickA_t, toD_c, notExit, resA_nil, resA_tmp, oneA_1, argT, isC, bsD, retV_is, ↓reduceIte, List.getElem?_cons_zero, List.getElem?_cons_succ, List.getElem?_toArray, Option.bind_some, Bool.true_and, Bool.not_true, true_and, ne_eq, not_false_eq_true, reduceCtorEq, Nat.reduceEqDiff, Nat.zero_add, Ty.td4, h14, h15, h17, h19, h20]
        cases r18
        (try simp only [List.map_append, List.map_cons, List.map_nil, List.map_set, List.length_append, List.length_cons, List.length_nil, List.length_map, Nat.zero_add, List.map_take, List.map_drop]); (repeat' (first | with_reducible exact leV.refl _ | with_reducible exact leL.refl _ | with_reducible exact leE.refl _ | refine leL_cons _ _ _ _ ?_ ?_ | refine leV_agg _ _ ?_ | refine leV_tup _ _ ?_ | refine leV_dptr _ _ ?_ | refine leV_fn _ _ _ ?_ | exact leL_nil | exact leE_nil | (rw [leV_nil]; trivial) | (rw [leV_junk]; trivial) | refine leV_sl _ _ _ _ _ rfl ?_ | exact leV.refl _ | refine leE_app _ _ _ _ ?_ ?_ | refine leE_cons _ _ _ _ ?_ ?_ | exact leE.refl _ | (refine leV_eq _ _ ?_; simp; done) | rfl | (simp [mapV_nil]; done)))
      | false =>
        simp only [h20, ↓reduceIte, Bool.false_eq_true] at r18
        simp only [awp_skip, awp_reg, awp_seq, awp_cond, awp_ret, seqQ_n, awpOps_nil, awpOps_one, awpOps_if, awpOp_is, awpO_is, putK_is, put_s, slot_is, pureOp, apureO, aev, cv, cvc, binK, elO_s, yieldA, guardA_tt, condA_t, condA_f, pickA_t, toD_c, notExit, resA_nil, resA_tmp, oneA_1, argT, isC, bsD, retV_is, ↓reduceIte, List.getElem?_cons_zero, List.getElem?_cons_succ, List.getElem?_toArray, Option.bind_some, Bool.true_and, Bool.not_false, true_and, ne_eq, not_false_eq_true, reduceCtorEq, Nat.reduceEqDiff, Nat.zero_add, Ty.td4, h14, h15, h17, h19, h20]
        cases r18
        (try simp only [List.map_append, List.map_cons, List.map_nil, List.map_set, List.length_append, List.length_cons, List.length_nil, List.length_map, Nat.zero_add, List.map_take, List.map_drop]); (repeat' (first | with_reducible exact leV.refl _ | with_reducible exact leL.refl _ | with_reducible exact leE.refl _ | refine leL_cons _ _ _ _ ?_ ?_ | refine leV_agg _ _ ?_ | refine leV_tup _ _ ?_ | refine leV_dptr _ _ ?_ | refine leV_fn _ _ _ ?_ | exact leL_nil | exact leE_nil | (rw [leV_nil]; trivial) | (rw [leV_junk]; trivial) | refine leV_sl _ _ _ _ _ rfl ?_ | exact leV.refl _ | refine leE_app _ _ _ _ ?_ ?_ | refine leE_cons _ _ _ _ ?_ ?_ | exact leE.refl _ | (refine leV_eq _ _ ?_; simp; done) | rfl | (simp [mapV_nil]; done)))
    | false =>
      simp only [h19, ↓reduceIte, Bool.false_eq_true] at r18
      simp only [awp_skip, awp_reg, awp_seq, awp_cond, awp_ret, seqQ_n, awpOps_nil, awpOps_one, awpOps_if, awpOp_is, putK_is, put_s, slot_is, pureOp, apureO, aev, cv, cvc, binK, elO_s, yieldA, guardA_tf, condA_f, pickA_f, toD_c, notExit, resA_nil, resA_tmp, oneA_1, argT, isC, bsD, retV_is, ↓reduceIte, List.getElem?_cons_zero, List.getElem?_cons_succ, List.getElem?_toArray, Option.bind_some, Bool.true_and, true_and, ne_eq, not_false_eq_true, reduceCtorEq, Nat.reduceEqDiff, Nat.zero_add, h14, h15, h17, h19]
      cases r18
      (try simp only [List.map_append, List.map_cons, List.map_nil, List.map_set, List.length_append, List.length_cons, List.length_nil, List.length_map, Nat.zero_add, List.map_take, List.map_drop]); (repeat' (first | with_reducible exact leV.refl _ | with_reducible exact leL.refl _ | with_reducible exact leE.refl _ | refine leL_cons _ _ _ _ ?_ ?_ | refine leV_agg _ _ ?_ | refine leV_tup _ _ ?_ | refine leV_dptr _ _ ?_ | refine leV_fn _ _ _ ?_ | exact leL_nil | exact leE_nil | (rw [leV_nil]; trivial) | (rw [leV_junk]; trivial) | refine leV_sl _ _ _ _ _ rfl ?_ | exact leV.refl _ | refine leE_app _ _ _ _ ?_ ?_ | refine leE_cons _ _ _ _ ?_ ?_ | exact leE.refl _ | (refine leV_eq _ _ ?_; simp; done) | rfl | (simp [mapV_nil]; done)))

def element_number (a0 : Bool) : Option Int :=
  if a0 then
  some (1 : Int)
else
  some (0 : Int)
set_option maxHeartbeats 2000000 in
theorem element_number_ok {a0 : Bool} {r : Int} (hr : element_number a0 = some r) : Meets Tryd.prog 34 [.c (.bool a0)] (.c (.int .i64 r)) := by
  unfold element_number at hr
  refine meetsV_of (X := true) Ty.mixed Tryd.func34 (by kernel_rfl) rfl (by kernel_rfl) (by simp) ?_; rw [Tryd.ntmps34, Tryd.results34]
  cases h43 : a0 with
  | true =>
    simp only [h43, ↓reduceIte, Bool.false_eq_true] at hr
    simp only [awp_reg, awp_seq, awp_cond, awp_ret, seqQ_n, seqQ_r, awpOps_nil, awpOps_one, awpOp_is, putK_is, put_s, slot_is, pureOp, apureO, aev, cv, cvc, elO_s, condA_t, toD_c, notExit, resA_nil, resA_tmp, oneA_1, argT, isC, bsD, retV_is, ↓reduceIte, Bool.true_and, true_and, reduceCtorEq, h43]
    cases hr
    (try simp only [List.map_append, List.map_cons, List.map_nil, List.map_set, List.length_append, List.length_cons, List.length_nil, List.length_map, Nat.zero_add, List.map_take, List.map_drop]); (repeat' (first | with_reducible exact leV.refl _ | with_reducible exact leL.refl _ | with_reducible exact leE.refl _ | refine leL_cons _ _ _ _ ?_ ?_ | refine leV_agg _ _ ?_ | refine leV_tup _ _ ?_ | refine leV_dptr _ _ ?_ | refine leV_fn _ _ _ ?_ | exact leL_nil | exact leE_nil | (rw [leV_nil]; trivial) | (rw [leV_junk]; trivial) | refine leV_sl _ _ _ _ _ rfl ?_ | exact leV.refl _ | refine leE_app _ _ _ _ ?_ ?_ | refine leE_cons _ _ _ _ ?_ ?_ | exact leE.refl _ | (refine leV_eq _ _ ?_; simp; done) | rfl | (simp [mapV_nil]; done)))
  | false =>
    simp only [h43, ↓reduceIte, Bool.false_eq_true] at hr
    simp only [awp_skip, awp_reg, awp_seq, awp_cond, awp_ret, seqQ_n, awpOps_nil, awpOps_one, awpOp_is, putK_is, put_s, slot_is, pureOp, apureO, aev, cv, cvc, elO_s, condA_f, toD_c, notExit, resA_nil, resA_tmp, oneA_1, argT, isC, bsD, retV_is, ↓reduceIte, Bool.true_and, true_and, reduceCtorEq, h43]
    cases hr
    (try simp only [List.map_append, List.map_cons, List.map_nil, List.map_set, List.length_append, List.length_cons, List.length_nil, List.length_map, Nat.zero_add, List.map_take, List.map_drop]); (repeat' (first | with_reducible exact leV.refl _ | with_reducible exact leL.refl _ | with_reducible exact leE.refl _ | refine leL_cons _ _ _ _ ?_ ?_ | refine leV_agg _ _ ?_ | refine leV_tup _ _ ?_ | refine leV_dptr _ _ ?_ | refine leV_fn _ _ _ ?_ | exact leL_nil | exact leE_nil | (rw [leV_nil]; trivial) | (rw [leV_junk]; trivial) | refine leV_sl _ _ _ _ _ rfl ?_ | exact leV.refl _ | refine leE_app _ _ _ _ ?_ ?_ | refine leE_cons _ _ _ _ ?_ ?_ | exact leE.refl _ | (refine leV_eq _ _ ?_; simp; done) | rfl | (simp [mapV_nil]; done)))

def element_truth (a0 : ByteArray) (a1 : Int) (a2 : Int) : Option Bool :=
  if (eqB a0 (⟨#[108, 116]⟩ : ByteArray)) then
  some (decide (a1 < a2))
else
  if (eqB a0 (⟨#[108, 101]⟩ : ByteArray)) then
    some (decide (a1 ≤ a2))
  else
    if (eqB a0 (⟨#[103, 116]⟩ : ByteArray)) then
      some (decide (a2 < a1))
    else
      if (eqB a0 (⟨#[103, 101]⟩ : ByteArray)) then
        some (decide (a2 ≤ a1))
      else
        if (eqB a0 (⟨#[101, 113]⟩ : ByteArray)) then
          some (a1 == a2)
        else
          if (eqB a0 (⟨#[110, 101]⟩ : ByteArray)) then
            some (a1 != a2)
          else
            if (eqB a0 (⟨#[120, 111, 114]⟩ : ByteArray)) then
              some (a1 != a2)
            else
              if (eqB a0 (⟨#[97, 110, 100]⟩ : ByteArray)) then
                if (a1 == (1 : Int)) then
                  some (a2 == (1 : Int))
                else
                  some false
              else
                if (eqB a0 (⟨#[111, 114]⟩ : ByteArray)) then
                  if (a1 == (1 : Int)) then
                    some true
                  else
                    some (a2 == (1 : Int))
                else
                  if (eqB a0 (⟨#[110, 111, 116]⟩ : ByteArray)) then
                    some (a1 == (0 : Int))
                  else
                    some false
set_option maxHeartbeats 2000000 in
theorem element_truth_ok {a0 : ByteArray} {a1 : Int} {a2 : Int} {r : Bool} (hr : element_truth a0 a1 a2 = some r) : Meets Tryd.prog 35 [.c (.string a0), .c (.int .i64 a1), .c (.int .i64 a2)] (.c (.bool r)) := by
  unfold element_truth at hr
  refine meetsV_of (X := true) Ty.mixed Tryd.func35 (by kernel_rfl) rfl (by kernel_rfl) (by simp) ?_; rw [Tryd.ntmps35, Tryd.results35]
  cases h53 : (eqB a0 (⟨#[108, 116]⟩ : ByteArray)) with
  | true =>
    simp only [h53, ↓reduceIte, Bool.false_eq_true] at hr
    simp only [awp_reg, awp_seq, awp_cond, awp_block, awp_ret, seqQ_n, seqQ_r, blkQ_r, awpOps_nil, awpOps_one, awpOp_is, putK_is, put_s, slot_is, pureOp, apureO, aev, cv, cvc, binK, elO_s, condA_t, toD_c, notExit, resA_nil, resA_tmp, oneA_1, argT, isC, bsD, retV_is, ↓reduceIte, Bool.true_and, true_and, reduceCtorEq, Nat.reduceAdd, Nat.reduceEqDiff, Nat.zero_add, h53, eqB_is]
    cases hr
    (try simp only [List.map_append, List.map_cons, List.map_nil, List.map_set, List.length_append, List.length_cons, List.length_nil, List.length_map, Nat.zero_add, List.map_take, List.map_drop]); (repeat' (first | with_reducible exact leV.refl _ | with_reducible exact leL.refl _ | with_reducible exact leE.refl _ | refine leL_cons _ _ _ _ ?_ ?_ | refine leV_agg _ _ ?_ | refine leV_tup _ _ ?_ | refine leV_dptr _ _ ?_ | refine leV_fn _ _ _ ?_ | exact leL_nil | exact leE_nil | (rw [leV_nil]; trivial) | (rw [leV_junk]; trivial) | refine leV_sl _ _ _ _ _ rfl ?_ | exact leV.refl _ | refine leE_app _ _ _ _ ?_ ?_ | refine leE_cons _ _ _ _ ?_ ?_ | exact leE.refl _ | (refine leV_eq _ _ ?_; simp; done) | rfl | (simp [mapV_nil]; done)))
  | false =>
    simp only [h53, ↓reduceIte, Bool.false_eq_true] at hr
    cases h54 : (eqB a0 (⟨#[108, 101]⟩ : ByteArray)) with
    | true =>
      simp only [h54, ↓reduceIte, Bool.false_eq_true] at hr
      simp only [awp_reg, awp_seq, awp_cond, awp_block, awp_ret, seqQ_n, seqQ_r, blkQ_r, awpOps_nil, awpOps_one, awpOp_is, putK_is, put_s, slot_is, pureOp, apureO, aev, cv, cvc, binK, elO_s, condA_t, condA_f, toD_c, notExit, resA_nil, resA_tmp, oneA_1, argT, isC, bsD, retV_is, ↓reduceIte, Bool.true_and, true_and, reduceCtorEq, Nat.reduceAdd, Nat.reduceEqDiff, Nat.zero_add, h53, h54, eqB_is]
      cases hr
      (try simp only [List.map_append, List.map_cons, List.map_nil, List.map_set, List.length_append, List.length_cons, List.length_nil, List.length_map, Nat.zero_add, List.map_take, List.map_drop]); (repeat' (first | with_reducible exact leV.refl _ | with_reducible exact leL.refl _ | with_reducible exact leE.refl _ | refine leL_cons _ _ _ _ ?_ ?_ | refine leV_agg _ _ ?_ | refine leV_tup _ _ ?_ | refine leV_dptr _ _ ?_ | refine leV_fn _ _ _ ?_ | exact leL_nil | exact leE_nil | (rw [leV_nil]; trivial) | (rw [leV_junk]; trivial) | refine leV_sl _ _ _ _ _ rfl ?_ | exact leV.refl _ | refine leE_app _ _ _ _ ?_ ?_ | refine leE_cons _ _ _ _ ?_ ?_ | exact leE.refl _ | (refine leV_eq _ _ ?_; simp; done) | rfl | (simp [mapV_nil]; done)))
    | false =>
      simp only [h54, ↓reduceIte, Bool.false_eq_true] at hr
      cases h55 : (eqB a0 (⟨#[103, 116]⟩ : ByteArray)) with
      | true =>
        simp only [h55, ↓reduceIte, Bool.false_eq_true] at hr
        simp only [awp_reg, awp_seq, awp_cond, awp_block, awp_ret, seqQ_n, seqQ_r, blkQ_r, awpOps_nil, awpOps_one, awpOp_is, putK_is, put_s, slot_is, pureOp, apureO, aev, cv, cvc, binK, elO_s, condA_t, condA_f, toD_c, notExit, resA_nil, resA_tmp, oneA_1, argT, isC, bsD, retV_is, ↓reduceIte, Bool.true_and, true_and, reduceCtorEq, Nat.reduceAdd, Nat.reduceEqDiff, Nat.zero_add, h53, h54, h55, eqB_is]
        cases hr
        (try simp only [List.map_append, List.map_cons, List.map_nil, List.map_set, List.length_append, List.length_cons, List.length_nil, List.length_map, Nat.zero_add, List.map_take, List.map_drop]); (repeat' (first | with_reducible exact leV.refl _ | with_reducible exact leL.refl _ | with_reducible exact leE.refl _ | refine leL_cons _ _ _ _ ?_ ?_ | refine leV_agg _ _ ?_ | refine leV_tup _ _ ?_ | refine leV_dptr _ _ ?_ | refine leV_fn _ _ _ ?_ | exact leL_nil | exact leE_nil | (rw [leV_nil]; trivial) | (rw [leV_junk]; trivial) | refine leV_sl _ _ _ _ _ rfl ?_ | exact leV.refl _ | refine leE_app _ _ _ _ ?_ ?_ | refine leE_cons _ _ _ _ ?_ ?_ | exact leE.refl _ | (refine leV_eq _ _ ?_; simp; done) | rfl | (simp [mapV_nil]; done)))
      | false =>
        simp only [h55, ↓reduceIte, Bool.false_eq_true] at hr
        cases h56 : (eqB a0 (⟨#[103, 101]⟩ : ByteArray)) with
        | true =>
          simp only [h56, ↓reduceIte, Bool.false_eq_true] at hr
          simp only [awp_reg, awp_seq, awp_cond, awp_block, awp_ret, seqQ_n, seqQ_r, blkQ_r, awpOps_nil, awpOps_one, awpOp_is, putK_is, put_s, slot_is, pureOp, apureO, aev, cv, cvc, binK, elO_s, condA_t, condA_f, toD_c, notExit, resA_nil, resA_tmp, oneA_1, argT, isC, bsD, retV_is, ↓reduceIte, Bool.true_and, true_and, reduceCtorEq, Nat.reduceAdd, Nat.reduceEqDiff, Nat.zero_add, h53, h54, h55, h56, eqB_is]
          cases hr
          (try simp only [List.map_append, List.map_cons, List.map_nil, List.map_set, List.length_append, List.length_cons, List.length_nil, List.length_map, Nat.zero_add, List.map_take, List.map_drop]); (repeat' (first | with_reducible exact leV.refl _ | with_reducible exact leL.refl _ | with_reducible exact leE.refl _ | refine leL_cons _ _ _ _ ?_ ?_ | refine leV_agg _ _ ?_ | refine leV_tup _ _ ?_ | refine leV_dptr _ _ ?_ | refine leV_fn _ _ _ ?_ | exact leL_nil | exact leE_nil | (rw [leV_nil]; trivial) | (rw [leV_junk]; trivial) | refine leV_sl _ _ _ _ _ rfl ?_ | exact leV.refl _ | refine leE_app _ _ _ _ ?_ ?_ | refine leE_cons _ _ _ _ ?_ ?_ | exact leE.refl _ | (refine leV_eq _ _ ?_; simp; done) | rfl | (simp [mapV_nil]; done)))
        | false =>
          simp only [h56, ↓reduceIte, Bool.false_eq_true] at hr
          cases h57 : (eqB a0 (⟨#[101, 113]⟩ : ByteArray)) with
          | true =>
            simp only [h57, ↓reduceIte, Bool.false_eq_true] at hr
            simp only [awp_reg, awp_seq, awp_cond, awp_block, awp_ret, seqQ_n, seqQ_r, blkQ_r, awpOps_nil, awpOps_one, awpOp_is, putK_is, put_s, slot_is, pureOp, apureO, aev, cv, cvc, binK, elO_s, condA_t, condA_f, toD_c, notExit, resA_nil, resA_tmp, oneA_1, argT, isC, bsD, retV_is, ↓reduceIte, Bool.true_and, true_and, reduceCtorEq, Nat.reduceAdd, Nat.reduceEqDiff, Nat.zero_add, h53, h54, h55, h56, h57, eqB_is]
            cases hr
            (try simp only [List.map_append, List.map_cons, List.map_nil, List.map_set, List.length_append, List.length_cons, List.length_nil, List.length_map, Nat.zero_add, List.map_take, List.map_drop]); (repeat' (first | with_reducible exact leV.refl _ | with_reducible exact leL.refl _ | with_reducible exact leE.refl _ | refine leL_cons _ _ _ _ ?_ ?_ | refine leV_agg _ _ ?_ | refine leV_tup _ _ ?_ | refine leV_dptr _ _ ?_ | refine leV_fn _ _ _ ?_ | exact leL_nil | exact leE_nil | (rw [leV_nil]; trivial) | (rw [leV_junk]; trivial) | refine leV_sl _ _ _ _ _ rfl ?_ | exact leV.refl _ | refine leE_app _ _ _ _ ?_ ?_ | refine leE_cons _ _ _ _ ?_ ?_ | exact leE.refl _ | (refine leV_eq _ _ ?_; simp; done) | rfl | (simp [mapV_nil]; done)))
          | false =>
            simp only [h57, ↓reduceIte, Bool.false_eq_true] at hr
            cases h58 : (eqB a0 (⟨#[110, 101]⟩ : ByteArray)) with
            | true =>
              simp only [h58, ↓reduceIte, Bool.false_eq_true] at hr
              simp only [awp_skip, awp_reg, awp_seq, awp_cond, awp_block, awp_ret, seqQ_n, seqQ_r, blkQ_r, awpOps_nil, awpOps_one, awpOp_is, putK_is, put_s, slot_is, pureOp, apureO, aev, cv, cvc, binK, elO_s, condA_t, condA_f, toD_c, notExit, resA_nil, resA_tmp, oneA_1, argT, isC, bsD, retV_is, ↓reduceIte, Bool.true_and, true_and, reduceCtorEq, Nat.reduceAdd, Nat.reduceEqDiff, Nat.zero_add, h53, h54, h55, h56, h57, h58, eqB_is]
              cases hr
              (try simp only [List.map_append, List.map_cons, List.map_nil, List.map_set, List.length_append, List.length_cons, List.length_nil, List.length_map, Nat.zero_add, List.map_take, List.map_drop]); (repeat' (first | with_reducible exact leV.refl _ | with_reducible exact leL.refl _ | with_reducible exact leE.refl _ | refine leL_cons _ _ _ _ ?_ ?_ | refine leV_agg _ _ ?_ | refine leV_tup _ _ ?_ | refine leV_dptr _ _ ?_ | refine leV_fn _ _ _ ?_ | exact leL_nil | exact leE_nil | (rw [leV_nil]; trivial) | (rw [leV_junk]; trivial) | refine leV_sl _ _ _ _ _ rfl ?_ | exact leV.refl _ | refine leE_app _ _ _ _ ?_ ?_ | refine leE_cons _ _ _ _ ?_ ?_ | exact leE.refl _ | (refine leV_eq _ _ ?_; simp; done) | rfl | (simp [mapV_nil]; done)))
            | false =>
              simp only [h58, ↓reduceIte, Bool.false_eq_true] at hr
              cases h59 : (eqB a0 (⟨#[120, 111, 114]⟩ : ByteArray)) with
              | true =>
                simp only [h59, ↓reduceIte, Bool.false_eq_true] at hr
                simp only [awp_reg, awp_seq, awp_cond, awp_block, awp_ret, seqQ_n, seqQ_r, blkQ_r, awpOps_nil, awpOps_one, awpOp_is, putK_is, put_s, slot_is, pureOp, apureO, aev, cv, cvc, binK, elO_s, condA_t, condA_f, toD_c, notExit, resA_nil, resA_tmp, oneA_1, argT, isC, bsD, retV_is, ↓reduceIte, Bool.true_and, true_and, reduceCtorEq, Nat.reduceAdd, Nat.reduceEqDiff, Nat.zero_add, h53, h54, h55, h56, h57, h58, h59, eqB_is]
                cases hr
                (try simp only [List.map_append, List.map_cons, List.map_nil, List.map_set, List.length_append, List.length_cons, List.length_nil, List.length_map, Nat.zero_add, List.map_take, List.map_drop]); (repeat' (first | with_reducible exact leV.refl _ | with_reducible exact leL.refl _ | with_reducible exact leE.refl _ | refine leL_cons _ _ _ _ ?_ ?_ | refine leV_agg _ _ ?_ | refine leV_tup _ _ ?_ | refine leV_dptr _ _ ?_ | refine leV_fn _ _ _ ?_ | exact leL_nil | exact leE_nil | (rw [leV_nil]; trivial) | (rw [leV_junk]; trivial) | refine leV_sl _ _ _ _ _ rfl ?_ | exact leV.refl _ | refine leE_app _ _ _ _ ?_ ?_ | refine leE_cons _ _ _ _ ?_ ?_ | exact leE.refl _ | (refine leV_eq _ _ ?_; simp; done) | rfl | (simp [mapV_nil]; done)))
              | false =>
                simp only [h59, ↓reduceIte, Bool.false_eq_true] at hr
                cases h60 : (eqB a0 (⟨#[97, 110, 100]⟩ : ByteArray)) with
                | true =>
                  simp only [h60, ↓reduceIte, Bool.false_eq_true] at hr
                  cases h61 : (a1 == (1 : Int)) with
                  | true =>
                    simp only [h61, ↓reduceIte, Bool.false_eq_true] at hr
                    simp only [awp_reg, awp_seq, awp_cond, awp_block, awp_ret, seqQ_n, seqQ_r, blkQ_r, awpOps_nil, awpOps_one, awpOps_if, awpOp_is, awpO_is, putK_is, put_s, slot_is, pureOp, apureO, aev, cv, cvc, binK, elO_s, yieldA, guardA_tt, condA_t, condA_f, pickA_t, toD_c, notExit, resA_nil, resA_tmp, oneA_1, argT, isC, bsD, retV_is, ↓reduceIte, List.getElem?_cons_zero, List.getElem?_cons_succ, List.getElem?_toArray, Option.bind_some, Bool.true_and, true_and, reduceCtorEq, Nat.reduceAdd, Nat.reduceEqDiff, Nat.zero_add, h53, h54, h55, h56, h57, h58, h59, h60, h61, eqB_is]
                    cases hr
                    (try simp only [List.map_append, List.map_cons, List.map_nil, List.map_set, List.length_append, List.length_cons, List.length_nil, List.length_map, Nat.zero_add, List.map_take, List.map_drop]); (repeat' (first | with_reducible exact leV.refl _ | with_reducible exact leL.refl _ | with_reducible exact leE.refl _ | refine leL_cons _ _ _ _ ?_ ?_ | refine leV_agg _ _ ?_ | refine leV_tup _ _ ?_ | refine leV_dptr _ _ ?_ | refine leV_fn _ _ _ ?_ | exact leL_nil | exact leE_nil | (rw [leV_nil]; trivial) | (rw [leV_junk]; trivial) | refine leV_sl _ _ _ _ _ rfl ?_ | exact leV.refl _ | refine leE_app _ _ _ _ ?_ ?_ | refine leE_cons _ _ _ _ ?_ ?_ | exact leE.refl _ | (refine leV_eq _ _ ?_; simp; done) | rfl | (simp [mapV_nil]; done)))
                  | false =>
                    simp only [h61, ↓reduceIte, Bool.false_eq_true] at hr
                    simp only [awp_reg, awp_seq, awp_cond, awp_block, awp_ret, seqQ_n, seqQ_r, blkQ_r, awpOps_nil, awpOps_one, awpOps_if, awpOp_is, putK_is, put_s, slot_is, pureOp, apureO, aev, cv, cvc, binK, elO_s, yieldA, guardA_tf, condA_t, condA_f, pickA_f, toD_c, notExit, resA_nil, resA_tmp, oneA_1, argT, isC, bsD, retV_is, ↓reduceIte, List.getElem?_cons_zero, List.getElem?_cons_succ, List.getElem?_toArray, Option.bind_some, Bool.true_and, true_and, reduceCtorEq, Nat.reduceAdd, Nat.reduceEqDiff, Nat.zero_add, h53, h54, h55, h56, h57, h58, h59, h60, h61, eqB_is]
                    cases hr
                    (try simp only [List.map_append, List.map_cons, List.map_nil, List.map_set, List.length_append, List.length_cons, List.length_nil, List.length_map, Nat.zero_add, List.map_take, List.map_drop]); (repeat' (first | with_reducible exact leV.refl _ | with_reducible exact leL.refl _ | with_reducible exact leE.refl _ | refine leL_cons _ _ _ _ ?_ ?_ | refine leV_agg _ _ ?_ | refine leV_tup _ _ ?_ | refine leV_dptr _ _ ?_ | refine leV_fn _ _ _ ?_ | exact leL_nil | exact leE_nil | (rw [leV_nil]; trivial) | (rw [leV_junk]; trivial) | refine leV_sl _ _ _ _ _ rfl ?_ | exact leV.refl _ | refine leE_app _ _ _ _ ?_ ?_ | refine leE_cons _ _ _ _ ?_ ?_ | exact leE.refl _ | (refine leV_eq _ _ ?_; simp; done) | rfl | (simp [mapV_nil]; done)))
                | false =>
                  simp only [h60, ↓reduceIte, Bool.false_eq_true] at hr
                  cases h62 : (eqB a0 (⟨#[111, 114]⟩ : ByteArray)) with
                  | true =>
                    simp only [h62, ↓reduceIte, Bool.false_eq_true] at hr
                    cases h63 : (a1 == (1 : Int)) with
                    | true =>
                      simp only [h63, ↓reduceIte, Bool.false_eq_true] at hr
                      simp only [awp_reg, awp_seq, awp_cond, awp_block, awp_ret, seqQ_n, seqQ_r, blkQ_r, awpOps_nil, awpOps_one, awpOps_if, awpOp_is, putK_is, put_s, slot_is, pureOp, apureO, aev, cv, cvc, binK, elO_s, yieldA, guardA_ft, condA_t, condA_f, pickA_t, toD_c, notExit, resA_nil, resA_tmp, oneA_1, argT, isC, bsD, retV_is, ↓reduceIte, List.getElem?_cons_zero, List.getElem?_cons_succ, List.getElem?_toArray, Option.bind_some, Bool.true_and, true_and, reduceCtorEq, Nat.reduceAdd, Nat.reduceEqDiff, Nat.zero_add, h53, h54, h55, h56, h57, h58, h59, h60, h62, h63, eqB_is]
                      cases hr
                      (try simp only [List.map_append, List.map_cons, List.map_nil, List.map_set, List.length_append, List.length_cons, List.length_nil, List.length_map, Nat.zero_add, List.map_take, List.map_drop]); (repeat' (first | with_reducible exact leV.refl _ | with_reducible exact leL.refl _ | with_reducible exact leE.refl _ | refine leL_cons _ _ _ _ ?_ ?_ | refine leV_agg _ _ ?_ | refine leV_tup _ _ ?_ | refine leV_dptr _ _ ?_ | refine leV_fn _ _ _ ?_ | exact leL_nil | exact leE_nil | (rw [leV_nil]; trivial) | (rw [leV_junk]; trivial) | refine leV_sl _ _ _ _ _ rfl ?_ | exact leV.refl _ | refine leE_app _ _ _ _ ?_ ?_ | refine leE_cons _ _ _ _ ?_ ?_ | exact leE.refl _ | (refine leV_eq _ _ ?_; simp; done) | rfl | (simp [mapV_nil]; done)))
                    | false =>
                      simp only [h63, ↓reduceIte, Bool.false_eq_true] at hr
                      simp only [awp_reg, awp_seq, awp_cond, awp_block, awp_ret, seqQ_n, seqQ_r, blkQ_r, awpOps_nil, awpOps_one, awpOps_if, awpOp_is, awpO_is, putK_is, put_s, slot_is, pureOp, apureO, aev, cv, cvc, binK, elO_s, yieldA, guardA_ff, condA_t, condA_f, pickA_f, toD_c, notExit, resA_nil, resA_tmp, oneA_1, argT, isC, bsD, retV_is, ↓reduceIte, List.getElem?_cons_zero, List.getElem?_cons_succ, List.getElem?_toArray, Option.bind_some, Bool.true_and, true_and, reduceCtorEq, Nat.reduceAdd, Nat.reduceEqDiff, Nat.zero_add, h53, h54, h55, h56, h57, h58, h59, h60, h62, h63, eqB_is]
                      cases hr
                      (try simp only [List.map_append, List.map_cons, List.map_nil, List.map_set, List.length_append, List.length_cons, List.length_nil, List.length_map, Nat.zero_add, List.map_take, List.map_drop]); (repeat' (first | with_reducible exact leV.refl _ | with_reducible exact leL.refl _ | with_reducible exact leE.refl _ | refine leL_cons _ _ _ _ ?_ ?_ | refine leV_agg _ _ ?_ | refine leV_tup _ _ ?_ | refine leV_dptr _ _ ?_ | refine leV_fn _ _ _ ?_ | exact leL_nil | exact leE_nil | (rw [leV_nil]; trivial) | (rw [leV_junk]; trivial) | refine leV_sl _ _ _ _ _ rfl ?_ | exact leV.refl _ | refine leE_app _ _ _ _ ?_ ?_ | refine leE_cons _ _ _ _ ?_ ?_ | exact leE.refl _ | (refine leV_eq _ _ ?_; simp; done) | rfl | (simp [mapV_nil]; done)))
                  | false =>
                    simp only [h62, ↓reduceIte, Bool.false_eq_true] at hr
                    cases h64 : (eqB a0 (⟨#[110, 111, 116]⟩ : ByteArray)) with
                    | true =>
                      simp only [h64, ↓reduceIte, Bool.false_eq_true] at hr
                      simp only [awp_reg, awp_seq, awp_cond, awp_block, awp_ret, seqQ_n, seqQ_r, blkQ_r, awpOps_nil, awpOps_one, awpOp_is, putK_is, put_s, slot_is, pureOp, apureO, aev, cv, cvc, binK, elO_s, condA_t, condA_f, toD_c, notExit, resA_nil, resA_tmp, oneA_1, argT, isC, bsD, retV_is, ↓reduceIte, Bool.true_and, true_and, reduceCtorEq, Nat.reduceAdd, Nat.reduceEqDiff, Nat.zero_add, h53, h54, h55, h56, h57, h58, h59, h60, h62, h64, eqB_is]
                      cases hr
                      (try simp only [List.map_append, List.map_cons, List.map_nil, List.map_set, List.length_append, List.length_cons, List.length_nil, List.length_map, Nat.zero_add, List.map_take, List.map_drop]); (repeat' (first | with_reducible exact leV.refl _ | with_reducible exact leL.refl _ | with_reducible exact leE.refl _ | refine leL_cons _ _ _ _ ?_ ?_ | refine leV_agg _ _ ?_ | refine leV_tup _ _ ?_ | refine leV_dptr _ _ ?_ | refine leV_fn _ _ _ ?_ | exact leL_nil | exact leE_nil | (rw [leV_nil]; trivial) | (rw [leV_junk]; trivial) | refine leV_sl _ _ _ _ _ rfl ?_ | exact leV.refl _ | refine leE_app _ _ _ _ ?_ ?_ | refine leE_cons _ _ _ _ ?_ ?_ | exact leE.refl _ | (refine leV_eq _ _ ?_; simp; done) | rfl | (simp [mapV_nil]; done)))
                    | false =>
                      simp only [h64, ↓reduceIte, Bool.false_eq_true] at hr
                      simp only [awp_skip, awp_reg, awp_seq, awp_cond, awp_block, awp_ret, seqQ_n, blkQ_n, awpOps_nil, awpOps_one, awpOp_is, putK_is, put_s, slot_is, pureOp, apureO, aev, cv, cvc, binK, elO_s, condA_f, toD_c, notExit, resA_nil, resA_tmp, oneA_1, argT, isC, bsD, retV_is, ↓reduceIte, Bool.true_and, true_and, reduceCtorEq, Nat.reduceAdd, Nat.reduceEqDiff, Nat.zero_add, h53, h54, h55, h56, h57, h58, h59, h60, h62, h64, eqB_is]
                      cases hr
                      (try simp only [List.map_append, List.map_cons, List.map_nil, List.map_set, List.length_append, List.length_cons, List.length_nil, List.length_map, Nat.zero_add, List.map_take, List.map_drop]); (repeat' (first | with_reducible exact leV.refl _ | with_reducible exact leL.refl _ | with_reducible exact leE.refl _ | refine leL_cons _ _ _ _ ?_ ?_ | refine leV_agg _ _ ?_ | refine leV_tup _ _ ?_ | refine leV_dptr _ _ ?_ | refine leV_fn _ _ _ ?_ | exact leL_nil | exact leE_nil | (rw [leV_nil]; trivial) | (rw [leV_junk]; trivial) | refine leV_sl _ _ _ _ _ rfl ?_ | exact leV.refl _ | refine leE_app _ _ _ _ ?_ ?_ | refine leE_cons _ _ _ _ ?_ ?_ | exact leE.refl _ | (refine leV_eq _ _ ?_; simp; done) | rfl | (simp [mapV_nil]; done)))

def element_value (a0 : ByteArray) (a1 : Int) (a2 : Int) (a3 : Int) : Option Int :=
  if (eqB a0 (⟨#[97, 100, 100]⟩ : ByteArray)) then
  (element_Wrap (IntKind.i64.wrap (a1 + a2))).bind fun y2 =>
  some y2
else
  if (eqB a0 (⟨#[115, 117, 98]⟩ : ByteArray)) then
    (element_Wrap (IntKind.i64.wrap (a1 - a2))).bind fun y6 =>
    some y6
  else
    if (eqB a0 (⟨#[109, 117, 108]⟩ : ByteArray)) then
      (element_Wrap (IntKind.i64.wrap (a1 * a2))).bind fun y10 =>
      some y10
    else
      if (eqB a0 (⟨#[100, 105, 118]⟩ : ByteArray)) then
        (element_quotient a1 a2).bind fun y21 =>
        (element_Wrap y21).bind fun y24 =>
        some y24
      else
        if (eqB a0 (⟨#[109, 111, 100]⟩ : ByteArray)) then
          if (a2 == (0 : Int)) then
            some (0 : Int)
          else
            (element_quotient a1 a2).bind fun y29 =>
            some (IntKind.i64.wrap (a1 - (IntKind.i64.wrap (a2 * y29))))
        else
          if (eqB a0 (⟨#[109, 105, 110]⟩ : ByteArray)) then
            some (min a1 a2)
          else
            if (eqB a0 (⟨#[109, 97, 120]⟩ : ByteArray)) then
              some (max a1 a2)
            else
              if (eqB a0 (⟨#[110, 101, 103]⟩ : ByteArray)) then
                (element_Wrap (IntKind.i64.wrap (0 - a1))).bind fun y35 =>
                some y35
              else
                if (eqB a0 (⟨#[97, 98, 115]⟩ : ByteArray)) then
                  (element_Wrap (max a1 (IntKind.i64.wrap (0 - a1)))).bind fun y39 =>
                  some y39
                else
                  if (eqB a0 (⟨#[115, 105, 103, 110]⟩ : ByteArray)) then
                    (element_number (decide ((0 : Int) < a1))).bind fun y44 =>
                    (element_number (decide (a1 < (0 : Int)))).bind fun y47 =>
                    some (IntKind.i64.wrap (y44 - y47))
                  else
                    if (eqB a0 (⟨#[115, 101, 108, 101, 99, 116]⟩ : ByteArray)) then
                      if (a1 == (1 : Int)) then
                        some a2
                      else
                        some a3
                    else
                      if (eqB a0 (⟨#[116, 111, 105, 110, 116]⟩ : ByteArray)) then
                        some a1
                      else
                        (element_truth a0 a1 a2).bind fun y65 =>
                        (element_number y65).bind fun y68 =>
                        some y68
set_option maxHeartbeats 2000000 in
theorem element_value_ok {a0 : ByteArray} {a1 : Int} {a2 : Int} {a3 : Int} {r : Int} (hr : element_value a0 a1 a2 a3 = some r) : Meets Tryd.prog 28 [.c (.string a0), .c (.int .i64 a1), .c (.int .i64 a2), .c (.int .i64 a3)] (.c (.int .i64 r)) := by
  unfold element_value at hr
  refine meetsV_of (X := true) Ty.mixed Tryd.func28 (by kernel_rfl) rfl (by kernel_rfl) (by simp) ?_; rw [Tryd.ntmps28, Tryd.results28]
  cases h1 : (eqB a0 (⟨#[97, 100, 100]⟩ : ByteArray)) with
  | true =>
    simp only [h1, ↓reduceIte, Bool.false_eq_true] at hr
    simp only [awp_reg, awp_seq, awp_cond, awp_block, seqQ_n, awpOps_nil, awpOps_one, awpOp_is, isCallV, callW_is, callV_is, putK_is, put_s, slot_is, pureOp, apureO, aev, cv, cvc, binK, condA_t, argT, isC, bsD, Bool.false_eq_true, ↓reduceIte, List.map_cons, List.map_nil, List.append_nil, Bool.true_and, true_and, reduceCtorEq, Nat.reduceAdd, Nat.reduceEqDiff, Nat.zero_add, h1, eqB_is]
    obtain ⟨y2, h3, r4⟩ := bindS hr
    clear hr
    try dsimp only at r4
    refine call_meets ((element_Wrap_ok h3).le ?_) (by simp only [aev, cv, cvc, toD_c, consO_some, toDL_nil, toDL_cons, isC, bsD, h1] <;> rfl) ?_
    · (try simp only [List.map_append, List.map_cons, List.map_nil, List.map_set, List.length_append, List.length_cons, List.length_nil, List.length_map, Nat.zero_add, List.map_take, List.map_drop]); (repeat' (first | with_reducible exact leV.refl _ | with_reducible exact leL.refl _ | with_reducible exact leE.refl _ | refine leL_cons _ _ _ _ ?_ ?_ | refine leV_agg _ _ ?_ | refine leV_tup _ _ ?_ | refine leV_dptr _ _ ?_ | refine leV_fn _ _ _ ?_ | exact leL_nil | exact leE_nil | (rw [leV_nil]; trivial) | (rw [leV_junk]; trivial) | refine leV_sl _ _ _ _ _ rfl ?_ | exact leV.refl _ | refine leE_app _ _ _ _ ?_ ?_ | refine leE_cons _ _ _ _ ?_ ?_ | exact leE.refl _ | (refine leV_eq _ _ ?_; simp; done) | rfl | (simp [mapV_nil]; done)))
    simp only [awp_ret, seqQ_n, seqQ_r, blkQ_r, awpOps_nil, awpOps_one, awpOp_is, putK_is, put_s, upd_s, slot_is, pureOp, apureO, killT, aev, cv, cvc, elO_s, flat_c, ownsV_c, ownsL_nil, ownsL_cons, toD_c, notExit, resA_nil, resA_tmp, oneA_1, isC, bsD, retV_is, ↓reduceIte, List.append_nil, Bool.true_and, Bool.or_true, true_and, List.isEmpty_nil, h1]
    cases r4
    (try simp only [List.map_append, List.map_cons, List.map_nil, List.map_set, List.length_append, List.length_cons, List.length_nil, List.length_map, Nat.zero_add, List.map_take, List.map_drop]); (repeat' (first | with_reducible exact leV.refl _ | with_reducible exact leL.refl _ | with_reducible exact leE.refl _ | refine leL_cons _ _ _ _ ?_ ?_ | refine leV_agg _ _ ?_ | refine leV_tup _ _ ?_ | refine leV_dptr _ _ ?_ | refine leV_fn _ _ _ ?_ | exact leL_nil | exact leE_nil | (rw [leV_nil]; trivial) | (rw [leV_junk]; trivial) | refine leV_sl _ _ _ _ _ rfl ?_ | exact leV.refl _ | refine leE_app _ _ _ _ ?_ ?_ | refine leE_cons _ _ _ _ ?_ ?_ | exact leE.refl _ | (refine leV_eq _ _ ?_; simp; done) | rfl | (simp [mapV_nil]; done)))
  | false =>
    simp only [h1, ↓reduceIte, Bool.false_eq_true] at hr
    cases h5 : (eqB a0 (⟨#[115, 117, 98]⟩ : ByteArray)) with
    | true =>
      simp only [h5, ↓reduceIte, Bool.false_eq_true] at hr
      simp only [awp_reg, awp_seq, awp_cond, awp_block, seqQ_n, awpOps_nil, awpOps_one, awpOp_is, isCallV, callW_is, callV_is, putK_is, put_s, slot_is, pureOp, apureO, aev, cv, cvc, binK, condA_t, condA_f, argT, isC, bsD, Bool.false_eq_true, ↓reduceIte, List.map_cons, List.map_nil, List.append_nil, Bool.true_and, true_and, reduceCtorEq, Nat.reduceAdd, Nat.reduceEqDiff, Nat.zero_add, h1, h5, eqB_is]
      obtain ⟨y6, h7, r8⟩ := bindS hr
      clear hr
      try dsimp only at r8
      refine call_meets ((element_Wrap_ok h7).le ?_) (by simp only [aev, cv, cvc, toD_c, consO_some, toDL_nil, toDL_cons, isC, bsD, h1, h5] <;> rfl) ?_
      · (try simp only [List.map_append, List.map_cons, List.map_nil, List.map_set, List.length_append, List.length_cons, List.length_nil, List.length_map, Nat.zero_add, List.map_take, List.map_drop]); (repeat' (first | with_reducible exact leV.refl _ | with_reducible exact leL.refl _ | with_reducible exact leE.refl _ | refine leL_cons _ _ _ _ ?_ ?_ | refine leV_agg _ _ ?_ | refine leV_tup _ _ ?_ | refine leV_dptr _ _ ?_ | refine leV_fn _ _ _ ?_ | exact leL_nil | exact leE_nil | (rw [leV_nil]; trivial) | (rw [leV_junk]; trivial) | refine leV_sl _ _ _ _ _ rfl ?_ | exact leV.refl _ | refine leE_app _ _ _ _ ?_ ?_ | refine leE_cons _ _ _ _ ?_ ?_ | exact leE.refl _ | (refine leV_eq _ _ ?_; simp; done) | rfl | (simp [mapV_nil]; done)))
      simp only [awp_ret, seqQ_n, seqQ_r, blkQ_r, awpOps_nil, awpOps_one, awpOp_is, putK_is, put_s, upd_s, slot_is, pureOp, apureO, killT, aev, cv, cvc, elO_s, flat_c, ownsV_c, ownsL_nil, ownsL_cons, toD_c, notExit, resA_nil, resA_tmp, oneA_1, isC, bsD, retV_is, ↓reduceIte, List.append_nil, Bool.true_and, Bool.or_true, true_and, List.isEmpty_nil, h1, h5]
      cases r8
      (try simp only [List.map_append, List.map_cons, List.map_nil, List.map_set, List.length_append, List.length_cons, List.length_nil, List.length_map, Nat.zero_add, List.map_take, List.map_drop]); (repeat' (first | with_reducible exact leV.refl _ | with_reducible exact leL.refl _ | with_reducible exact leE.refl _ | refine leL_cons _ _ _ _ ?_ ?_ | refine leV_agg _ _ ?_ | refine leV_tup _ _ ?_ | refine leV_dptr _ _ ?_ | refine leV_fn _ _ _ ?_ | exact leL_nil | exact leE_nil | (rw [leV_nil]; trivial) | (rw [leV_junk]; trivial) | refine leV_sl _ _ _ _ _ rfl ?_ | exact leV.refl _ | refine leE_app _ _ _ _ ?_ ?_ | refine leE_cons _ _ _ _ ?_ ?_ | exact leE.refl _ | (refine leV_eq _ _ ?_; simp; done) | rfl | (simp [mapV_nil]; done)))
    | false =>
      simp only [h5, ↓reduceIte, Bool.false_eq_true] at hr
      cases h9 : (eqB a0 (⟨#[109, 117, 108]⟩ : ByteArray)) with
      | true =>
        simp only [h9, ↓reduceIte, Bool.false_eq_true] at hr
        simp only [awp_reg, awp_seq, awp_cond, awp_block, seqQ_n, awpOps_nil, awpOps_one, awpOp_is, isCallV, callW_is, callV_is, putK_is, put_s, slot_is, pureOp, apureO, aev, cv, cvc, binK, condA_t, condA_f, argT, isC, bsD, Bool.false_eq_true, ↓reduceIte, List.map_cons, List.map_nil, List.append_nil, Bool.true_and, true_and, reduceCtorEq, Nat.reduceAdd, Nat.reduceEqDiff, Nat.zero_add, h1, h5, h9, eqB_is]
        obtain ⟨y10, h11, r12⟩ := bindS hr
        clear hr
        try dsimp only at r12
        refine call_meets ((element_Wrap_ok h11).le ?_) (by simp only [aev, cv, cvc, toD_c, consO_some, toDL_nil, toDL_cons, isC, bsD, h1, h5, h9] <;> rfl) ?_
        · (try simp only [List.map_append, List.map_cons, List.map_nil, List.map_set, List.length_append, List.length_cons, List.length_nil, List.length_map, Nat.zero_add, List.map_take, List.map_drop]); (repeat' (first | with_reducible exact leV.refl _ | with_reducible exact leL.refl _ | with_reducible exact leE.refl _ | refine leL_cons _ _ _ _ ?_ ?_ | refine leV_agg _ _ ?_ | refine leV_tup _ _ ?_ | refine leV_dptr _ _ ?_ | refine leV_fn _ _ _ ?_ | exact leL_nil | exact leE_nil | (rw [leV_nil]; trivial) | (rw [leV_junk]; trivial) | refine leV_sl _ _ _ _ _ rfl ?_ | exact leV.refl _ | refine leE_app _ _ _ _ ?_ ?_ | refine leE_cons _ _ _ _ ?_ ?_ | exact leE.refl _ | (refine leV_eq _ _ ?_; simp; done) | rfl | (simp [mapV_nil]; done)))
        simp only [awp_ret, seqQ_n, seqQ_r, blkQ_r, awpOps_nil, awpOps_one, awpOp_is, putK_is, put_s, upd_s, slot_is, pureOp, apureO, killT, aev, cv, cvc, elO_s, flat_c, ownsV_c, ownsL_nil, ownsL_cons, toD_c, notExit, resA_nil, resA_tmp, oneA_1, isC, bsD, retV_is, ↓reduceIte, List.append_nil, Bool.true_and, Bool.or_true, true_and, List.isEmpty_nil, h1, h5, h9]
        cases r12
        (try simp only [List.map_append, List.map_cons, List.map_nil, List.map_set, List.length_append, List.length_cons, List.length_nil, List.length_map, Nat.zero_add, List.map_take, List.map_drop]); (repeat' (first | with_reducible exact leV.refl _ | with_reducible exact leL.refl _ | with_reducible exact leE.refl _ | refine leL_cons _ _ _ _ ?_ ?_ | refine leV_agg _ _ ?_ | refine leV_tup _ _ ?_ | refine leV_dptr _ _ ?_ | refine leV_fn _ _ _ ?_ | exact leL_nil | exact leE_nil | (rw [leV_nil]; trivial) | (rw [leV_junk]; trivial) | refine leV_sl _ _ _ _ _ rfl ?_ | exact leV.refl _ | refine leE_app _ _ _ _ ?_ ?_ | refine leE_cons _ _ _ _ ?_ ?_ | exact leE.refl _ | (refine leV_eq _ _ ?_; simp; done) | rfl | (simp [mapV_nil]; done)))
      | false =>
        simp only [h9, ↓reduceIte, Bool.false_eq_true] at hr
        cases h13 : (eqB a0 (⟨#[100, 105, 118]⟩ : ByteArray)) with
        | true =>
          simp only [h13, ↓reduceIte, Bool.false_eq_true] at hr
          simp only [awp_reg, awp_seq, awp_cond, awp_block, seqQ_n, awpOps_nil, awpOps_one, awpOp_is, isCallV, callW_is, callV_is, putK_is, put_s, slot_is, pureOp, apureO, aev, cv, cvc, binK, condA_t, condA_f, argT, isC, bsD, Bool.false_eq_true, ↓reduceIte, List.map_cons, List.map_nil, List.append_nil, reduceCtorEq, Nat.reduceAdd, Nat.reduceEqDiff, Nat.zero_add, h1, h5, h9, h13, eqB_is]
          obtain ⟨y21, h22, r23⟩ := bindS hr
          clear hr
          try dsimp only at r23
          refine call_meets ((element_quotient_ok h22).le ?_) (by simp only [aev, cv, cvc, toD_c, consO_some, toDL_nil, toDL_cons, isC, bsD, h1, h5, h9, h13] <;> rfl) ?_
          · (try simp only [List.map_append, List.map_cons, List.map_nil, List.map_set, List.length_append, List.length_cons, List.length_nil, List.length_map, Nat.zero_add, List.map_take, List.map_drop]); (repeat' (first | with_reducible exact leV.refl _ | with_reducible exact leL.refl _ | with_reducible exact leE.refl _ | refine leL_cons _ _ _ _ ?_ ?_ | refine leV_agg _ _ ?_ | refine leV_tup _ _ ?_ | refine leV_dptr _ _ ?_ | refine leV_fn _ _ _ ?_ | exact leL_nil | exact leE_nil | (rw [leV_nil]; trivial) | (rw [leV_junk]; trivial) | refine leV_sl _ _ _ _ _ rfl ?_ | exact leV.refl _ | refine leE_app _ _ _ _ ?_ ?_ | refine leE_cons _ _ _ _ ?_ ?_ | exact leE.refl _ | (refine leV_eq _ _ ?_; simp; done) | rfl | (simp [mapV_nil]; done)))
          simp only [awpOps_one, awpOp_is, isCallV, callW_is, callV_is, upd_s, slot_is, pureOp, killT, aev, cv, cvc, flat_c, ownsV_c, ownsL_nil, ownsL_cons, isC, bsD, Bool.false_eq_true, ↓reduceIte, List.map_cons, List.map_nil, List.append_nil, Bool.or_true, List.isEmpty_nil, h1, h5, h9, h13]
          obtain ⟨y24, h25, r26⟩ := bindS r23
          clear r23
          try dsimp only at r26
          refine call_meets ((element_Wrap_ok h25).le ?_) (by simp only [aev, cv, cvc, toD_c, consO_some, toDL_nil, toDL_cons, isC, bsD, h1, h5, h9, h13] <;> rfl) ?_
          · (try simp only [List.map_append, List.map_cons, List.map_nil, List.map_set, List.length_append, List.length_cons, List.length_nil, List.length_map, Nat.zero_add, List.map_take, List.map_drop]); (repeat' (first | with_reducible exact leV.refl _ | with_reducible exact leL.refl _ | with_reducible exact leE.refl _ | refine leL_cons _ _ _ _ ?_ ?_ | refine leV_agg _ _ ?_ | refine leV_tup _ _ ?_ | refine leV_dptr _ _ ?_ | refine leV_fn _ _ _ ?_ | exact leL_nil | exact leE_nil | (rw [leV_nil]; trivial) | (rw [leV_junk]; trivial) | refine leV_sl _ _ _ _ _ rfl ?_ | exact leV.refl _ | refine leE_app _ _ _ _ ?_ ?_ | refine leE_cons _ _ _ _ ?_ ?_ | exact leE.refl _ | (refine leV_eq _ _ ?_; simp; done) | rfl | (simp [mapV_nil]; done)))
          simp only [awp_ret, seqQ_n, seqQ_r, blkQ_r, awpOps_nil, awpOps_one, awpOp_is, putK_is, put_s, upd_s, slot_is, pureOp, apureO, killT, aev, cv, cvc, elO_s, flat_c, ownsV_c, ownsL_nil, ownsL_cons, toD_c, notExit, resA_nil, resA_tmp, oneA_1, isC, bsD, retV_is, ↓reduceIte, List.append_nil, Bool.true_and, Bool.or_true, true_and, List.isEmpty_nil, h1, h5, h9, h13]
          cases r26
          (try simp only [List.map_append, List.map_cons, List.map_nil, List.map_set, List.length_append, List.length_cons, List.length_nil, List.length_map, Nat.zero_add, List.map_take, List.map_drop]); (repeat' (first | with_reducible exact leV.refl _ | with_reducible exact leL.refl _ | with_reducible exact leE.refl _ | refine leL_cons _ _ _ _ ?_ ?_ | refine leV_agg _ _ ?_ | refine leV_tup _ _ ?_ | refine leV_dptr _ _ ?_ | refine leV_fn _ _ _ ?_ | exact leL_nil | exact leE_nil | (rw [leV_nil]; trivial) | (rw [leV_junk]; trivial) | refine leV_sl _ _ _ _ _ rfl ?_ | exact leV.refl _ | refine leE_app _ _ _ _ ?_ ?_ | refine leE_cons _ _ _ _ ?_ ?_ | exact leE.refl _ | (refine leV_eq _ _ ?_; simp; done) | rfl | (simp [mapV_nil]; done)))
        | false =>
          simp only [h13, ↓reduceIte, Bool.false_eq_true] at hr
          cases h27 : (eqB a0 (⟨#[109, 111, 100]⟩ : ByteArray)) with
          | true =>
            simp only [h27, ↓reduceIte, Bool.false_eq_true] at hr
            cases h28 : (a2 == (0 : Int)) with
            | true =>
              simp only [h28, ↓reduceIte, Bool.false_eq_true] at hr
              simp only [awp_reg, awp_seq, awp_cond, awp_block, awp_ret, seqQ_n, seqQ_r, blkQ_r, awpOps_nil, awpOps_one, awpOp_is, putK_is, put_s, slot_is, pureOp, apureO, aev, cv, cvc, binK, elO_s, condA_t, condA_f, toD_c, notExit, resA_nil, resA_tmp, oneA_1, argT, isC, bsD, retV_is, ↓reduceIte, Bool.true_and, true_and, reduceCtorEq, Nat.reduceAdd, Nat.reduceEqDiff, Nat.zero_add, h1, h5, h9, h13, h27, h28, eqB_is]
              cases hr
              (try simp only [List.map_append, List.map_cons, List.map_nil, List.map_set, List.length_append, List.length_cons, List.length_nil, List.length_map, Nat.zero_add, List.map_take, List.map_drop]); (repeat' (first | with_reducible exact leV.refl _ | with_reducible exact leL.refl _ | with_reducible exact leE.refl _ | refine leL_cons _ _ _ _ ?_ ?_ | refine leV_agg _ _ ?_ | refine leV_tup _ _ ?_ | refine leV_dptr _ _ ?_ | refine leV_fn _ _ _ ?_ | exact leL_nil | exact leE_nil | (rw [leV_nil]; trivial) | (rw [leV_junk]; trivial) | refine leV_sl _ _ _ _ _ rfl ?_ | exact leV.refl _ | refine leE_app _ _ _ _ ?_ ?_ | refine leE_cons _ _ _ _ ?_ ?_ | exact leE.refl _ | (refine leV_eq _ _ ?_; simp; done) | rfl | (simp [mapV_nil]; done)))
            | false =>
              simp only [h28, ↓reduceIte, Bool.false_eq_true] at hr
              simp only [awp_skip, awp_reg, awp_seq, awp_cond, awp_block, seqQ_n, awpOps_nil, awpOps_one, awpOp_is, isCallV, callW_is, callV_is, putK_is, put_s, slot_is, pureOp, apureO, aev, cv, cvc, binK, condA_t, condA_f, argT, isC, bsD, Bool.false_eq_true, ↓reduceIte, List.map_cons, List.map_nil, List.append_nil, Bool.true_and, true_and, reduceCtorEq, Nat.reduceAdd, Nat.reduceEqDiff, Nat.zero_add, h1, h5, h9, h13, h27, h28, eqB_is]
              obtain ⟨y29, h30, r31⟩ := bindS hr
              clear hr
              try dsimp only at r31
              refine call_meets ((element_quotient_ok h30).le ?_) (by simp only [aev, cv, cvc, toD_c, consO_some, toDL_nil, toDL_cons, isC, bsD, h1, h5, h9, h13, h27, h28] <;> rfl) ?_
              · (try simp only [List.map_append, List.map_cons, List.map_nil, List.map_set, List.length_append, List.length_cons, List.length_nil, List.length_map, Nat.zero_add, List.map_take, List.map_drop]); (repeat' (first | with_reducible exact leV.refl _ | with_reducible exact leL.refl _ | with_reducible exact leE.refl _ | refine leL_cons _ _ _ _ ?_ ?_ | refine leV_agg _ _ ?_ | refine leV_tup _ _ ?_ | refine leV_dptr _ _ ?_ | refine leV_fn _ _ _ ?_ | exact leL_nil | exact leE_nil | (rw [leV_nil]; trivial) | (rw [leV_junk]; trivial) | refine leV_sl _ _ _ _ _ rfl ?_ | exact leV.refl _ | refine leE_app _ _ _ _ ?_ ?_ | refine leE_cons _ _ _ _ ?_ ?_ | exact leE.refl _ | (refine leV_eq _ _ ?_; simp; done) | rfl | (simp [mapV_nil]; done)))
              simp only [awp_ret, seqQ_n, seqQ_r, blkQ_r, awpOps_nil, awpOps_one, awpOp_is, putK_is, put_s, upd_s, slot_is, pureOp, apureO, killT, aev, cv, cvc, binK, elO_s, flat_c, ownsV_c, ownsL_nil, ownsL_cons, toD_c, notExit, resA_nil, resA_tmp, oneA_1, isC, bsD, retV_is, ↓reduceIte, List.append_nil, Bool.true_and, Bool.or_true, true_and, Nat.reduceEqDiff, List.isEmpty_nil, h1, h5, h9, h13, h27, h28]
              cases r31
              (try simp only [List.map_append, List.map_cons, List.map_nil, List.map_set, List.length_append, List.length_cons, List.length_nil, List.length_map, Nat.zero_add, List.map_take, List.map_drop]); (repeat' (first | with_reducible exact leV.refl _ | with_reducible exact leL.refl _ | with_reducible exact leE.refl _ | refine leL_cons _ _ _ _ ?_ ?_ | refine leV_agg _ _ ?_ | refine leV_tup _ _ ?_ | refine leV_dptr _ _ ?_ | refine leV_fn _ _ _ ?_ | exact leL_nil | exact leE_nil | (rw [leV_nil]; trivial) | (rw [leV_junk]; trivial) | refine leV_sl _ _ _ _ _ rfl ?_ | exact leV.refl _ | refine leE_app _ _ _ _ ?_ ?_ | refine leE_cons _ _ _ _ ?_ ?_ | exact leE.refl _ | (refine leV_eq _ _ ?_; simp; done) | rfl | (simp [mapV_nil]; done)))
          | false =>
            simp only [h27, ↓reduceIte, Bool.false_eq_true] at hr
            cases h32 : (eqB a0 (⟨#[109, 105, 110]⟩ : ByteArray)) with
            | true =>
              simp only [h32, ↓reduceIte, Bool.false_eq_true] at hr
              simp only [awp_reg, awp_seq, awp_cond, awp_block, awp_ret, seqQ_n, seqQ_r, blkQ_r, awpOps_nil, awpOps_one, awpOp_is, putK_is, put_s, slot_is, pureOp, apureO, int2_is, aev, cv, cvc, binK, elO_s, condA_t, condA_f, toD_c, notExit, resA_nil, resA_tmp, oneA_1, argT, isC, bsD, retV_is, ↓reduceIte, Bool.true_and, true_and, reduceCtorEq, Nat.reduceAdd, Nat.reduceEqDiff, Nat.zero_add, h1, h5, h9, h13, h27, h32, eqB_is]
              cases hr
              (try simp only [List.map_append, List.map_cons, List.map_nil, List.map_set, List.length_append, List.length_cons, List.length_nil, List.length_map, Nat.zero_add, List.map_take, List.map_drop]); (repeat' (first | with_reducible exact leV.refl _ | with_reducible exact leL.refl _ | with_reducible exact leE.refl _ | refine leL_cons _ _ _ _ ?_ ?_ | refine leV_agg _ _ ?_ | refine leV_tup _ _ ?_ | refine leV_dptr _ _ ?_ | refine leV_fn _ _ _ ?_ | exact leL_nil | exact leE_nil | (rw [leV_nil]; trivial) | (rw [leV_junk]; trivial) | refine leV_sl _ _ _ _ _ rfl ?_ | exact leV.refl _ | refine leE_app _ _ _ _ ?_ ?_ | refine leE_cons _ _ _ _ ?_ ?_ | exact leE.refl _ | (refine leV_eq _ _ ?_; simp; done) | rfl | (simp [mapV_nil]; done)))
            | false =>
              simp only [h32, ↓reduceIte, Bool.false_eq_true] at hr
              cases h33 : (eqB a0 (⟨#[109, 97, 120]⟩ : ByteArray)) with
              | true =>
                simp only [h33, ↓reduceIte, Bool.false_eq_true] at hr
                simp only [awp_reg, awp_seq, awp_cond, awp_block, awp_ret, seqQ_n, seqQ_r, blkQ_r, awpOps_nil, awpOps_one, awpOp_is, putK_is, put_s, slot_is, pureOp, apureO, int2_is, aev, cv, cvc, binK, elO_s, condA_t, condA_f, toD_c, notExit, resA_nil, resA_tmp, oneA_1, argT, isC, bsD, retV_is, ↓reduceIte, Bool.true_and, true_and, reduceCtorEq, Nat.reduceAdd, Nat.reduceEqDiff, Nat.zero_add, h1, h5, h9, h13, h27, h32, h33, eqB_is]
                cases hr
                (try simp only [List.map_append, List.map_cons, List.map_nil, List.map_set, List.length_append, List.length_cons, List.length_nil, List.length_map, Nat.zero_add, List.map_take, List.map_drop]); (repeat' (first | with_reducible exact leV.refl _ | with_reducible exact leL.refl _ | with_reducible exact leE.refl _ | refine leL_cons _ _ _ _ ?_ ?_ | refine leV_agg _ _ ?_ | refine leV_tup _ _ ?_ | refine leV_dptr _ _ ?_ | refine leV_fn _ _ _ ?_ | exact leL_nil | exact leE_nil | (rw [leV_nil]; trivial) | (rw [leV_junk]; trivial) | refine leV_sl _ _ _ _ _ rfl ?_ | exact leV.refl _ | refine leE_app _ _ _ _ ?_ ?_ | refine leE_cons _ _ _ _ ?_ ?_ | exact leE.refl _ | (refine leV_eq _ _ ?_; simp; done) | rfl | (simp [mapV_nil]; done)))
              | false =>
                simp only [h33, ↓reduceIte, Bool.false_eq_true] at hr
                cases h34 : (eqB a0 (⟨#[110, 101, 103]⟩ : ByteArray)) with
                | true =>
                  simp only [h34, ↓reduceIte, Bool.false_eq_true] at hr
                  simp only [awp_reg, awp_seq, awp_cond, awp_block, seqQ_n, awpOps_nil, awpOps_one, awpOp_is, isCallV, callW_is, callV_is, putK_is, put_s, slot_is, pureOp, apureO, aev, cv, cvc, binK, condA_t, condA_f, argT, isC, bsD, Bool.false_eq_true, ↓reduceIte, List.map_cons, List.map_nil, List.append_nil, reduceCtorEq, Nat.reduceAdd, Nat.reduceEqDiff, Nat.zero_add, h1, h5, h9, h13, h27, h32, h33, h34, eqB_is]
                  obtain ⟨y35, h36, r37⟩ := bindS hr
                  clear hr
                  try dsimp only at r37
                  refine call_meets ((element_Wrap_ok h36).le ?_) (by simp only [aev, cv, cvc, toD_c, consO_some, toDL_nil, toDL_cons, isC, bsD, h1, h5, h9, h13, h27, h32, h33, h34] <;> rfl) ?_
                  · (try simp only [List.map_append, List.map_cons, List.map_nil, List.map_set, List.length_append, List.length_cons, List.length_nil, List.length_map, Nat.zero_add, List.map_take, List.map_drop]); (repeat' (first | with_reducible exact leV.refl _ | with_reducible exact leL.refl _ | with_reducible exact leE.refl _ | refine leL_cons _ _ _ _ ?_ ?_ | refine leV_agg _ _ ?_ | refine leV_tup _ _ ?_ | refine leV_dptr _ _ ?_ | refine leV_fn _ _ _ ?_ | exact leL_nil | exact leE_nil | (rw [leV_nil]; trivial) | (rw [leV_junk]; trivial) | refine leV_sl _ _ _ _ _ rfl ?_ | exact leV.refl _ | refine leE_app _ _ _ _ ?_ ?_ | refine leE_cons _ _ _ _ ?_ ?_ | exact leE.refl _ | (refine leV_eq _ _ ?_; simp; done) | rfl | (simp [mapV_nil]; done)))
                  simp only [awp_ret, seqQ_n, seqQ_r, blkQ_r, awpOps_nil, awpOps_one, awpOp_is, putK_is, put_s, upd_s, slot_is, pureOp, apureO, killT, aev, cv, cvc, elO_s, flat_c, ownsV_c, ownsL_nil, ownsL_cons, toD_c, notExit, resA_nil, resA_tmp, oneA_1, isC, bsD, retV_is, ↓reduceIte, List.append_nil, Bool.true_and, Bool.or_true, true_and, List.isEmpty_nil, h1, h5, h9, h13, h27, h32, h33, h34]
                  cases r37
                  (try simp only [List.map_append, List.map_cons, List.map_nil, List.map_set, List.length_append, List.length_cons, List.length_nil, List.length_map, Nat.zero_add, List.map_take, List.map_drop]); (repeat' (first | with_reducible exact leV.refl _ | with_reducible exact leL.refl _ | with_reducible exact leE.refl _ | refine leL_cons _ _ _ _ ?_ ?_ | refine leV_agg _ _ ?_ | refine leV_tup _ _ ?_ | refine leV_dptr _ _ ?_ | refine leV_fn _ _ _ ?_ | exact leL_nil | exact leE_nil | (rw [leV_nil]; trivial) | (rw [leV_junk]; trivial) | refine leV_sl _ _ _ _ _ rfl ?_ | exact leV.refl _ | refine leE_app _ _ _ _ ?_ ?_ | refine leE_cons _ _ _ _ ?_ ?_ | exact leE.refl _ | (refine leV_eq _ _ ?_; simp; done) | rfl | (simp [mapV_nil]; done)))
                | false =>
                  simp only [h34, ↓reduceIte, Bool.false_eq_true] at hr
                  cases h38 : (eqB a0 (⟨#[97, 98, 115]⟩ : ByteArray)) with
                  | true =>
                    simp only [h38, ↓reduceIte, Bool.false_eq_true] at hr
                    simp only [awp_reg, awp_seq, awp_cond, awp_block, seqQ_n, awpOps_nil, awpOps_one, awpOp_is, isCallV, callW_is, callV_is, putK_is, put_s, slot_is, pureOp, apureO, int2_is, aev, cv, cvc, binK, condA_t, condA_f, argT, isC, bsD, Bool.false_eq_true, ↓reduceIte, List.map_cons, List.map_nil, List.append_nil, reduceCtorEq, Nat.reduceAdd, Nat.reduceEqDiff, Nat.zero_add, h1, h5, h9, h13, h27, h32, h33, h34, h38, eqB_is]
                    obtain ⟨y39, h40, r41⟩ := bindS hr
                    clear hr
                    try dsimp only at r41
                    refine call_meets ((element_Wrap_ok h40).le ?_) (by simp only [aev, cv, cvc, toD_c, consO_some, toDL_nil, toDL_cons, isC, bsD, h1, h5, h9, h13, h27, h32, h33, h34, h38] <;> rfl) ?_
                    · (try simp only [List.map_append, List.map_cons, List.map_nil, List.map_set, List.length_append, List.length_cons, List.length_nil, List.length_map, Nat.zero_add, List.map_take, List.map_drop]); (repeat' (first | with_reducible exact leV.refl _ | with_reducible exact leL.refl _ | with_reducible exact leE.refl _ | refine leL_cons _ _ _ _ ?_ ?_ | refine leV_agg _ _ ?_ | refine leV_tup _ _ ?_ | refine leV_dptr _ _ ?_ | refine leV_fn _ _ _ ?_ | exact leL_nil | exact leE_nil | (rw [leV_nil]; trivial) | (rw [leV_junk]; trivial) | refine leV_sl _ _ _ _ _ rfl ?_ | exact leV.refl _ | refine leE_app _ _ _ _ ?_ ?_ | refine leE_cons _ _ _ _ ?_ ?_ | exact leE.refl _ | (refine leV_eq _ _ ?_; simp; done) | rfl | (simp [mapV_nil]; done)))
                    simp only [awp_ret, seqQ_n, seqQ_r, blkQ_r, awpOps_nil, awpOps_one, awpOp_is, putK_is, put_s, upd_s, slot_is, pureOp, apureO, killT, aev, cv, cvc, elO_s, flat_c, ownsV_c, ownsL_nil, ownsL_cons, toD_c, notExit, resA_nil, resA_tmp, oneA_1, isC, bsD, retV_is, ↓reduceIte, List.append_nil, Bool.true_and, Bool.or_true, true_and, List.isEmpty_nil, h1, h5, h9, h13, h27, h32, h33, h34, h38]
                    cases r41
                    (try simp only [List.map_append, List.map_cons, List.map_nil, List.map_set, List.length_append, List.length_cons, List.length_nil, List.length_map, Nat.zero_add, List.map_take, List.map_drop]); (repeat' (first | with_reducible exact leV.refl _ | with_reducible exact leL.refl _ | with_reducible exact leE.refl _ | refine leL_cons _ _ _ _ ?_ ?_ | refine leV_agg _ _ ?_ | refine leV_tup _ _ ?_ | refine leV_dptr _ _ ?_ | refine leV_fn _ _ _ ?_ | exact leL_nil | exact leE_nil | (rw [leV_nil]; trivial) | (rw [leV_junk]; trivial) | refine leV_sl _ _ _ _ _ rfl ?_ | exact leV.refl _ | refine leE_app _ _ _ _ ?_ ?_ | refine leE_cons _ _ _ _ ?_ ?_ | exact leE.refl _ | (refine leV_eq _ _ ?_; simp; done) | rfl | (simp [mapV_nil]; done)))
                  | false =>
                    simp only [h38, ↓reduceIte, Bool.false_eq_true] at hr
                    cases h42 : (eqB a0 (⟨#[115, 105, 103, 110]⟩ : ByteArray)) with
                    | true =>
                      simp only [h42, ↓reduceIte, Bool.false_eq_true] at hr
                      simp only [awp_reg, awp_seq, awp_cond, awp_block, seqQ_n, awpOps_nil, awpOps_one, awpOp_is, isCallV, callW_is, callV_is, putK_is, put_s, slot_is, pureOp, apureO, aev, cv, cvc, binK, condA_t, condA_f, argT, isC, bsD, Bool.false_eq_true, ↓reduceIte, List.map_cons, List.map_nil, List.append_nil, Bool.true_and, true_and, reduceCtorEq, Nat.reduceAdd, Nat.reduceEqDiff, Nat.zero_add, h1, h5, h9, h13, h27, h32, h33, h34, h38, h42, eqB_is]
                      obtain ⟨y44, h45, r46⟩ := bindS hr
                      clear hr
                      try dsimp only at r46
                      refine call_meets ((element_number_ok h45).le ?_) (by simp only [aev, cv, cvc, toD_c, consO_some, toDL_nil, toDL_cons, isC, bsD, h1, h5, h9, h13, h27, h32, h33, h34, h38, h42] <;> rfl) ?_
                      · (try simp only [List.map_append, List.map_cons, List.map_nil, List.map_set, List.length_append, List.length_cons, List.length_nil, List.length_map, Nat.zero_add, List.map_take, List.map_drop]); (repeat' (first | with_reducible exact leV.refl _ | with_reducible exact leL.refl _ | with_reducible exact leE.refl _ | refine leL_cons _ _ _ _ ?_ ?_ | refine leV_agg _ _ ?_ | refine leV_tup _ _ ?_ | refine leV_dptr _ _ ?_ | refine leV_fn _ _ _ ?_ | exact leL_nil | exact leE_nil | (rw [leV_nil]; trivial) | (rw [leV_junk]; trivial) | refine leV_sl _ _ _ _ _ rfl ?_ | exact leV.refl _ | refine leE_app _ _ _ _ ?_ ?_ | refine leE_cons _ _ _ _ ?_ ?_ | exact leE.refl _ | (refine leV_eq _ _ ?_; simp; done) | rfl | (simp [mapV_nil]; done)))
                      simp only [awpOps_one, awpOp_is, isCallV, callW_is, callV_is, putK_is, put_s, upd_s, slot_is, pureOp, apureO, killT, aev, cv, cvc, binK, flat_c, ownsV_c, ownsL_nil, ownsL_cons, isC, bsD, Bool.false_eq_true, ↓reduceIte, List.map_cons, List.map_nil, List.append_nil, Bool.true_and, Bool.or_true, true_and, reduceCtorEq, Nat.reduceEqDiff, List.isEmpty_nil, h1, h5, h9, h13, h27, h32, h33, h34, h38, h42]
                      obtain ⟨y47, h48, r49⟩ := bindS r46
                      clear r46
                      try dsimp only at r49
                      refine call_meets ((element_number_ok h48).le ?_) (by simp only [aev, cv, cvc, toD_c, consO_some, toDL_nil, toDL_cons, isC, bsD, h1, h5, h9, h13, h27, h32, h33, h34, h38, h42] <;> rfl) ?_
                      · (try simp only [List.map_append, List.map_cons, List.map_nil, List.map_set, List.length_append, List.length_cons, List.length_nil, List.length_map, Nat.zero_add, List.map_take, List.map_drop]); (repeat' (first | with_reducible exact leV.refl _ | with_reducible exact leL.refl _ | with_reducible exact leE.refl _ | refine leL_cons _ _ _ _ ?_ ?_ | refine leV_agg _ _ ?_ | refine leV_tup _ _ ?_ | refine leV_dptr _ _ ?_ | refine leV_fn _ _ _ ?_ | exact leL_nil | exact leE_nil | (rw [leV_nil]; trivial) | (rw [leV_junk]; trivial) | refine leV_sl _ _ _ _ _ rfl ?_ | exact leV.refl _ | refine leE_app _ _ _ _ ?_ ?_ | refine leE_cons _ _ _ _ ?_ ?_ | exact leE.refl _ | (refine leV_eq _ _ ?_; simp; done) | rfl | (simp [mapV_nil]; done)))
                      simp only [awp_ret, seqQ_n, seqQ_r, blkQ_r, awpOps_nil, awpOps_one, awpOp_is, putK_is, put_s, upd_s, slot_is, pureOp, apureO, killT, aev, cv, cvc, binK, elO_s, flat_c, ownsV_c, ownsL_nil, ownsL_cons, toD_c, notExit, resA_nil, resA_tmp, oneA_1, isC, bsD, retV_is, ↓reduceIte, List.append_nil, Bool.true_and, Bool.or_true, true_and, Nat.reduceEqDiff, List.isEmpty_nil, h1, h5, h9, h13, h27, h32, h33, h34, h38, h42]
                      cases r49
                      (try simp only [List.map_append, List.map_cons, List.map_nil, List.map_set, List.length_append, List.length_cons, List.length_nil, List.length_map, Nat.zero_add, List.map_take, List.map_drop]); (repeat' (first | with_reducible exact leV.refl _ | with_reducible exact leL.refl _ | with_reducible exact leE.refl _ | refine leL_cons _ _ _ _ ?_ ?_ | refine leV_agg _ _ ?_ | refine leV_tup _ _ ?_ | refine leV_dptr _ _ ?_ | refine leV_fn _ _ _ ?_ | exact leL_nil | exact leE_nil | (rw [leV_nil]; trivial) | (rw [leV_junk]; trivial) | refine leV_sl _ _ _ _ _ rfl ?_ | exact leV.refl _ | refine leE_app _ _ _ _ ?_ ?_ | refine leE_cons _ _ _ _ ?_ ?_ | exact leE.refl _ | (refine leV_eq _ _ ?_; simp; done) | rfl | (simp [mapV_nil]; done)))
                    | false =>
                      simp only [h42, ↓reduceIte, Bool.false_eq_true] at hr
                      cases h50 : (eqB a0 (⟨#[115, 101, 108, 101, 99, 116]⟩ : ByteArray)) with
                      | true =>
                        simp only [h50, ↓reduceIte, Bool.false_eq_true] at hr
                        cases h51 : (a1 == (1 : Int)) with
                        | true =>
                          simp only [h51, ↓reduceIte, Bool.false_eq_true] at hr
                          simp only [awp_reg, awp_seq, awp_cond, awp_block, awp_ret, seqQ_n, seqQ_r, blkQ_r, awpOps_nil, awpOps_one, awpOp_is, putK_is, put_s, slot_is, pureOp, apureO, aev, cv, cvc, binK, elO_s, condA_t, condA_f, toD_c, notExit, resA_nil, resA_tmp, oneA_1, argT, isC, bsD, retV_is, ↓reduceIte, Bool.true_and, true_and, reduceCtorEq, Nat.reduceAdd, Nat.reduceEqDiff, Nat.zero_add, h1, h5, h9, h13, h27, h32, h33, h34, h38, h42, h50, h51, eqB_is]
                          cases hr
                          (try simp only [List.map_append, List.map_cons, List.map_nil, List.map_set, List.length_append, List.length_cons, List.length_nil, List.length_map, Nat.zero_add, List.map_take, List.map_drop]); (repeat' (first | with_reducible exact leV.refl _ | with_reducible exact leL.refl _ | with_reducible exact leE.refl _ | refine leL_cons _ _ _ _ ?_ ?_ | refine leV_agg _ _ ?_ | refine leV_tup _ _ ?_ | refine leV_dptr _ _ ?_ | refine leV_fn _ _ _ ?_ | exact leL_nil | exact leE_nil | (rw [leV_nil]; trivial) | (rw [leV_junk]; trivial) | refine leV_sl _ _ _ _ _ rfl ?_ | exact leV.refl _ | refine leE_app _ _ _ _ ?_ ?_ | refine leE_cons _ _ _ _ ?_ ?_ | exact leE.refl _ | (refine leV_eq _ _ ?_; simp; done) | rfl | (simp [mapV_nil]; done)))
                        | false =>
                          simp only [h51, ↓reduceIte, Bool.false_eq_true] at hr
                          simp only [awp_skip, awp_reg, awp_seq, awp_cond, awp_block, awp_ret, seqQ_n, seqQ_r, blkQ_r, awpOps_nil, awpOps_one, awpOp_is, putK_is, put_s, slot_is, pureOp, apureO, aev, cv, cvc, binK, elO_s, condA_t, condA_f, toD_c, notExit, resA_nil, resA_tmp, oneA_1, argT, isC, bsD, retV_is, ↓reduceIte, Bool.true_and, true_and, reduceCtorEq, Nat.reduceAdd, Nat.reduceEqDiff, Nat.zero_add, h1, h5, h9, h13, h27, h32, h33, h34, h38, h42, h50, h51, eqB_is]
                          cases hr
                          (try simp only [List.map_append, List.map_cons, List.map_nil, List.map_set, List.length_append, List.length_cons, List.length_nil, List.length_map, Nat.zero_add, List.map_take, List.map_drop]); (repeat' (first | with_reducible exact leV.refl _ | with_reducible exact leL.refl _ | with_reducible exact leE.refl _ | refine leL_cons _ _ _ _ ?_ ?_ | refine leV_agg _ _ ?_ | refine leV_tup _ _ ?_ | refine leV_dptr _ _ ?_ | refine leV_fn _ _ _ ?_ | exact leL_nil | exact leE_nil | (rw [leV_nil]; trivial) | (rw [leV_junk]; trivial) | refine leV_sl _ _ _ _ _ rfl ?_ | exact leV.refl _ | refine leE_app _ _ _ _ ?_ ?_ | refine leE_cons _ _ _ _ ?_ ?_ | exact leE.refl _ | (refine leV_eq _ _ ?_; simp; done) | rfl | (simp [mapV_nil]; done)))
                      | false =>
                        simp only [h50, ↓reduceIte, Bool.false_eq_true] at hr
                        cases h52 : (eqB a0 (⟨#[116, 111, 105, 110, 116]⟩ : ByteArray)) with
                        | true =>
                          simp only [h52, ↓reduceIte, Bool.false_eq_true] at hr
                          simp only [awp_reg, awp_seq, awp_cond, awp_block, awp_ret, seqQ_n, seqQ_r, blkQ_r, awpOps_nil, awpOps_one, awpOp_is, putK_is, put_s, slot_is, pureOp, apureO, aev, cv, cvc, binK, elO_s, condA_t, condA_f, toD_c, notExit, resA_nil, resA_tmp, oneA_1, argT, isC, bsD, retV_is, ↓reduceIte, Bool.true_and, true_and, reduceCtorEq, Nat.reduceAdd, Nat.reduceEqDiff, Nat.zero_add, h1, h5, h9, h13, h27, h32, h33, h34, h38, h42, h50, h52, eqB_is]
                          cases hr
                          (try simp only [List.map_append, List.map_cons, List.map_nil, List.map_set, List.length_append, List.length_cons, List.length_nil, List.length_map, Nat.zero_add, List.map_take, List.map_drop]); (repeat' (first | with_reducible exact leV.refl _ | with_reducible exact leL.refl _ | with_reducible exact leE.refl _ | refine leL_cons _ _ _ _ ?_ ?_ | refine leV_agg _ _ ?_ | refine leV_tup _ _ ?_ | refine leV_dptr _ _ ?_ | refine leV_fn _ _ _ ?_ | exact leL_nil | exact leE_nil | (rw [leV_nil]; trivial) | (rw [leV_junk]; trivial) | refine leV_sl _ _ _ _ _ rfl ?_ | exact leV.refl _ | refine leE_app _ _ _ _ ?_ ?_ | refine leE_cons _ _ _ _ ?_ ?_ | exact leE.refl _ | (refine leV_eq _ _ ?_; simp; done) | rfl | (simp [mapV_nil]; done)))
                        | false =>
                          simp only [h52, ↓reduceIte, Bool.false_eq_true] at hr
                          simp only [awp_skip, awp_reg, awp_seq, awp_cond, awp_block, seqQ_n, blkQ_n, awpOps_nil, awpOps_one, awpOp_is, isCallV, callW_is, callV_is, putK_is, put_s, slot_is, pureOp, apureO, aev, cv, cvc, binK, condA_f, argT, isC, bsD, Bool.false_eq_true, ↓reduceIte, List.map_cons, List.map_nil, List.append_nil, reduceCtorEq, Nat.reduceAdd, Nat.reduceEqDiff, Nat.zero_add, h1, h5, h9, h13, h27, h32, h33, h34, h38, h42, h50, h52, eqB_is]
                          obtain ⟨y65, h66, r67⟩ := bindS hr
                          clear hr
                          try dsimp only at r67
                          refine call_meets ((element_truth_ok h66).le ?_) (by simp only [aev, cv, cvc, toD_c, consO_some, toDL_nil, toDL_cons, isC, bsD, h1, h5, h9, h13, h27, h32, h33, h34, h38, h42, h50, h52] <;> rfl) ?_
                          · (try simp only [List.map_append, List.map_cons, List.map_nil, List.map_set, List.length_append, List.length_cons, List.length_nil, List.length_map, Nat.zero_add, List.map_take, List.map_drop]); (repeat' (first | with_reducible exact leV.refl _ | with_reducible exact leL.refl _ | with_reducible exact leE.refl _ | refine leL_cons _ _ _ _ ?_ ?_ | refine leV_agg _ _ ?_ | refine leV_tup _ _ ?_ | refine leV_dptr _ _ ?_ | refine leV_fn _ _ _ ?_ | exact leL_nil | exact leE_nil | (rw [leV_nil]; trivial) | (rw [leV_junk]; trivial) | refine leV_sl _ _ _ _ _ rfl ?_ | exact leV.refl _ | refine leE_app _ _ _ _ ?_ ?_ | refine leE_cons _ _ _ _ ?_ ?_ | exact leE.refl _ | (refine leV_eq _ _ ?_; simp; done) | rfl | (simp [mapV_nil]; done)))
                          simp only [awpOps_one, awpOp_is, isCallV, callW_is, callV_is, upd_s, slot_is, pureOp, killT, aev, cv, cvc, flat_c, ownsV_c, ownsL_nil, ownsL_cons, isC, bsD, Bool.false_eq_true, ↓reduceIte, List.map_cons, List.map_nil, List.append_nil, Bool.or_true, List.isEmpty_nil, h1, h5, h9, h13, h27, h32, h33, h34, h38, h42, h50, h52]
                          obtain ⟨y68, h69, r70⟩ := bindS r67
                          clear r67
                          try dsimp only at r70
                          refine call_meets ((element_number_ok h69).le ?_) (by simp only [aev, cv, cvc, toD_c, consO_some, toDL_nil, toDL_cons, isC, bsD, h1, h5, h9, h13, h27, h32, h33, h34, h38, h42, h50, h52] <;> rfl) ?_
                          · (try simp only [List.map_append, List.map_cons, List.map_nil, List.map_set, List.length_append, List.length_cons, List.length_nil, List.length_map, Nat.zero_add, List.map_take, List.map_drop]); (repeat' (first | with_reducible exact leV.refl _ | with_reducible exact leL.refl _ | with_reducible exact leE.refl _ | refine leL_cons _ _ _ _ ?_ ?_ | refine leV_agg _ _ ?_ | refine leV_tup _ _ ?_ | refine leV_dptr _ _ ?_ | refine leV_fn _ _ _ ?_ | exact leL_nil | exact leE_nil | (rw [leV_nil]; trivial) | (rw [leV_junk]; trivial) | refine leV_sl _ _ _ _ _ rfl ?_ | exact leV.refl _ | refine leE_app _ _ _ _ ?_ ?_ | refine leE_cons _ _ _ _ ?_ ?_ | exact leE.refl _ | (refine leV_eq _ _ ?_; simp; done) | rfl | (simp [mapV_nil]; done)))
                          simp only [awp_ret, seqQ_n, awpOps_nil, awpOps_one, awpOp_is, putK_is, put_s, upd_s, slot_is, pureOp, apureO, killT, aev, cv, cvc, elO_s, flat_c, ownsV_c, ownsL_nil, ownsL_cons, toD_c, notExit, resA_nil, resA_tmp, oneA_1, isC, bsD, retV_is, ↓reduceIte, List.append_nil, Bool.true_and, Bool.or_true, true_and, List.isEmpty_nil, h1, h5, h9, h13, h27, h32, h33, h34, h38, h42, h50, h52]
                          cases r70
                          (try simp only [List.map_append, List.map_cons, List.map_nil, List.map_set, List.length_append, List.length_cons, List.length_nil, List.length_map, Nat.zero_add, List.map_take, List.map_drop]); (repeat' (first | with_reducible exact leV.refl _ | with_reducible exact leL.refl _ | with_reducible exact leE.refl _ | refine leL_cons _ _ _ _ ?_ ?_ | refine leV_agg _ _ ?_ | refine leV_tup _ _ ?_ | refine leV_dptr _ _ ?_ | refine leV_fn _ _ _ ?_ | exact leL_nil | exact leE_nil | (rw [leV_nil]; trivial) | (rw [leV_junk]; trivial) | refine leV_sl _ _ _ _ _ rfl ?_ | exact leV.refl _ | refine leE_app _ _ _ _ ?_ ?_ | refine leE_cons _ _ _ _ ?_ ?_ | exact leE.refl _ | (refine leV_eq _ _ ?_; simp; done) | rfl | (simp [mapV_nil]; done)))

def ref17_Types (a0 : ByteArray) : Option ((List ByteArray) × ByteArray × Bool) :=
  if (eqB a0 (⟨#[97, 100, 100]⟩ : ByteArray)) then
  some ([(⟨#[105, 110, 116]⟩ : ByteArray), (⟨#[105, 110, 116]⟩ : ByteArray)], (⟨#[105, 110, 116]⟩ : ByteArray), true)
else
  if (eqB a0 (⟨#[115, 117, 98]⟩ : ByteArray)) then
    some ([(⟨#[105, 110, 116]⟩ : ByteArray), (⟨#[105, 110, 116]⟩ : ByteArray)], (⟨#[105, 110, 116]⟩ : ByteArray), true)
  else
    if (eqB a0 (⟨#[109, 117, 108]⟩ : ByteArray)) then
      some ([(⟨#[105, 110, 116]⟩ : ByteArray), (⟨#[105, 110, 116]⟩ : ByteArray)], (⟨#[105, 110, 116]⟩ : ByteArray), true)
    else
      if (eqB a0 (⟨#[100, 105, 118]⟩ : ByteArray)) then
        some ([(⟨#[105, 110, 116]⟩ : ByteArray), (⟨#[105, 110, 116]⟩ : ByteArray)], (⟨#[105, 110, 116]⟩ : ByteArray), true)
      else
        if (eqB a0 (⟨#[109, 111, 100]⟩ : ByteArray)) then
          some ([(⟨#[105, 110, 116]⟩ : ByteArray), (⟨#[105, 110, 116]⟩ : ByteArray)], (⟨#[105, 110, 116]⟩ : ByteArray), true)
        else
          if (eqB a0 (⟨#[109, 105, 110]⟩ : ByteArray)) then
            some ([(⟨#[105, 110, 116]⟩ : ByteArray), (⟨#[105, 110, 116]⟩ : ByteArray)], (⟨#[105, 110, 116]⟩ : ByteArray), true)
          else
            if (eqB a0 (⟨#[109, 97, 120]⟩ : ByteArray)) then
              some ([(⟨#[105, 110, 116]⟩ : ByteArray), (⟨#[105, 110, 116]⟩ : ByteArray)], (⟨#[105, 110, 116]⟩ : ByteArray), true)
            else
              if (eqB a0 (⟨#[110, 101, 103]⟩ : ByteArray)) then
                some ([(⟨#[105, 110, 116]⟩ : ByteArray)], (⟨#[105, 110, 116]⟩ : ByteArray), true)
              else
                if (eqB a0 (⟨#[97, 98, 115]⟩ : ByteArray)) then
                  some ([(⟨#[105, 110, 116]⟩ : ByteArray)], (⟨#[105, 110, 116]⟩ : ByteArray), true)
                else
                  if (eqB a0 (⟨#[115, 105, 103, 110]⟩ : ByteArray)) then
                    some ([(⟨#[105, 110, 116]⟩ : ByteArray)], (⟨#[105, 110, 116]⟩ : ByteArray), true)
                  else
                    if (eqB a0 (⟨#[108, 116]⟩ : ByteArray)) then
                      some ([(⟨#[105, 110, 116]⟩ : ByteArray), (⟨#[105, 110, 116]⟩ : ByteArray)], (⟨#[98, 111, 111, 108]⟩ : ByteArray), true)
                    else
                      if (eqB a0 (⟨#[108, 101]⟩ : ByteArray)) then
                        some ([(⟨#[105, 110, 116]⟩ : ByteArray), (⟨#[105, 110, 116]⟩ : ByteArray)], (⟨#[98, 111, 111, 108]⟩ : ByteArray), true)
                      else
                        if (eqB a0 (⟨#[103, 116]⟩ : ByteArray)) then
                          some ([(⟨#[105, 110, 116]⟩ : ByteArray), (⟨#[105, 110, 116]⟩ : ByteArray)], (⟨#[98, 111, 111, 108]⟩ : ByteArray), true)
                        else
                          if (eqB a0 (⟨#[103, 101]⟩ : ByteArray)) then
                            some ([(⟨#[105, 110, 116]⟩ : ByteArray), (⟨#[105, 110, 116]⟩ : ByteArray)], (⟨#[98, 111, 111, 108]⟩ : ByteArray), true)
                          else
                            if (eqB a0 (⟨#[101, 113]⟩ : ByteArray)) then
                              some ([(⟨#[65]⟩ : ByteArray), (⟨#[65]⟩ : ByteArray)], (⟨#[98, 111, 111, 108]⟩ : ByteArray), true)
                            else
                              if (eqB a0 (⟨#[110, 101]⟩ : ByteArray)) then
                                some ([(⟨#[65]⟩ : ByteArray), (⟨#[65]⟩ : ByteArray)], (⟨#[98, 111, 111, 108]⟩ : ByteArray), true)
                              else
                                if (eqB a0 (⟨#[97, 110, 100]⟩ : ByteArray)) then
                                  some ([(⟨#[98, 111, 111, 108]⟩ : ByteArray), (⟨#[98, 111, 111, 108]⟩ : ByteArray)], (⟨#[98, 111, 111, 108]⟩ : ByteArray), true)
                                else
                                  if (eqB a0 (⟨#[111, 114]⟩ : ByteArray)) then
                                    some ([(⟨#[98, 111, 111, 108]⟩ : ByteArray), (⟨#[98, 111, 111, 108]⟩ : ByteArray)], (⟨#[98, 111, 111, 108]⟩ : ByteArray), true)
                                  else
                                    if (eqB a0 (⟨#[120, 111, 114]⟩ : ByteArray)) then
                                      some ([(⟨#[98, 111, 111, 108]⟩ : ByteArray), (⟨#[98, 111, 111, 108]⟩ : ByteArray)], (⟨#[98, 111, 111, 108]⟩ : ByteArray), true)
                                    else
                                      if (eqB a0 (⟨#[110, 111, 116]⟩ : ByteArray)) then
                                        some ([(⟨#[98, 111, 111, 108]⟩ : ByteArray)], (⟨#[98, 111, 111, 108]⟩ : ByteArray), true)
                                      else
                                        if (eqB a0 (⟨#[115, 101, 108, 101, 99, 116]⟩ : ByteArray)) then
                                          some ([(⟨#[98, 111, 111, 108]⟩ : ByteArray), (⟨#[65]⟩ : ByteArray), (⟨#[65]⟩ : ByteArray)], (⟨#[65]⟩ : ByteArray), true)
                                        else
                                          if (eqB a0 (⟨#[116, 111, 105, 110, 116]⟩ : ByteArray)) then
                                            some ([(⟨#[98, 111, 111, 108]⟩ : ByteArray)], (⟨#[105, 110, 116]⟩ : ByteArray), true)
                                          else
                                            some ([], (⟨#[]⟩ : ByteArray), false)
set_option maxHeartbeats 2000000 in
theorem ref17_Types_ok {a0 : ByteArray} {r : (List ByteArray) × ByteArray × Bool} (hr : ref17_Types a0 = some r) : Meets Tryd.prog 13 [.c (.string a0)] (.tup [.sl false 1 (r.1.map e_string), .c (.string r.2.1), .c (.bool r.2.2)]) := by
  unfold ref17_Types at hr
  refine meetsV_of (X := true) Ty.mixed Tryd.func13 (by kernel_rfl) rfl (by kernel_rfl) (by simp) ?_; rw [Tryd.ntmps13, Tryd.results13]
  cases h71 : (eqB a0 (⟨#[97, 100, 100]⟩ : ByteArray)) with
  | true =>
    simp only [h71, ↓reduceIte, Bool.false_eq_true] at hr
    simp only [awp_skip, awp_reg, awp_seq, awp_cond, awp_block, awp_ret, seqQ_n, seqQ_r, blkQ_r, awpOps_nil, awpOps_one, awpOp_is, isCallV, putK_is, updK_is, put_s, upd_s, slot_is, slot.eq_1, pureOp, apureO, astepO, bsEnd_is, killT, aev, cv, cvc, binK, elO_s, cellsA, cellOk, setAll, fillA, condA_t, elemsA, chunk, isD_c, isDL_nil, isDL_cons, toD_c, toD_tup, toD_own, consO_some, toDL_nil, toDL_cons, notExit, resA_nil, resA_tmp, oneA_2, argT, isC, bsD, retV_is, Bool.false_eq_true, ↓reduceIte, List.getElem?_cons_zero, List.length_cons, List.length_nil, List.map_cons, List.map_nil, List.cons_append, List.nil_append, List.set_cons_zero, List.set_cons_succ, Option.map_some, List.take_succ_cons, List.take_zero, List.drop_succ_cons, List.drop_zero, List.all_cons, List.all_nil, Bool.true_and, Bool.and_self, Value.oneCell', true_and, and_self, reduceCtorEq, Nat.reduceAdd, Nat.reduceMul, Nat.reduceLT, Nat.reduceLeDiff, Nat.reduceEqDiff, Nat.reduceMod, Nat.zero_add, List.range_succ, List.range_zero, Nat.le_refl, List.take_nil, Ty.td9, Ty.td26, h71, List.length_map, eqB_is]
    cases hr
    (try simp only [List.map_append, List.map_cons, List.map_nil, List.map_set, List.length_append, List.length_cons, List.length_nil, List.length_map, Nat.zero_add, List.map_take, List.map_drop]); (repeat' (first | with_reducible exact leV.refl _ | with_reducible exact leL.refl _ | with_reducible exact leE.refl _ | refine leL_cons _ _ _ _ ?_ ?_ | refine leV_agg _ _ ?_ | refine leV_tup _ _ ?_ | refine leV_dptr _ _ ?_ | refine leV_fn _ _ _ ?_ | exact leL_nil | exact leE_nil | (rw [leV_nil]; trivial) | (rw [leV_junk]; trivial) | refine leV_sl _ _ _ _ _ rfl ?_ | exact leV.refl _ | refine leE_app _ _ _ _ ?_ ?_ | refine leE_cons _ _ _ _ ?_ ?_ | exact leE.refl _ | (refine leV_eq _ _ ?_; simp; done) | rfl | (simp [mapV_nil]; done)))
  | false =>
    simp only [h71, ↓reduceIte, Bool.false_eq_true] at hr
    cases h72 : (eqB a0 (⟨#[115, 117, 98]⟩ : ByteArray)) with
    | true =>
      simp only [h72, ↓reduceIte, Bool.false_eq_true] at hr
      simp only [awp_skip, awp_reg, awp_seq, awp_cond, awp_block, awp_ret, seqQ_n, seqQ_r, blkQ_r, awpOps_nil, awpOps_one, awpOp_is, isCallV, putK_is, updK_is, put_s, upd_s, slot_is, slot.eq_1, pureOp, apureO, astepO, bsEnd_is, killT, aev, cv, cvc, binK, elO_s, cellsA, cellOk, setAll, fillA, condA_t, condA_f, elemsA, chunk, isD_c, isDL_nil, isDL_cons, toD_c, toD_tup, toD_own, consO_some, toDL_nil, toDL_cons, notExit, resA_nil, resA_tmp, oneA_2, argT, isC, bsD, retV_is, Bool.false_eq_true, ↓reduceIte, List.getElem?_cons_zero, List.length_cons, List.length_nil, List.map_cons, List.map_nil, List.cons_append, List.nil_append, List.set_cons_zero, List.set_cons_succ, Option.map_some, List.take_succ_cons, List.take_zero, List.drop_succ_cons, List.drop_zero, List.all_cons, List.all_nil, Bool.true_and, Bool.and_self, Value.oneCell', true_and, and_self, reduceCtorEq, Nat.reduceAdd, Nat.reduceMul, Nat.reduceLT, Nat.reduceLeDiff, Nat.reduceEqDiff, Nat.reduceMod, Nat.zero_add, List.range_succ, List.range_zero, Nat.le_refl, List.take_nil, Ty.td9, Ty.td26, h71, h72, List.length_map, eqB_is]
      cases hr
      (try simp only [List.map_append, List.map_cons, List.map_nil, List.map_set, List.length_append, List.length_cons, List.length_nil, List.length_map, Nat.zero_add, List.map_take, List.map_drop]); (repeat' (first | with_reducible exact leV.refl _ | with_reducible exact leL.refl _ | with_reducible exact leE.refl _ | refine leL_cons _ _ _ _ ?_ ?_ | refine leV_agg _ _ ?_ | refine leV_tup _ _ ?_ | refine leV_dptr _ _ ?_ | refine leV_fn _ _ _ ?_ | exact leL_nil | exact leE_nil | (rw [leV_nil]; trivial) | (rw [leV_junk]; trivial) | refine leV_sl _ _ _ _ _ rfl ?_ | exact leV.refl _ | refine leE_app _ _ _ _ ?_ ?_ | refine leE_cons _ _ _ _ ?_ ?_ | exact leE.refl _ | (refine leV_eq _ _ ?_; simp; done) | rfl | (simp [mapV_nil]; done)))
    | false =>
      simp only [h72, ↓reduceIte, Bool.false_eq_true] at hr
      cases h73 : (eqB a0 (⟨#[109, 117, 108]⟩ : ByteArray)) with
      | true =>
        simp only [h73, ↓reduceIte, Bool.false_eq_true] at hr
        simp only [awp_skip, awp_reg, awp_seq, awp_cond, awp_block, awp_ret, seqQ_n, seqQ_r, blkQ_r, awpOps_nil, awpOps_one, awpOp_is, isCallV, putK_is, updK_is, put_s, upd_s, slot_is, slot.eq_1, pureOp, apureO, astepO, bsEnd_is, killT, aev, cv, cvc, binK, elO_s, cellsA, cellOk, setAll, fillA, condA_t, condA_f, elemsA, chunk, isD_c, isDL_nil, isDL_cons, toD_c, toD_tup, toD_own, consO_some, toDL_nil, toDL_cons, notExit, resA_nil, resA_tmp, oneA_2, argT, isC, bsD, retV_is, Bool.false_eq_true, ↓reduceIte, List.getElem?_cons_zero, List.length_cons, List.length_nil, List.map_cons, List.map_nil, List.cons_append, List.nil_append, List.set_cons_zero, List.set_cons_succ, Option.map_some, List.take_succ_cons, List.take_zero, List.drop_succ_cons, List.drop_zero, List.all_cons, List.all_nil, Bool.true_and, Bool.and_self, Value.oneCell', true_and, and_self, reduceCtorEq, Nat.reduceAdd, Nat.reduceMul, Nat.reduceLT, Nat.reduceLeDiff, Nat.reduceEqDiff, Nat.reduceMod, Nat.zero_add, List.range_succ, List.range_zero, Nat.le_refl, List.take_nil, Ty.td9, Ty.td26, h71, h72, h73, List.length_map, eqB_is]
        cases hr
        (try simp only [List.map_append, List.map_cons, List.map_nil, List.map_set, List.length_append, List.length_cons, List.length_nil, List.length_map, Nat.zero_add, List.map_take, List.map_drop]); (repeat' (first | with_reducible exact leV.refl _ | with_reducible exact leL.refl _ | with_reducible exact leE.refl _ | refine leL_cons _ _ _ _ ?_ ?_ | refine leV_agg _ _ ?_ | refine leV_tup _ _ ?_ | refine leV_dptr _ _ ?_ | refine leV_fn _ _ _ ?_ | exact leL_nil | exact leE_nil | (rw [leV_nil]; trivial) | (rw [leV_junk]; trivial) | refine leV_sl _ _ _ _ _ rfl ?_ | exact leV.refl _ | refine leE_app _ _ _ _ ?_ ?_ | refine leE_cons _ _ _ _ ?_ ?_ | exact leE.refl _ | (refine leV_eq _ _ ?_; simp; done) | rfl | (simp [mapV_nil]; done)))
      | false =>
        simp only [h73, ↓reduceIte, Bool.false_eq_true] at hr
        cases h74 : (eqB a0 (⟨#[100, 105, 118]⟩ : ByteArray)) with
        | true =>
          simp only [h74, ↓reduceIte, Bool.false_eq_true] at hr
          simp only [awp_skip, awp_reg, awp_seq, awp_cond, awp_block, awp_ret, seqQ_n, seqQ_r, blkQ_r, awpOps_nil, awpOps_one, awpOp_is, isCallV, putK_is, updK_is, put_s, upd_s, slot_is, slot.eq_1, pureOp, apureO, astepO, bsEnd_is, killT, aev, cv, cvc, binK, elO_s, cellsA, cellOk, setAll, fillA, condA_t, condA_f, elemsA, chunk, isD_c, isDL_nil, isDL_cons, toD_c, toD_tup, toD_own, consO_some, toDL_nil, toDL_cons, notExit, resA_nil, resA_tmp, oneA_2, argT, isC, bsD, retV_is, Bool.false_eq_true, ↓reduceIte, List.getElem?_cons_zero, List.length_cons, List.length_nil, List.map_cons, List.map_nil, List.cons_append, List.nil_append, List.set_cons_zero, List.set_cons_succ, Option.map_some, List.take_succ_cons, List.take_zero, List.drop_succ_cons, List.drop_zero, List.all_cons, List.all_nil, Bool.true_and, Bool.and_self, Value.oneCell', true_and, and_self, reduceCtorEq, Nat.reduceAdd, Nat.reduceMul, Nat.reduceLT, Nat.reduceLeDiff, Nat.reduceEqDiff, Nat.reduceMod, Nat.zero_add, List.range_succ, List.range_zero, Nat.le_refl, List.take_nil, Ty.td9, Ty.td26, h71, h72, h73, h74, List.length_map, eqB_is]
          cases hr
          (try simp only [List.map_append, List.map_cons, List.map_nil, List.map_set, List.length_append, List.length_cons, List.length_nil, List.length_map, Nat.zero_add, List.map_take, List.map_drop]); (repeat' (first | with_reducible exact leV.refl _ | with_reducible exact leL.refl _ | with_reducible exact leE.refl _ | refine leL_cons _ _ _ _ ?_ ?_ | refine leV_agg _ _ ?_ | refine leV_tup _ _ ?_ | refine leV_dptr _ _ ?_ | refine leV_fn _ _ _ ?_ | exact leL_nil | exact leE_nil | (rw [leV_nil]; trivial) | (rw [leV_junk]; trivial) | refine leV_sl _ _ _ _ _ rfl ?_ | exact leV.refl _ | refine leE_app _ _ _ _ ?_ ?_ | refine leE_cons _ _ _ _ ?_ ?_ | exact leE.refl _ | (refine leV_eq _ _ ?_; simp; done) | rfl | (simp [mapV_nil]; done)))
        | false =>
          simp only [h74, ↓reduceIte, Bool.false_eq_true] at hr
          cases h75 : (eqB a0 (⟨#[109, 111, 100]⟩ : ByteArray)) with
          | true =>
            simp only [h75, ↓reduceIte, Bool.false_eq_true] at hr
            simp only [awp_skip, awp_reg, awp_seq, awp_cond, awp_block, awp_ret, seqQ_n, seqQ_r, blkQ_r, awpOps_nil, awpOps_one, awpOp_is, isCallV, putK_is, updK_is, put_s, upd_s, slot_is, slot.eq_1, pureOp, apureO, astepO, bsEnd_is, killT, aev, cv, cvc, binK, elO_s, cellsA, cellOk, setAll, fillA, condA_t, condA_f, elemsA, chunk, isD_c, isDL_nil, isDL_cons, toD_c, toD_tup, toD_own, consO_some, toDL_nil, toDL_cons, notExit, resA_nil, resA_tmp, oneA_2, argT, isC, bsD, retV_is, Bool.false_eq_true, ↓reduceIte, List.getElem?_cons_zero, List.length_cons, List.length_nil, List.map_cons, List.map_nil, List.cons_append, List.nil_append, List.set_cons_zero, List.set_cons_succ, Option.map_some, List.take_succ_cons, List.take_zero, List.drop_succ_cons, List.drop_zero, List.all_cons, List.all_nil, Bool.true_and, Bool.and_self, Value.oneCell', true_and, and_self, reduceCtorEq, Nat.reduceAdd, Nat.reduceMul, Nat.reduceLT, Nat.reduceLeDiff, Nat.reduceEqDiff, Nat.reduceMod, Nat.zero_add, List.range_succ, List.range_zero, Nat.le_refl, List.take_nil, Ty.td9, Ty.td26, h71, h72, h73, h74, h75, List.length_map, eqB_is]
            cases hr
            (try simp only [List.map_append, List.map_cons, List.map_nil, List.map_set, List.length_append, List.length_cons, List.length_nil, List.length_map, Nat.zero_add, List.map_take, List.map_drop]); (repeat' (first | with_reducible exact leV.refl _ | with_reducible exact leL.refl _ | with_reducible exact leE.refl _ | refine leL_cons _ _ _ _ ?_ ?_ | refine leV_agg _ _ ?_ | refine leV_tup _ _ ?_ | refine leV_dptr _ _ ?_ | refine leV_fn _ _ _ ?_ | exact leL_nil | exact leE_nil | (rw [leV_nil]; trivial) | (rw [leV_junk]; trivial) | refine leV_sl _ _ _ _ _ rfl ?_ | exact leV.refl _ | refine leE_app _ _ _ _ ?_ ?_ | refine leE_cons _ _ _ _ ?_ ?_ | exact leE.refl _ | (refine leV_eq _ _ ?_; simp; done) | rfl | (simp [mapV_nil]; done)))
          | false =>
            simp only [h75, ↓reduceIte, Bool.false_eq_true] at hr
            cases h76 : (eqB a0 (⟨#[109, 105, 110]⟩ : ByteArray)) with
            | true =>
              simp only [h76, ↓reduceIte, Bool.false_eq_true] at hr
              simp only [awp_skip, awp_reg, awp_seq, awp_cond, awp_block, awp_ret, seqQ_n, seqQ_r, blkQ_r, awpOps_nil, awpOps_one, awpOp_is, isCallV, putK_is, updK_is, put_s, upd_s, slot_is, slot.eq_1, pureOp, apureO, astepO, bsEnd_is, killT, aev, cv, cvc, binK, elO_s, cellsA, cellOk, setAll, fillA, condA_t, condA_f, elemsA, chunk, isD_c, isDL_nil, isDL_cons, toD_c, toD_tup, toD_own, consO_some, toDL_nil, toDL_cons, notExit, resA_nil, resA_tmp, oneA_2, argT, isC, bsD, retV_is, Bool.false_eq_true, ↓reduceIte, List.getElem?_cons_zero, List.length_cons, List.length_nil, List.map_cons, List.map_nil, List.cons_append, List.nil_append, List.set_cons_zero, List.set_cons_succ, Option.map_some, List.take_succ_cons, List.take_zero, List.drop_succ_cons, List.drop_zero, List.all_cons, List.all_nil, Bool.true_and, Bool.and_self, Value.oneCell', true_and, and_self, reduceCtorEq, Nat.reduceAdd, Nat.reduceMul, Nat.reduceLT, Nat.reduceLeDiff, Nat.reduceEqDiff, Nat.reduceMod, Nat.zero_add, List.range_succ, List.range_zero, Nat.le_refl, List.take_nil, Ty.td9, Ty.td26, h71, h72, h73, h74, h75, h76, List.length_map, eqB_is]
              cases hr
              (try simp only [List.map_append, List.map_cons, List.map_nil, List.map_set, List.length_append, List.length_cons, List.length_nil, List.length_map, Nat.zero_add, List.map_take, List.map_drop]); (repeat' (first | with_reducible exact leV.refl _ | with_reducible exact leL.refl _ | with_reducible exact leE.refl _ | refine leL_cons _ _ _ _ ?_ ?_ | refine leV_agg _ _ ?_ | refine leV_tup _ _ ?_ | refine leV_dptr _ _ ?_ | refine leV_fn _ _ _ ?_ | exact leL_nil | exact leE_nil | (rw [leV_nil]; trivial) | (rw [leV_junk]; trivial) | refine leV_sl _ _ _ _ _ rfl ?_ | exact leV.refl _ | refine leE_app _ _ _ _ ?_ ?_ | refine leE_cons _ _ _ _ ?_ ?_ | exact leE.refl _ | (refine leV_eq _ _ ?_; simp; done) | rfl | (simp [mapV_nil]; done)))
            | false =>
              simp only [h76, ↓reduceIte, Bool.false_eq_true] at hr
              cases h77 : (eqB a0 (⟨#[109, 97, 120]⟩ : ByteArray)) with
              | true =>
                simp only [h77, ↓reduceIte, Bool.false_eq_true] at hr
                simp only [awp_reg, awp_seq, awp_cond, awp_block, awp_ret, seqQ_n, seqQ_r, blkQ_r, awpOps_nil, awpOps_one, awpOp_is, isCallV, putK_is, updK_is, put_s, upd_s, slot_is, slot.eq_1, pureOp, apureO, astepO, bsEnd_is, killT, aev, cv, cvc, binK, elO_s, cellsA, cellOk, setAll, fillA, condA_t, condA_f, elemsA, chunk, isD_c, isDL_nil, isDL_cons, toD_c, toD_tup, toD_own, consO_some, toDL_nil, toDL_cons, notExit, resA_nil, resA_tmp, oneA_2, argT, isC, bsD, retV_is, Bool.false_eq_true, ↓reduceIte, List.getElem?_cons_zero, List.length_cons, List.length_nil, List.map_cons, List.map_nil, List.cons_append, List.nil_append, List.set_cons_zero, List.set_cons_succ, Option.map_some, List.take_succ_cons, List.take_zero, List.drop_succ_cons, List.drop_zero, List.all_cons, List.all_nil, Bool.true_and, Bool.and_self, Value.oneCell', true_and, and_self, reduceCtorEq, Nat.reduceAdd, Nat.reduceMul, Nat.reduceLT, Nat.reduceLeDiff, Nat.reduceEqDiff, Nat.reduceMod, Nat.zero_add, List.range_succ, List.range_zero, Nat.le_refl, List.take_nil, Ty.td9, Ty.td26, h71, h72, h73, h74, h75, h76, h77, List.length_map, eqB_is]
                cases hr
                (try simp only [List.map_append, List.map_cons, List.map_nil, List.map_set, List.length_append, List.length_cons, List.length_nil, List.length_map, Nat.zero_add, List.map_take, List.map_drop]); (repeat' (first | with_reducible exact leV.refl _ | with_reducible exact leL.refl _ | with_reducible exact leE.refl _ | refine leL_cons _ _ _ _ ?_ ?_ | refine leV_agg _ _ ?_ | refine leV_tup _ _ ?_ | refine leV_dptr _ _ ?_ | refine leV_fn _ _ _ ?_ | exact leL_nil | exact leE_nil | (rw [leV_nil]; trivial) | (rw [leV_junk]; trivial) | refine leV_sl _ _ _ _ _ rfl ?_ | exact leV.refl _ | refine leE_app _ _ _ _ ?_ ?_ | refine leE_cons _ _ _ _ ?_ ?_ | exact leE.refl _ | (refine leV_eq _ _ ?_; simp; done) | rfl | (simp [mapV_nil]; done)))
              | false =>
                simp only [h77, ↓reduceIte, Bool.false_eq_true] at hr
                cases h78 : (eqB a0 (⟨#[110, 101, 103]⟩ : ByteArray)) with
                | true =>
                  simp only [h78, ↓reduceIte, Bool.false_eq_true] at hr
                  simp only [awp_skip, awp_reg, awp_seq, awp_cond, awp_block, awp_ret, seqQ_n, seqQ_r, blkQ_r, awpOps_nil, awpOps_one, awpOp_is, isCallV, putK_is, updK_is, put_s, upd_s, slot_is, slot.eq_1, pureOp, apureO, astepO, bsEnd_is, killT, aev, cv, cvc, binK, elO_s, cellsA, cellOk, setAll, fillA, condA_t, condA_f, elemsA, chunk, isD_c, isDL_nil, isDL_cons, toD_c, toD_tup, toD_own, consO_some, toDL_nil, toDL_cons, notExit, resA_nil, resA_tmp, oneA_2, argT, isC, bsD, retV_is, Bool.false_eq_true, ↓reduceIte, List.getElem?_cons_zero, List.length_cons, List.length_nil, List.map_cons, List.map_nil, List.nil_append, List.set_cons_zero, Option.map_some, List.take_succ_cons, List.drop_zero, List.all_cons, List.all_nil, Bool.true_and, Bool.and_self, Value.oneCell', true_and, and_self, reduceCtorEq, Nat.reduceMul, Nat.reduceLT, Nat.reduceLeDiff, Nat.reduceEqDiff, Nat.reduceMod, Nat.zero_add, List.range_succ, List.range_zero, Nat.le_refl, List.take_nil, Ty.td9, Ty.td26, h71, h72, h73, h74, h75, h76, h77, h78, List.length_map, eqB_is]
                  cases hr
                  (try simp only [List.map_append, List.map_cons, List.map_nil, List.map_set, List.length_append, List.length_cons, List.length_nil, List.length_map, Nat.zero_add, List.map_take, List.map_drop]); (repeat' (first | with_reducible exact leV.refl _ | with_reducible exact leL.refl _ | with_reducible exact leE.refl _ | refine leL_cons _ _ _ _ ?_ ?_ | refine leV_agg _ _ ?_ | refine leV_tup _ _ ?_ | refine leV_dptr _ _ ?_ | refine leV_fn _ _ _ ?_ | exact leL_nil | exact leE_nil | (rw [leV_nil]; trivial) | (rw [leV_junk]; trivial) | refine leV_sl _ _ _ _ _ rfl ?_ | exact leV.refl _ | refine leE_app _ _ _ _ ?_ ?_ | refine leE_cons _ _ _ _ ?_ ?_ | exact leE.refl _ | (refine leV_eq _ _ ?_; simp; done) | rfl | (simp [mapV_nil]; done)))
                | false =>
                  simp only [h78, ↓reduceIte, Bool.false_eq_true] at hr
                  cases h79 : (eqB a0 (⟨#[97, 98, 115]⟩ : ByteArray)) with
                  | true =>
                    simp only [h79, ↓reduceIte, Bool.false_eq_true] at hr
                    simp only [awp_skip, awp_reg, awp_seq, awp_cond, awp_block, awp_ret, seqQ_n, seqQ_r, blkQ_r, awpOps_nil, awpOps_one, awpOp_is, isCallV, putK_is, updK_is, put_s, upd_s, slot_is, slot.eq_1, pureOp, apureO, astepO, bsEnd_is, killT, aev, cv, cvc, binK, elO_s, cellsA, cellOk, setAll, fillA, condA_t, condA_f, elemsA, chunk, isD_c, isDL_nil, isDL_cons, toD_c, toD_tup, toD_own, consO_some, toDL_nil, toDL_cons, notExit, resA_nil, resA_tmp, oneA_2, argT, isC, bsD, retV_is, Bool.false_eq_true, ↓reduceIte, List.getElem?_cons_zero, List.length_cons, List.length_nil, List.map_cons, List.map_nil, List.nil_append, List.set_cons_zero, Option.map_some, List.take_succ_cons, List.drop_zero, List.all_cons, List.all_nil, Bool.true_and, Bool.and_self, Value.oneCell', true_and, and_self, reduceCtorEq, Nat.reduceMul, Nat.reduceLT, Nat.reduceLeDiff, Nat.reduceEqDiff, Nat.reduceMod, Nat.zero_add, List.range_succ, List.range_zero, Nat.le_refl, List.take_nil, Ty.td9, Ty.td26, h71, h72, h73, h74, h75, h76, h77, h78, h79, List.length_map, eqB_is]
                    cases hr
                    (try simp only [List.map_append, List.map_cons, List.map_nil, List.map_set, List.length_append, List.length_cons, List.length_nil, List.length_map, Nat.zero_add, List.map_take, List.map_drop]); (repeat' (first | with_reducible exact leV.refl _ | with_reducible exact leL.refl _ | with_reducible exact leE.refl _ | refine leL_cons _ _ _ _ ?_ ?_ | refine leV_agg _ _ ?_ | refine leV_tup _ _ ?_ | refine leV_dptr _ _ ?_ | refine leV_fn _ _ _ ?_ | exact leL_nil | exact leE_nil | (rw [leV_nil]; trivial) | (rw [leV_junk]; trivial) | refine leV_sl _ _ _ _ _ rfl ?_ | exact leV.refl _ | refine leE_app _ _ _ _ ?_ ?_ | refine leE_cons _ _ _ _ ?_ ?_ | exact leE.refl _ | (refine leV_eq _ _ ?_; simp; done) | rfl | (simp [mapV_nil]; done)))
                  | false =>
                    simp only [h79, ↓reduceIte, Bool.false_eq_true] at hr
                    cases h80 : (eqB a0 (⟨#[115, 105, 103, 110]⟩ : ByteArray)) with
                    | true =>
                      simp only [h80, ↓reduceIte, Bool.false_eq_true] at hr
                      simp only [awp_reg, awp_seq, awp_cond, awp_block, awp_ret, seqQ_n, seqQ_r, blkQ_r, awpOps_nil, awpOps_one, awpOp_is, isCallV, putK_is, updK_is, put_s, upd_s, slot_is, slot.eq_1, pureOp, apureO, astepO, bsEnd_is, killT, aev, cv, cvc, binK, elO_s, cellsA, cellOk, setAll, fillA, condA_t, condA_f, elemsA, chunk, isD_c, isDL_nil, isDL_cons, toD_c, toD_tup, toD_own, consO_some, toDL_nil, toDL_cons, notExit, resA_nil, resA_tmp, oneA_2, argT, isC, bsD, retV_is, Bool.false_eq_true, ↓reduceIte, List.getElem?_cons_zero, List.length_cons, List.length_nil, List.map_cons, List.map_nil, List.nil_append, List.set_cons_zero, Option.map_some, List.take_succ_cons, List.drop_zero, List.all_cons, List.all_nil, Bool.true_and, Bool.and_self, Value.oneCell', true_and, and_self, reduceCtorEq, Nat.reduceMul, Nat.reduceLT, Nat.reduceLeDiff, Nat.reduceEqDiff, Nat.reduceMod, Nat.zero_add, List.range_succ, List.range_zero, Nat.le_refl, List.take_nil, Ty.td9, Ty.td26, h71, h72, h73, h74, h75, h76, h77, h78, h79, h80, List.length_map, eqB_is]
                      cases hr
                      (try simp only [List.map_append, List.map_cons, List.map_nil, List.map_set, List.length_append, List.length_cons, List.length_nil, List.length_map, Nat.zero_add, List.map_take, List.map_drop]); (repeat' (first | with_reducible exact leV.refl _ | with_reducible exact leL.refl _ | with_reducible exact leE.refl _ | refine leL_cons _ _ _ _ ?_ ?_ | refine leV_agg _ _ ?_ | refine leV_tup _ _ ?_ | refine leV_dptr _ _ ?_ | refine leV_fn _ _ _ ?_ | exact leL_nil | exact leE_nil | (rw [leV_nil]; trivial) | (rw [leV_junk]; trivial) | refine leV_sl _ _ _ _ _ rfl ?_ | exact leV.refl _ | refine leE_app _ _ _ _ ?_ ?_ | refine leE_cons _ _ _ _ ?_ ?_ | exact leE.refl _ | (refine leV_eq _ _ ?_; simp; done) | rfl | (simp [mapV_nil]; done)))
                    | false =>
                      simp only [h80, ↓reduceIte, Bool.false_eq_true] at hr
                      cases h81 : (eqB a0 (⟨#[108, 116]⟩ : ByteArray)) with
                      | true =>
                        simp only [h81, ↓reduceIte, Bool.false_eq_true] at hr
                        simp only [awp_skip, awp_reg, awp_seq, awp_cond, awp_block, awp_ret, seqQ_n, seqQ_r, blkQ_r, awpOps_nil, awpOps_one, awpOp_is, isCallV, putK_is, updK_is, put_s, upd_s, slot_is, slot.eq_1, pureOp, apureO, astepO, bsEnd_is, killT, aev, cv, cvc, binK, elO_s, cellsA, cellOk, setAll, fillA, condA_t, condA_f, elemsA, chunk, isD_c, isDL_nil, isDL_cons, toD_c, toD_tup, toD_own, consO_some, toDL_nil, toDL_cons, notExit, resA_nil, resA_tmp, oneA_2, argT, isC, bsD, retV_is, Bool.false_eq_true, ↓reduceIte, List.getElem?_cons_zero, List.length_cons, List.length_nil, List.map_cons, List.map_nil, List.cons_append, List.nil_append, List.set_cons_zero, List.set_cons_succ, Option.map_some, List.take_succ_cons, List.take_zero, List.drop_succ_cons, List.drop_zero, List.all_cons, List.all_nil, Bool.true_and, Bool.and_self, Value.oneCell', true_and, and_self, reduceCtorEq, Nat.reduceAdd, Nat.reduceMul, Nat.reduceLT, Nat.reduceLeDiff, Nat.reduceEqDiff, Nat.reduceMod, Nat.zero_add, List.range_succ, List.range_zero, Nat.le_refl, List.take_nil, Ty.td9, Ty.td26, h71, h72, h73, h74, h75, h76, h77, h78, h79, h80, h81, List.length_map, eqB_is]
                        cases hr
                        (try simp only [List.map_append, List.map_cons, List.map_nil, List.map_set, List.length_append, List.length_cons, List.length_nil, List.length_map, Nat.zero_add, List.map_take, List.map_drop]); (repeat' (first | with_reducible exact leV.refl _ | with_reducible exact leL.refl _ | with_reducible exact leE.refl _ | refine leL_cons _ _ _ _ ?_ ?_ | refine leV_agg _ _ ?_ | refine leV_tup _ _ ?_ | refine leV_dptr _ _ ?_ | refine leV_fn _ _ _ ?_ | exact leL_nil | exact leE_nil | (rw [leV_nil]; trivial) | (rw [leV_junk]; trivial) | refine leV_sl _ _ _ _ _ rfl ?_ | exact leV.refl _ | refine leE_app _ _ _ _ ?_ ?_ | refine leE_cons _ _ _ _ ?_ ?_ | exact leE.refl _ | (refine leV_eq _ _ ?_; simp; done) | rfl | (simp [mapV_nil]; done)))
                      | false =>
                        simp only [h81, ↓reduceIte, Bool.false_eq_true] at hr
                        cases h82 : (eqB a0 (⟨#[108, 101]⟩ : ByteArray)) with
                        | true =>
                          simp only [h82, ↓reduceIte, Bool.false_eq_true] at hr
                          simp only [awp_skip, awp_reg, awp_seq, awp_cond, awp_block, awp_ret, seqQ_n, seqQ_r, blkQ_r, awpOps_nil, awpOps_one, awpOp_is, isCallV, putK_is, updK_is, put_s, upd_s, slot_is, slot.eq_1, pureOp, apureO, astepO, bsEnd_is, killT, aev, cv, cvc, binK, elO_s, cellsA, cellOk, setAll, fillA, condA_t, condA_f, elemsA, chunk, isD_c, isDL_nil, isDL_cons, toD_c, toD_tup, toD_own, consO_some, toDL_nil, toDL_cons, notExit, resA_nil, resA_tmp, oneA_2, argT, isC, bsD, retV_is, Bool.false_eq_true, ↓reduceIte, List.getElem?_cons_zero, List.length_cons, List.length_nil, List.map_cons, List.map_nil, List.cons_append, List.nil_append, List.set_cons_zero, List.set_cons_succ, Option.map_some, List.take_succ_cons, List.take_zero, List.drop_succ_cons, List.drop_zero, List.all_cons, List.all_nil, Bool.true_and, Bool.and_self, Value.oneCell', true_and, and_self, reduceCtorEq, Nat.reduceAdd, Nat.reduceMul, Nat.reduceLT, Nat.reduceLeDiff, Nat.reduceEqDiff, Nat.reduceMod, Nat.zero_add, List.range_succ, List.range_zero, Nat.le_refl, List.take_nil, Ty.td9, Ty.td26, h71, h72, h73, h74, h75, h76, h77, h78, h79, h80, h81, h82, List.length_map, eqB_is]
                          cases hr
                          (try simp only [List.map_append, List.map_cons, List.map_nil, List.map_set, List.length_append, List.length_cons, List.length_nil, List.length_map, Nat.zero_add, List.map_take, List.map_drop]); (repeat' (first | with_reducible exact leV.refl _ | with_reducible exact leL.refl _ | with_reducible exact leE.refl _ | refine leL_cons _ _ _ _ ?_ ?_ | refine leV_agg _ _ ?_ | refine leV_tup _ _ ?_ | refine leV_dptr _ _ ?_ | refine leV_fn _ _ _ ?_ | exact leL_nil | exact leE_nil | (rw [leV_nil]; trivial) | (rw [leV_junk]; trivial) | refine leV_sl _ _ _ _ _ rfl ?_ | exact leV.refl _ | refine leE_app _ _ _ _ ?_ ?_ | refine leE_cons _ _ _ _ ?_ ?_ | exact leE.refl _ | (refine leV_eq _ _ ?_; simp; done) | rfl | (simp [mapV_nil]; done)))
                        | false =>
                          simp only [h82, ↓reduceIte, Bool.false_eq_true] at hr
                          cases h83 : (eqB a0 (⟨#[103, 116]⟩ : ByteArray)) with
                          | true =>
                            simp only [h83, ↓reduceIte, Bool.false_eq_true] at hr
                            simp only [awp_skip, awp_reg, awp_seq, awp_cond, awp_block, awp_ret, seqQ_n, seqQ_r, blkQ_r, awpOps_nil, awpOps_one, awpOp_is, isCallV, putK_is, updK_is, put_s, upd_s, slot_is, slot.eq_1, pureOp, apureO, astepO, bsEnd_is, killT, aev, cv, cvc, binK, elO_s, cellsA, cellOk, setAll, fillA, condA_t, condA_f, elemsA, chunk, isD_c, isDL_nil, isDL_cons, toD_c, toD_tup, toD_own, consO_some, toDL_nil, toDL_cons, notExit, resA_nil, resA_tmp, oneA_2, argT, isC, bsD, retV_is, Bool.false_eq_true, ↓reduceIte, List.getElem?_cons_zero, List.length_cons, List.length_nil, List.map_cons, List.map_nil, List.cons_append, List.nil_append, List.set_cons_zero, List.set_cons_succ, Option.map_some, List.take_succ_cons, List.take_zero, List.drop_succ_cons, List.drop_zero, List.all_cons, List.all_nil, Bool.true_and, Bool.and_self, Value.oneCell', true_and, and_self, reduceCtorEq, Nat.reduceAdd, Nat.reduceMul, Nat.reduceLT, Nat.reduceLeDiff, Nat.reduceEqDiff, Nat.reduceMod, Nat.zero_add, List.range_succ, List.range_zero, Nat.le_refl, List.take_nil, Ty.td9, Ty.td26, h71, h72, h73, h74, h75, h76, h77, h78, h79, h80, h81, h82, h83, List.length_map, eqB_is]
                            cases hr
                            (try simp only [List.map_append, List.map_cons, List.map_nil, List.map_set, List.length_append, List.length_cons, List.length_nil, List.length_map, Nat.zero_add, List.map_take, List.map_drop]); (repeat' (first | with_reducible exact leV.refl _ | with_reducible exact leL.refl _ | with_reducible exact leE.refl _ | refine leL_cons _ _ _ _ ?_ ?_ | refine leV_agg _ _ ?_ | refine leV_tup _ _ ?_ | refine leV_dptr _ _ ?_ | refine leV_fn _ _ _ ?_ | exact leL_nil | exact leE_nil | (rw [leV_nil]; trivial) | (rw [leV_junk]; trivial) | refine leV_sl _ _ _ _ _ rfl ?_ | exact leV.refl _ | refine leE_app _ _ _ _ ?_ ?_ | refine leE_cons _ _ _ _ ?_ ?_ | exact leE.refl _ | (refine leV_eq _ _ ?_; simp; done) | rfl | (simp [mapV_nil]; done)))
                          | false =>
                            simp only [h83, ↓reduceIte, Bool.false_eq_true] at hr
                            cases h84 : (eqB a0 (⟨#[103, 101]⟩ : ByteArray)) with
                            | true =>
                              simp only [h84, ↓reduceIte, Bool.false_eq_true] at hr
                              simp only [awp_reg, awp_seq, awp_cond, awp_block, awp_ret, seqQ_n, seqQ_r, blkQ_r, awpOps_nil, awpOps_one, awpOp_is, isCallV, putK_is, updK_is, put_s, upd_s, slot_is, slot.eq_1, pureOp, apureO, astepO, bsEnd_is, killT, aev, cv, cvc, binK, elO_s, cellsA, cellOk, setAll, fillA, condA_t, condA_f, elemsA, chunk, isD_c, isDL_nil, isDL_cons, toD_c, toD_tup, toD_own, consO_some, toDL_nil, toDL_cons, notExit, resA_nil, resA_tmp, oneA_2, argT, isC, bsD, retV_is, Bool.false_eq_true, ↓reduceIte, List.getElem?_cons_zero, List.length_cons, List.length_nil, List.map_cons, List.map_nil, List.cons_append, List.nil_append, List.set_cons_zero, List.set_cons_succ, Option.map_some, List.take_succ_cons, List.take_zero, List.drop_succ_cons, List.drop_zero, List.all_cons, List.all_nil, Bool.true_and, Bool.and_self, Value.oneCell', true_and, and_self, reduceCtorEq, Nat.reduceAdd, Nat.reduceMul, Nat.reduceLT, Nat.reduceLeDiff, Nat.reduceEqDiff, Nat.reduceMod, Nat.zero_add, List.range_succ, List.range_zero, Nat.le_refl, List.take_nil, Ty.td9, Ty.td26, h71, h72, h73, h74, h75, h76, h77, h78, h79, h80, h81, h82, h83, h84, List.length_map, eqB_is]
                              cases hr
                              (try simp only [List.map_append, List.map_cons, List.map_nil, List.map_set, List.length_append, List.length_cons, List.length_nil, List.length_map, Nat.zero_add, List.map_take, List.map_drop]); (repeat' (first | with_reducible exact leV.refl _ | with_reducible exact leL.refl _ | with_reducible exact leE.refl _ | refine leL_cons _ _ _ _ ?_ ?_ | refine leV_agg _ _ ?_ | refine leV_tup _ _ ?_ | refine leV_dptr _ _ ?_ | refine leV_fn _ _ _ ?_ | exact leL_nil | exact leE_nil | (rw [leV_nil]; trivial) | (rw [leV_junk]; trivial) | refine leV_sl _ _ _ _ _ rfl ?_ | exact leV.refl _ | refine leE_app _ _ _ _ ?_ ?_ | refine leE_cons _ _ _ _ ?_ ?_ | exact leE.refl _ | (refine leV_eq _ _ ?_; simp; done) | rfl | (simp [mapV_nil]; done)))
                            | false =>
                              simp only [h84, ↓reduceIte, Bool.false_eq_true] at hr
                              cases h85 : (eqB a0 (⟨#[101, 113]⟩ : ByteArray)) with
                              | true =>
                                simp only [h85, ↓reduceIte, Bool.false_eq_true] at hr
                                simp only [awp_skip, awp_reg, awp_seq, awp_cond, awp_block, awp_ret, seqQ_n, seqQ_r, blkQ_r, awpOps_nil, awpOps_one, awpOp_is, isCallV, putK_is, updK_is, put_s, upd_s, slot_is, slot.eq_1, pureOp, apureO, astepO, bsEnd_is, killT, aev, cv, cvc, binK, elO_s, cellsA, cellOk, setAll, fillA, condA_t, condA_f, elemsA, chunk, isD_c, isDL_nil, isDL_cons, toD_c, toD_tup, toD_own, consO_some, toDL_nil, toDL_cons, notExit, resA_nil, resA_tmp, oneA_2, argT, isC, bsD, retV_is, Bool.false_eq_true, ↓reduceIte, List.getElem?_cons_zero, List.length_cons, List.length_nil, List.map_cons, List.map_nil, List.cons_append, List.nil_append, List.set_cons_zero, List.set_cons_succ, Option.map_some, List.take_succ_cons, List.take_zero, List.drop_succ_cons, List.drop_zero, List.all_cons, List.all_nil, Bool.true_and, Bool.and_self, Value.oneCell', true_and, and_self, reduceCtorEq, Nat.reduceAdd, Nat.reduceMul, Nat.reduceLT, Nat.reduceLeDiff, Nat.reduceEqDiff, Nat.reduceMod, Nat.zero_add, List.range_succ, List.range_zero, Nat.le_refl, List.take_nil, Ty.td9, Ty.td26, h71, h72, h73, h74, h75, h76, h77, h78, h79, h80, h81, h82, h83, h84, h85, List.length_map, eqB_is]
                                cases hr
                                (try simp only [List.map_append, List.map_cons, List.map_nil, List.map_set, List.length_append, List.length_cons, List.length_nil, List.length_map, Nat.zero_add, List.map_take, List.map_drop]); (repeat' (first | with_reducible exact leV.refl _ | with_reducible exact leL.refl _ | with_reducible exact leE.refl _ | refine leL_cons _ _ _ _ ?_ ?_ | refine leV_agg _ _ ?_ | refine leV_tup _ _ ?_ | refine leV_dptr _ _ ?_ | refine leV_fn _ _ _ ?_ | exact leL_nil | exact leE_nil | (rw [leV_nil]; trivial) | (rw [leV_junk]; trivial) | refine leV_sl _ _ _ _ _ rfl ?_ | exact leV.refl _ | refine leE_app _ _ _ _ ?_ ?_ | refine leE_cons _ _ _ _ ?_ ?_ | exact leE.refl _ | (refine leV_eq _ _ ?_; simp; done) | rfl | (simp [mapV_nil]; done)))
                              | false =>
                                simp only [h85, ↓reduceIte, Bool.false_eq_true] at hr
                                cases h86 : (eqB a0 (⟨#[110, 101]⟩ : ByteArray)) with
                                | true =>
                                  simp only [h86, ↓reduceIte, Bool.false_eq_true] at hr
                                  simp only [awp_reg, awp_seq, awp_cond, awp_block, awp_ret, seqQ_n, seqQ_r, blkQ_r, awpOps_nil, awpOps_one, awpOp_is, isCallV, putK_is, updK_is, put_s, upd_s, slot_is, slot.eq_1, pureOp, apureO, astepO, bsEnd_is, killT, aev, cv, cvc, binK, elO_s, cellsA, cellOk, setAll, fillA, condA_t, condA_f, elemsA, chunk, isD_c, isDL_nil, isDL_cons, toD_c, toD_tup, toD_own, consO_some, toDL_nil, toDL_cons, notExit, resA_nil, resA_tmp, oneA_2, argT, isC, bsD, retV_is, Bool.false_eq_true, ↓reduceIte, List.getElem?_cons_zero, List.length_cons, List.length_nil, List.map_cons, List.map_nil, List.cons_append, List.nil_append, List.set_cons_zero, List.set_cons_succ, Option.map_some, List.take_succ_cons, List.take_zero, List.drop_succ_cons, List.drop_zero, List.all_cons, List.all_nil, Bool.true_and, Bool.and_self, Value.oneCell', true_and, and_self, reduceCtorEq, Nat.reduceAdd, Nat.reduceMul, Nat.reduceLT, Nat.reduceLeDiff, Nat.reduceEqDiff, Nat.reduceMod, Nat.zero_add, List.range_succ, List.range_zero, Nat.le_refl, List.take_nil, Ty.td9, Ty.td26, h71, h72, h73, h74, h75, h76, h77, h78, h79, h80, h81, h82, h83, h84, h85, h86, List.length_map, eqB_is]
                                  cases hr
                                  (try simp only [List.map_append, List.map_cons, List.map_nil, List.map_set, List.length_append, List.length_cons, List.length_nil, List.length_map, Nat.zero_add, List.map_take, List.map_drop]); (repeat' (first | with_reducible exact leV.refl _ | with_reducible exact leL.refl _ | with_reducible exact leE.refl _ | refine leL_cons _ _ _ _ ?_ ?_ | refine leV_agg _ _ ?_ | refine leV_tup _ _ ?_ | refine leV_dptr _ _ ?_ | refine leV_fn _ _ _ ?_ | exact leL_nil | exact leE_nil | (rw [leV_nil]; trivial) | (rw [leV_junk]; trivial) | refine leV_sl _ _ _ _ _ rfl ?_ | exact leV.refl _ | refine leE_app _ _ _ _ ?_ ?_ | refine leE_cons _ _ _ _ ?_ ?_ | exact leE.refl _ | (refine leV_eq _ _ ?_; simp; done) | rfl | (simp [mapV_nil]; done)))
                                | false =>
                                  simp only [h86, ↓reduceIte, Bool.false_eq_true] at hr
                                  cases h87 : (eqB a0 (⟨#[97, 110, 100]⟩ : ByteArray)) with
                                  | true =>
                                    simp only [h87, ↓reduceIte, Bool.false_eq_true] at hr
                                    simp only [awp_skip, awp_reg, awp_seq, awp_cond, awp_block, awp_ret, seqQ_n, seqQ_r, blkQ_r, awpOps_nil, awpOps_one, awpOp_is, isCallV, putK_is, updK_is, put_s, upd_s, slot_is, slot.eq_1, pureOp, apureO, astepO, bsEnd_is, killT, aev, cv, cvc, binK, elO_s, cellsA, cellOk, setAll, fillA, condA_t, condA_f, elemsA, chunk, isD_c, isDL_nil, isDL_cons, toD_c, toD_tup, toD_own, consO_some, toDL_nil, toDL_cons, notExit, resA_nil, resA_tmp, oneA_2, argT, isC, bsD, retV_is, Bool.false_eq_true, ↓reduceIte, List.getElem?_cons_zero, List.length_cons, List.length_nil, List.map_cons, List.map_nil, List.cons_append, List.nil_append, List.set_cons_zero, List.set_cons_succ, Option.map_some, List.take_succ_cons, List.take_zero, List.drop_succ_cons, List.drop_zero, List.all_cons, List.all_nil, Bool.true_and, Bool.and_self, Value.oneCell', true_and, and_self, reduceCtorEq, Nat.reduceAdd, Nat.reduceMul, Nat.reduceLT, Nat.reduceLeDiff, Nat.reduceEqDiff, Nat.reduceMod, Nat.zero_add, List.range_succ, List.range_zero, Nat.le_refl, List.take_nil, Ty.td9, Ty.td26, h71, h72, h73, h74, h75, h76, h77, h78, h79, h80, h81, h82, h83, h84, h85, h86, h87, List.length_map, eqB_is]
                                    cases hr
                                    (try simp only [List.map_append, List.map_cons, List.map_nil, List.map_set, List.length_append, List.length_cons, List.length_nil, List.length_map, Nat.zero_add, List.map_take, List.map_drop]); (repeat' (first | with_reducible exact leV.refl _ | with_reducible exact leL.refl _ | with_reducible exact leE.refl _ | refine leL_cons _ _ _ _ ?_ ?_ | refine leV_agg _ _ ?_ | refine leV_tup _ _ ?_ | refine leV_dptr _ _ ?_ | refine leV_fn _ _ _ ?_ | exact leL_nil | exact leE_nil | (rw [leV_nil]; trivial) | (rw [leV_junk]; trivial) | refine leV_sl _ _ _ _ _ rfl ?_ | exact leV.refl _ | refine leE_app _ _ _ _ ?_ ?_ | refine leE_cons _ _ _ _ ?_ ?_ | exact leE.refl _ | (refine leV_eq _ _ ?_; simp; done) | rfl | (simp [mapV_nil]; done)))
                                  | false =>
                                    simp only [h87, ↓reduceIte, Bool.false_eq_true] at hr
                                    cases h88 : (eqB a0 (⟨#[111, 114]⟩ : ByteArray)) with
                                    | true =>
                                      simp only [h88, ↓reduceIte, Bool.false_eq_true] at hr
                                      simp only [awp_skip, awp_reg, awp_seq, awp_cond, awp_block, awp_ret, seqQ_n, seqQ_r, blkQ_r, awpOps_nil, awpOps_one, awpOp_is, isCallV, putK_is, updK_is, put_s, upd_s, slot_is, slot.eq_1, pureOp, apureO, astepO, bsEnd_is, killT, aev, cv, cvc, binK, elO_s, cellsA, cellOk, setAll, fillA, condA_t, condA_f, elemsA, chunk, isD_c, isDL_nil, isDL_cons, toD_c, toD_tup, toD_own, consO_some, toDL_nil, toDL_cons, notExit, resA_nil, resA_tmp, oneA_2, argT, isC, bsD, retV_is, Bool.false_eq_true, ↓reduceIte, List.getElem?_cons_zero, List.length_cons, List.length_nil, List.map_cons, List.map_nil, List.cons_append, List.nil_append, List.set_cons_zero, List.set_cons_succ, Option.map_some, List.take_succ_cons, List.take_zero, List.drop_succ_cons, List.drop_zero, List.all_cons, List.all_nil, Bool.true_and, Bool.and_self, Value.oneCell', true_and, and_self, reduceCtorEq, Nat.reduceAdd, Nat.reduceMul, Nat.reduceLT, Nat.reduceLeDiff, Nat.reduceEqDiff, Nat.reduceMod, Nat.zero_add, List.range_succ, List.range_zero, Nat.le_refl, List.take_nil, Ty.td9, Ty.td26, h71, h72, h73, h74, h75, h76, h77, h78, h79, h80, h81, h82, h83, h84, h85, h86, h87, h88, List.length_map, eqB_is]
                                      cases hr
                                      (try simp only [List.map_append, List.map_cons, List.map_nil, List.map_set, List.length_append, List.length_cons, List.length_nil, List.length_map, Nat.zero_add, List.map_take, List.map_drop]); (repeat' (first | with_reducible exact leV.refl _ | with_reducible exact leL.refl _ | with_reducible exact leE.refl _ | refine leL_cons _ _ _ _ ?_ ?_ | refine leV_agg _ _ ?_ | refine leV_tup _ _ ?_ | refine leV_dptr _ _ ?_ | refine leV_fn _ _ _ ?_ | exact leL_nil | exact leE_nil | (rw [leV_nil]; trivial) | (rw [leV_junk]; trivial) | refine leV_sl _ _ _ _ _ rfl ?_ | exact leV.refl _ | refine leE_app _ _ _ _ ?_ ?_ | refine leE_cons _ _ _ _ ?_ ?_ | exact leE.refl _ | (refine leV_eq _ _ ?_; simp; done) | rfl | (simp [mapV_nil]; done)))
                                    | false =>
                                      simp only [h88, ↓reduceIte, Bool.false_eq_true] at hr
                                      cases h89 : (eqB a0 (⟨#[120, 111, 114]⟩ : ByteArray)) with
                                      | true =>
                                        simp only [h89, ↓reduceIte, Bool.false_eq_true] at hr
                                        simp only [awp_reg, awp_seq, awp_cond, awp_block, awp_ret, seqQ_n, seqQ_r, blkQ_r, awpOps_nil, awpOps_one, awpOp_is, isCallV, putK_is, updK_is, put_s, upd_s, slot_is, slot.eq_1, pureOp, apureO, astepO, bsEnd_is, killT, aev, cv, cvc, binK, elO_s, cellsA, cellOk, setAll, fillA, condA_t, condA_f, elemsA, chunk, isD_c, isDL_nil, isDL_cons, toD_c, toD_tup, toD_own, consO_some, toDL_nil, toDL_cons, notExit, resA_nil, resA_tmp, oneA_2, argT, isC, bsD, retV_is, Bool.false_eq_true, ↓reduceIte, List.getElem?_cons_zero, List.length_cons, List.length_nil, List.map_cons, List.map_nil, List.cons_append, List.nil_append, List.set_cons_zero, List.set_cons_succ, Option.map_some, List.take_succ_cons, List.take_zero, List.drop_succ_cons, List.drop_zero, List.all_cons, List.all_nil, Bool.true_and, Bool.and_self, Value.oneCell', true_and, and_self, reduceCtorEq, Nat.reduceAdd, Nat.reduceMul, Nat.reduceLT, Nat.reduceLeDiff, Nat.reduceEqDiff, Nat.reduceMod, Nat.zero_add, List.range_succ, List.range_zero, Nat.le_refl, List.take_nil, Ty.td9, Ty.td26, h71, h72, h73, h74, h75, h76, h77, h78, h79, h80, h81, h82, h83, h84, h85, h86, h87, h88, h89, List.length_map, eqB_is]
                                        cases hr
                                        (try simp only [List.map_append, List.map_cons, List.map_nil, List.map_set, List.length_append, List.length_cons, List.length_nil, List.length_map, Nat.zero_add, List.map_take, List.map_drop]); (repeat' (first | with_reducible exact leV.refl _ | with_reducible exact leL.refl _ | with_reducible exact leE.refl _ | refine leL_cons _ _ _ _ ?_ ?_ | refine leV_agg _ _ ?_ | refine leV_tup _ _ ?_ | refine leV_dptr _ _ ?_ | refine leV_fn _ _ _ ?_ | exact leL_nil | exact leE_nil | (rw [leV_nil]; trivial) | (rw [leV_junk]; trivial) | refine leV_sl _ _ _ _ _ rfl ?_ | exact leV.refl _ | refine leE_app _ _ _ _ ?_ ?_ | refine leE_cons _ _ _ _ ?_ ?_ | exact leE.refl _ | (refine leV_eq _ _ ?_; simp; done) | rfl | (simp [mapV_nil]; done)))
                                      | false =>
                                        simp only [h89, ↓reduceIte, Bool.false_eq_true] at hr
                                        cases h90 : (eqB a0 (⟨#[110, 111, 116]⟩ : ByteArray)) with
                                        | true =>
                                          simp only [h90, ↓reduceIte, Bool.false_eq_true] at hr
                                          simp only [awp_reg, awp_seq, awp_cond, awp_block, awp_ret, seqQ_n, seqQ_r, blkQ_r, awpOps_nil, awpOps_one, awpOp_is, isCallV, putK_is, updK_is, put_s, upd_s, slot_is, slot.eq_1, pureOp, apureO, astepO, bsEnd_is, killT, aev, cv, cvc, binK, elO_s, cellsA, cellOk, setAll, fillA, condA_t, condA_f, elemsA, chunk, isD_c, isDL_nil, isDL_cons, toD_c, toD_tup, toD_own, consO_some, toDL_nil, toDL_cons, notExit, resA_nil, resA_tmp, oneA_2, argT, isC, bsD, retV_is, Bool.false_eq_true, ↓reduceIte, List.getElem?_cons_zero, List.length_cons, List.length_nil, List.map_cons, List.map_nil, List.nil_append, List.set_cons_zero, Option.map_some, List.take_succ_cons, List.drop_zero, List.all_cons, List.all_nil, Bool.true_and, Bool.and_self, Value.oneCell', true_and, and_self, reduceCtorEq, Nat.reduceMul, Nat.reduceLT, Nat.reduceLeDiff, Nat.reduceEqDiff, Nat.reduceMod, Nat.zero_add, List.range_succ, List.range_zero, Nat.le_refl, List.take_nil, Ty.td9, Ty.td26, h71, h72, h73, h74, h75, h76, h77, h78, h79, h80, h81, h82, h83, h84, h85, h86, h87, h88, h89, h90, List.length_map, eqB_is]
                                          cases hr
                                          (try simp only [List.map_append, List.map_cons, List.map_nil, List.map_set, List.length_append, List.length_cons, List.length_nil, List.length_map, Nat.zero_add, List.map_take, List.map_drop]); (repeat' (first | with_reducible exact leV.refl _ | with_reducible exact leL.refl _ | with_reducible exact leE.refl _ | refine leL_cons _ _ _ _ ?_ ?_ | refine leV_agg _ _ ?_ | refine leV_tup _ _ ?_ | refine leV_dptr _ _ ?_ | refine leV_fn _ _ _ ?_ | exact leL_nil | exact leE_nil | (rw [leV_nil]; trivial) | (rw [leV_junk]; trivial) | refine leV_sl _ _ _ _ _ rfl ?_ | exact leV.refl _ | refine leE_app _ _ _ _ ?_ ?_ | refine leE_cons _ _ _ _ ?_ ?_ | exact leE.refl _ | (refine leV_eq _ _ ?_; simp; done) | rfl | (simp [mapV_nil]; done)))
                                        | false =>
                                          simp only [h90, ↓reduceIte, Bool.false_eq_true] at hr
                                          cases h91 : (eqB a0 (⟨#[115, 101, 108, 101, 99, 116]⟩ : ByteArray)) with
                                          | true =>
                                            simp only [h91, ↓reduceIte, Bool.false_eq_true] at hr
                                            simp only [awp_reg, awp_seq, awp_cond, awp_block, awp_ret, seqQ_n, seqQ_r, blkQ_r, awpOps_nil, awpOps_one, awpOp_is, isCallV, putK_is, updK_is, put_s, upd_s, slot_is, slot.eq_1, pureOp, apureO, astepO, bsEnd_is, killT, aev, cv, cvc, binK, elO_s, cellsA, cellOk, setAll, fillA, condA_t, condA_f, elemsA, chunk, isD_c, isDL_nil, isDL_cons, toD_c, toD_tup, toD_own, consO_some, toDL_nil, toDL_cons, notExit, resA_nil, resA_tmp, oneA_2, argT, isC, bsD, retV_is, Bool.false_eq_true, ↓reduceIte, List.getElem?_cons_zero, List.length_cons, List.length_nil, List.map_cons, List.map_nil, List.cons_append, List.nil_append, List.set_cons_zero, List.set_cons_succ, Option.map_some, List.take_succ_cons, List.take_zero, List.drop_succ_cons, List.drop_zero, List.all_cons, List.all_nil, Bool.true_and, Bool.and_self, Value.oneCell', true_and, and_self, reduceCtorEq, Nat.reduceAdd, Nat.reduceMul, Nat.reduceLT, Nat.reduceLeDiff, Nat.reduceEqDiff, Nat.reduceMod, Nat.zero_add, List.range_succ, List.range_zero, Nat.le_refl, List.take_nil, Ty.td9, Ty.td26, h71, h72, h73, h74, h75, h76, h77, h78, h79, h80, h81, h82, h83, h84, h85, h86, h87, h88, h89, h90, h91, List.length_map, eqB_is]
                                            cases hr
                                            (try simp only [List.map_append, List.map_cons, List.map_nil, List.map_set, List.length_append, List.length_cons, List.length_nil, List.length_map, Nat.zero_add, List.map_take, List.map_drop]); (repeat' (first | with_reducible exact leV.refl _ | with_reducible exact leL.refl _ | with_reducible exact leE.refl _ | refine leL_cons _ _ _ _ ?_ ?_ | refine leV_agg _ _ ?_ | refine leV_tup _ _ ?_ | refine leV_dptr _ _ ?_ | refine leV_fn _ _ _ ?_ | exact leL_nil | exact leE_nil | (rw [leV_nil]; trivial) | (rw [leV_junk]; trivial) | refine leV_sl _ _ _ _ _ rfl ?_ | exact leV.refl _ | refine leE_app _ _ _ _ ?_ ?_ | refine leE_cons _ _ _ _ ?_ ?_ | exact leE.refl _ | (refine leV_eq _ _ ?_; simp; done) | rfl | (simp [mapV_nil]; done)))
                                          | false =>
                                            simp only [h91, ↓reduceIte, Bool.false_eq_true] at hr
                                            cases h92 : (eqB a0 (⟨#[116, 111, 105, 110, 116]⟩ : ByteArray)) with
                                            | true =>
                                              simp only [h92, ↓reduceIte, Bool.false_eq_true] at hr
                                              simp only [awp_reg, awp_seq, awp_cond, awp_block, awp_ret, seqQ_n, seqQ_r, blkQ_r, awpOps_nil, awpOps_one, awpOp_is, isCallV, putK_is, updK_is, put_s, upd_s, slot_is, slot.eq_1, pureOp, apureO, astepO, bsEnd_is, killT, aev, cv, cvc, binK, elO_s, cellsA, cellOk, setAll, fillA, condA_t, condA_f, elemsA, chunk, isD_c, isDL_nil, isDL_cons, toD_c, toD_tup, toD_own, consO_some, toDL_nil, toDL_cons, notExit, resA_nil, resA_tmp, oneA_2, argT, isC, bsD, retV_is, Bool.false_eq_true, ↓reduceIte, List.getElem?_cons_zero, List.length_cons, List.length_nil, List.map_cons, List.map_nil, List.nil_append, List.set_cons_zero, Option.map_some, List.take_succ_cons, List.drop_zero, List.all_cons, List.all_nil, Bool.true_and, Bool.and_self, Value.oneCell', true_and, and_self, reduceCtorEq, Nat.reduceMul, Nat.reduceLT, Nat.reduceLeDiff, Nat.reduceEqDiff, Nat.reduceMod, Nat.zero_add, List.range_succ, List.range_zero, Nat.le_refl, List.take_nil, Ty.td9, Ty.td26, h71, h72, h73, h74, h75, h76, h77, h78, h79, h80, h81, h82, h83, h84, h85, h86, h87, h88, h89, h90, h91, h92, List.length_map, eqB_is]
                                              cases hr
                                              (try simp only [List.map_append, List.map_cons, List.map_nil, List.map_set, List.length_append, List.length_cons, List.length_nil, List.length_map, Nat.zero_add, List.map_take, List.map_drop]); (repeat' (first | with_reducible exact leV.refl _ | with_reducible exact leL.refl _ | with_reducible exact leE.refl _ | refine leL_cons _ _ _ _ ?_ ?_ | refine leV_agg _ _ ?_ | refine leV_tup _ _ ?_ | refine leV_dptr _ _ ?_ | refine leV_fn _ _ _ ?_ | exact leL_nil | exact leE_nil | (rw [leV_nil]; trivial) | (rw [leV_junk]; trivial) | refine leV_sl _ _ _ _ _ rfl ?_ | exact leV.refl _ | refine leE_app _ _ _ _ ?_ ?_ | refine leE_cons _ _ _ _ ?_ ?_ | exact leE.refl _ | (refine leV_eq _ _ ?_; simp; done) | rfl | (simp [mapV_nil]; done)))
                                            | false =>
                                              simp only [h92, ↓reduceIte, Bool.false_eq_true] at hr
                                              simp only [awp_skip, awp_reg, awp_seq, awp_cond, awp_block, awp_ret, seqQ_n, blkQ_n, awpOps_nil, awpOps_one, awpOp_is, putK_is, put_s, slot_is, pureOp, apureO, aev, cv, cvc, binK, elO_s, condA_f, toD_c, toD_nils, toD_tup, consO_some, toDL_nil, toDL_cons, notExit, resA_nil, resA_tmp, oneA_2, argT, isC, bsD, retV_is, ↓reduceIte, Option.map_some, Bool.true_and, true_and, reduceCtorEq, Nat.reduceEqDiff, h71, h72, h73, h74, h75, h76, h77, h78, h79, h80, h81, h82, h83, h84, h85, h86, h87, h88, h89, h90, h91, h92, eqB_is]
                                              cases hr
                                              (try simp only [List.map_append, List.map_cons, List.map_nil, List.map_set, List.length_append, List.length_cons, List.length_nil, List.length_map, Nat.zero_add, List.map_take, List.map_drop]); (repeat' (first | with_reducible exact leV.refl _ | with_reducible exact leL.refl _ | with_reducible exact leE.refl _ | refine leL_cons _ _ _ _ ?_ ?_ | refine leV_agg _ _ ?_ | refine leV_tup _ _ ?_ | refine leV_dptr _ _ ?_ | refine leV_fn _ _ _ ?_ | exact leL_nil | exact leE_nil | (rw [leV_nil]; trivial) | (rw [leV_junk]; trivial) | refine leV_sl _ _ _ _ _ rfl ?_ | exact leV.refl _ | refine leE_app _ _ _ _ ?_ ?_ | refine leE_cons _ _ _ _ ?_ ?_ | exact leE.refl _ | (refine leV_eq _ _ ?_; simp; done) | rfl | (simp [mapV_nil]; done)))

def ref17_Valid (a0 : ByteArray) (a1 : Int) : Option Bool :=
  if (eqB a0 (⟨#[98, 111, 111, 108]⟩ : ByteArray)) then
  if (a1 == (0 : Int)) then
    some true
  else
    some (a1 == (1 : Int))
else
  if (eqB a0 (⟨#[105, 110, 116]⟩ : ByteArray)) then
    if (decide ((-2147483648 : Int) ≤ a1)) then
      some (decide (a1 ≤ (2147483647 : Int)))
    else
      some false
  else
    some false
set_option maxHeartbeats 2000000 in
theorem ref17_Valid_ok {a0 : ByteArray} {a1 : Int} {r : Bool} (hr : ref17_Valid a0 a1 = some r) : Meets Tryd.prog 19 [.c (.string a0), .c (.int .i64 a1)] (.c (.bool r)) := by
  unfold ref17_Valid at hr
  refine meetsV_of (X := true) Ty.mixed Tryd.func19 (by kernel_rfl) rfl (by kernel_rfl) (by simp) ?_; rw [Tryd.ntmps19, Tryd.results19]
  cases h108 : (eqB a0 (⟨#[98, 111, 111, 108]⟩ : ByteArray)) with
  | true =>
    simp only [h108, ↓reduceIte, Bool.false_eq_true] at hr
    cases h109 : (a1 == (0 : Int)) with
    | true =>
      simp only [h109, ↓reduceIte, Bool.false_eq_true] at hr
      simp only [awp_reg, awp_seq, awp_cond, awp_ret, seqQ_n, seqQ_r, awpOps_nil, awpOps_one, awpOps_if, awpOp_is, putK_is, put_s, slot_is, pureOp, apureO, aev, cv, cvc, binK, elO_s, yieldA, guardA_ft, condA_t, pickA_t, toD_c, notExit, resA_nil, resA_tmp, oneA_1, argT, isC, bsD, retV_is, ↓reduceIte, List.getElem?_cons_zero, List.getElem?_cons_succ, List.getElem?_toArray, Option.bind_some, Bool.true_and, true_and, reduceCtorEq, Nat.reduceEqDiff, Nat.zero_add, h108, h109, eqB_is]
      cases hr
      (try simp only [List.map_append, List.map_cons, List.map_nil, List.map_set, List.length_append, List.length_cons, List.length_nil, List.length_map, Nat.zero_add, List.map_take, List.map_drop]); (repeat' (first | with_reducible exact leV.refl _ | with_reducible exact leL.refl _ | with_reducible exact leE.refl _ | refine leL_cons _ _ _ _ ?_ ?_ | refine leV_agg _ _ ?_ | refine leV_tup _ _ ?_ | refine leV_dptr _ _ ?_ | refine leV_fn _ _ _ ?_ | exact leL_nil | exact leE_nil | (rw [leV_nil]; trivial) | (rw [leV_junk]; trivial) | refine leV_sl _ _ _ _ _ rfl ?_ | exact leV.refl _ | refine leE_app _ _ _ _ ?_ ?_ | refine leE_cons _ _ _ _ ?_ ?_ | exact leE.refl _ | (refine leV_eq _ _ ?_; simp; done) | rfl | (simp [mapV_nil]; done)))
    | false =>
      simp only [h109, ↓reduceIte, Bool.false_eq_true] at hr
      simp only [awp_reg, awp_seq, awp_cond, awp_ret, seqQ_n, seqQ_r, awpOps_nil, awpOps_one, awpOps_if, awpOp_is, awpO_is, putK_is, put_s, slot_is, pureOp, apureO, aev, cv, cvc, binK, elO_s, yieldA, guardA_ff, condA_t, pickA_f, toD_c, notExit, resA_nil, resA_tmp, oneA_1, argT, isC, bsD, retV_is, ↓reduceIte, List.getElem?_cons_zero, List.getElem?_cons_succ, List.getElem?_toArray, Option.bind_some, Bool.true_and, true_and, reduceCtorEq, Nat.reduceEqDiff, Nat.zero_add, h108, h109, eqB_is]
      cases hr
      (try simp only [List.map_append, List.map_cons, List.map_nil, List.map_set, List.length_append, List.length_cons, List.length_nil, List.length_map, Nat.zero_add, List.map_take, List.map_drop]); (repeat' (first | with_reducible exact leV.refl _ | with_reducible exact leL.refl _ | with_reducible exact leE.refl _ | refine leL_cons _ _ _ _ ?_ ?_ | refine leV_agg _ _ ?_ | refine leV_tup _ _ ?_ | refine leV_dptr _ _ ?_ | refine leV_fn _ _ _ ?_ | exact leL_nil | exact leE_nil | (rw [leV_nil]; trivial) | (rw [leV_junk]; trivial) | refine leV_sl _ _ _ _ _ rfl ?_ | exact leV.refl _ | refine leE_app _ _ _ _ ?_ ?_ | refine leE_cons _ _ _ _ ?_ ?_ | exact leE.refl _ | (refine leV_eq _ _ ?_; simp; done) | rfl | (simp [mapV_nil]; done)))
  | false =>
    simp only [h108, ↓reduceIte, Bool.false_eq_true] at hr
    cases h110 : (eqB a0 (⟨#[105, 110, 116]⟩ : ByteArray)) with
    | true =>
      simp only [h110, ↓reduceIte, Bool.false_eq_true] at hr
      cases h111 : (decide ((-2147483648 : Int) ≤ a1)) with
      | true =>
        simp only [h111, ↓reduceIte, Bool.false_eq_true] at hr
        simp only [awp_skip, awp_reg, awp_seq, awp_cond, awp_ret, seqQ_n, awpOps_nil, awpOps_one, awpOps_if, awpOp_is, awpO_is, putK_is, put_s, slot_is, pureOp, apureO, aev, cv, cvc, binK, elO_s, yieldA, guardA_tt, condA_f, pickA_t, toD_c, notExit, resA_nil, resA_tmp, oneA_1, argT, isC, bsD, retV_is, ↓reduceIte, List.getElem?_cons_zero, List.getElem?_cons_succ, List.getElem?_toArray, Option.bind_some, Bool.true_and, true_and, reduceCtorEq, Nat.reduceEqDiff, Nat.zero_add, h108, h110, h111, eqB_is]
        cases hr
        (try simp only [List.map_append, List.map_cons, List.map_nil, List.map_set, List.length_append, List.length_cons, List.length_nil, List.length_map, Nat.zero_add, List.map_take, List.map_drop]); (repeat' (first | with_reducible exact leV.refl _ | with_reducible exact leL.refl _ | with_reducible exact leE.refl _ | refine leL_cons _ _ _ _ ?_ ?_ | refine leV_agg _ _ ?_ | refine leV_tup _ _ ?_ | refine leV_dptr _ _ ?_ | refine leV_fn _ _ _ ?_ | exact leL_nil | exact leE_nil | (rw [leV_nil]; trivial) | (rw [leV_junk]; trivial) | refine leV_sl _ _ _ _ _ rfl ?_ | exact leV.refl _ | refine leE_app _ _ _ _ ?_ ?_ | refine leE_cons _ _ _ _ ?_ ?_ | exact leE.refl _ | (refine leV_eq _ _ ?_; simp; done) | rfl | (simp [mapV_nil]; done)))
      | false =>
        simp only [h111, ↓reduceIte, Bool.false_eq_true] at hr
        simp only [awp_skip, awp_reg, awp_seq, awp_cond, awp_ret, seqQ_n, awpOps_nil, awpOps_one, awpOps_if, awpOp_is, awpO_is, putK_is, put_s, slot_is, pureOp, apureO, aev, cv, cvc, binK, elO_s, yieldA, guardA_tt, guardA_tf, condA_f, pickA_t, pickA_f, toD_c, notExit, resA_nil, resA_tmp, oneA_1, argT, isC, bsD, retV_is, ↓reduceIte, List.getElem?_cons_zero, List.getElem?_cons_succ, List.getElem?_toArray, Option.bind_some, Bool.true_and, true_and, reduceCtorEq, Nat.reduceEqDiff, Nat.zero_add, h108, h110, h111, eqB_is]
        cases hr
        (try simp only [List.map_append, List.map_cons, List.map_nil, List.map_set, List.length_append, List.length_cons, List.length_nil, List.length_map, Nat.zero_add, List.map_take, List.map_drop]); (repeat' (first | with_reducible exact leV.refl _ | with_reducible exact leL.refl _ | with_reducible exact leE.refl _ | refine leL_cons _ _ _ _ ?_ ?_ | refine leV_agg _ _ ?_ | refine leV_tup _ _ ?_ | refine leV_dptr _ _ ?_ | refine leV_fn _ _ _ ?_ | exact leL_nil | exact leE_nil | (rw [leV_nil]; trivial) | (rw [leV_junk]; trivial) | refine leV_sl _ _ _ _ _ rfl ?_ | exact leV.refl _ | refine leE_app _ _ _ _ ?_ ?_ | refine leE_cons _ _ _ _ ?_ ?_ | exact leE.refl _ | (refine leV_eq _ _ ?_; simp; done) | rfl | (simp [mapV_nil]; done)))
    | false =>
      simp only [h110, ↓reduceIte, Bool.false_eq_true] at hr
      simp only [awp_skip, awp_reg, awp_seq, awp_cond, awp_ret, seqQ_n, awpOps_nil, awpOps_one, awpOps_if, awpOp_is, putK_is, put_s, slot_is, pureOp, apureO, aev, cv, cvc, binK, elO_s, yieldA, guardA_tf, condA_f, pickA_f, toD_c, notExit, resA_nil, resA_tmp, oneA_1, argT, isC, bsD, retV_is, ↓reduceIte, List.getElem?_cons_zero, List.getElem?_cons_succ, List.getElem?_toArray, Option.bind_some, Bool.true_and, true_and, reduceCtorEq, Nat.reduceEqDiff, Nat.zero_add, h108, h110, eqB_is]
      cases hr
      (try simp only [List.map_append, List.map_cons, List.map_nil, List.map_set, List.length_append, List.length_cons, List.length_nil, List.length_map, Nat.zero_add, List.map_take, List.map_drop]); (repeat' (first | with_reducible exact leV.refl _ | with_reducible exact leL.refl _ | with_reducible exact leE.refl _ | refine leL_cons _ _ _ _ ?_ ?_ | refine leV_agg _ _ ?_ | refine leV_tup _ _ ?_ | refine leV_dptr _ _ ?_ | refine leV_fn _ _ _ ?_ | exact leL_nil | exact leE_nil | (rw [leV_nil]; trivial) | (rw [leV_junk]; trivial) | refine leV_sl _ _ _ _ _ rfl ?_ | exact leV.refl _ | refine leE_app _ _ _ _ ?_ ?_ | refine leE_cons _ _ _ _ ?_ ?_ | exact leE.refl _ | (refine leV_eq _ _ ?_; simp; done) | rfl | (simp [mapV_nil]; done)))

def ref17_Wrap (a0 : Int) : Option Int :=
  some (IntKind.i64.wrap (IntKind.i32.wrap a0))
set_option maxHeartbeats 2000000 in
theorem ref17_Wrap_ok {a0 : Int} {r : Int} (hr : ref17_Wrap a0 = some r) : Meets Tryd.prog 25 [.c (.int .i64 a0)] (.c (.int .i64 r)) := by
  unfold ref17_Wrap at hr
  refine meetsV_of (X := true) Ty.mixed Tryd.func25 (by kernel_rfl) rfl (by kernel_rfl) (by simp) ?_; rw [Tryd.ntmps25, Tryd.results25]
  simp only [awp_reg, awp_seq, awp_ret, seqQ_n, awpOps_nil, awpOps_one, awpOp_is, isCallV, putK_is, updK_is, put_s, upd_s, slot_is, pureOp, apureO, astepO, convA_c, killT, aev, cv, cvc, elO_s, toD_c, notExit, resA_nil, resA_tmp, oneA_1, argT, isC, bsD, retV_is, Bool.false_eq_true, ↓reduceIte, Bool.true_and, true_and, reduceCtorEq, Ty.td3, Ty.td21]
  cases hr
  (try simp only [List.map_append, List.map_cons, List.map_nil, List.map_set, List.length_append, List.length_cons, List.length_nil, List.length_map, Nat.zero_add, List.map_take, List.map_drop]); (repeat' (first | with_reducible exact leV.refl _ | with_reducible exact leL.refl _ | with_reducible exact leE.refl _ | refine leL_cons _ _ _ _ ?_ ?_ | refine leV_agg _ _ ?_ | refine leV_tup _ _ ?_ | refine leV_dptr _ _ ?_ | refine leV_fn _ _ _ ?_ | exact leL_nil | exact leE_nil | (rw [leV_nil]; trivial) | (rw [leV_junk]; trivial) | refine leV_sl _ _ _ _ _ rfl ?_ | exact leV.refl _ | refine leE_app _ _ _ _ ?_ ?_ | refine leE_cons _ _ _ _ ?_ ?_ | exact leE.refl _ | (refine leV_eq _ _ ?_; simp; done) | rfl | (simp [mapV_nil]; done)))

def ref17_truth (a0 : Bool) : Option Int :=
  if a0 then
  some (1 : Int)
else
  some (0 : Int)
set_option maxHeartbeats 2000000 in
theorem ref17_truth_ok {a0 : Bool} {r : Int} (hr : ref17_truth a0 = some r) : Meets Tryd.prog 36 [.c (.bool a0)] (.c (.int .i64 r)) := by
  unfold ref17_truth at hr
  refine meetsV_of (X := true) Ty.mixed Tryd.func36 (by kernel_rfl) rfl (by kernel_rfl) (by simp) ?_; rw [Tryd.ntmps36, Tryd.results36]
  cases h192 : a0 with
  | true =>
    simp only [h192, ↓reduceIte, Bool.false_eq_true] at hr
    simp only [awp_reg, awp_seq, awp_cond, awp_ret, seqQ_n, seqQ_r, awpOps_nil, awpOps_one, awpOp_is, putK_is, put_s, slot_is, pureOp, apureO, aev, cv, cvc, elO_s, condA_t, toD_c, notExit, resA_nil, resA_tmp, oneA_1, argT, isC, bsD, retV_is, ↓reduceIte, Bool.true_and, true_and, reduceCtorEq]
    cases hr
    (try simp only [List.map_append, List.map_cons, List.map_nil, List.map_set, List.length_append, List.length_cons, List.length_nil, List.length_map, Nat.zero_add, List.map_take, List.map_drop]); (repeat' (first | with_reducible exact leV.refl _ | with_reducible exact leL.refl _ | with_reducible exact leE.refl _ | refine leL_cons _ _ _ _ ?_ ?_ | refine leV_agg _ _ ?_ | refine leV_tup _ _ ?_ | refine leV_dptr _ _ ?_ | refine leV_fn _ _ _ ?_ | exact leL_nil | exact leE_nil | (rw [leV_nil]; trivial) | (rw [leV_junk]; trivial) | refine leV_sl _ _ _ _ _ rfl ?_ | exact leV.refl _ | refine leE_app _ _ _ _ ?_ ?_ | refine leE_cons _ _ _ _ ?_ ?_ | exact leE.refl _ | (refine leV_eq _ _ ?_; simp; done) | rfl | (simp [mapV_nil]; done)))
  | false =>
    simp only [h192, ↓reduceIte, Bool.false_eq_true] at hr
    simp only [awp_skip, awp_reg, awp_seq, awp_cond, awp_ret, seqQ_n, awpOps_nil, awpOps_one, awpOp_is, putK_is, put_s, slot_is, pureOp, apureO, aev, cv, cvc, elO_s, condA_f, toD_c, notExit, resA_nil, resA_tmp, oneA_1, argT, isC, bsD, retV_is, ↓reduceIte, Bool.true_and, true_and, reduceCtorEq]
    cases hr
    (try simp only [List.map_append, List.map_cons, List.map_nil, List.map_set, List.length_append, List.length_cons, List.length_nil, List.length_map, Nat.zero_add, List.map_take, List.map_drop]); (repeat' (first | with_reducible exact leV.refl _ | with_reducible exact leL.refl _ | with_reducible exact leE.refl _ | refine leL_cons _ _ _ _ ?_ ?_ | refine leV_agg _ _ ?_ | refine leV_tup _ _ ?_ | refine leV_dptr _ _ ?_ | refine leV_fn _ _ _ ?_ | exact leL_nil | exact leE_nil | (rw [leV_nil]; trivial) | (rw [leV_junk]; trivial) | refine leV_sl _ _ _ _ _ rfl ?_ | exact leV.refl _ | refine leE_app _ _ _ _ ?_ ?_ | refine leE_cons _ _ _ _ ?_ ?_ | exact leE.refl _ | (refine leV_eq _ _ ?_; simp; done) | rfl | (simp [mapV_nil]; done)))

def ref17_one (a0 : ByteArray) (a1 : Int) : Option Int :=
  if (eqB a0 (⟨#[110, 101, 103]⟩ : ByteArray)) then
  (ref17_Wrap (IntKind.i64.wrap (0 - a1))).bind fun y183 =>
  some y183
else
  if (eqB a0 (⟨#[97, 98, 115]⟩ : ByteArray)) then
    if (decide (a1 < (0 : Int))) then
      (ref17_Wrap (IntKind.i64.wrap (0 - a1))).bind fun y188 =>
      some y188
    else
      some a1
  else
    if (eqB a0 (⟨#[115, 105, 103, 110]⟩ : ByteArray)) then
      (ref17_truth (decide ((0 : Int) < a1))).bind fun y193 =>
      (ref17_truth (decide (a1 < (0 : Int)))).bind fun y196 =>
      some (IntKind.i64.wrap (y193 - y196))
    else
      if (eqB a0 (⟨#[110, 111, 116]⟩ : ByteArray)) then
        some (IntKind.i64.wrap ((1 : Int) - a1))
      else
        some a1
set_option maxHeartbeats 2000000 in
theorem ref17_one_ok {a0 : ByteArray} {a1 : Int} {r : Int} (hr : ref17_one a0 a1 = some r) : Meets Tryd.prog 29 [.c (.string a0), .c (.int .i64 a1)] (.c (.int .i64 r)) := by
  unfold ref17_one at hr
  refine meetsV_of (X := true) Ty.mixed Tryd.func29 (by kernel_rfl) rfl (by kernel_rfl) (by simp) ?_; rw [Tryd.ntmps29, Tryd.results29]
  cases h182 : (eqB a0 (⟨#[110, 101, 103]⟩ : ByteArray)) with
  | true =>
    simp only [h182, ↓reduceIte, Bool.false_eq_true] at hr
    simp only [awp_reg, awp_seq, awp_cond, awp_block, seqQ_n, awpOps_nil, awpOps_one, awpOp_is, isCallV, callW_is, callV_is, putK_is, put_s, slot_is, pureOp, apureO, aev, cv, cvc, binK, condA_t, argT, isC, bsD, Bool.false_eq_true, ↓reduceIte, List.map_cons, List.map_nil, List.append_nil, reduceCtorEq, Nat.reduceEqDiff, Nat.zero_add, h182, eqB_is]
    obtain ⟨y183, h184, r185⟩ := bindS hr
    clear hr
    try dsimp only at r185
    refine call_meets ((ref17_Wrap_ok h184).le ?_) (by simp only [aev, cv, cvc, toD_c, consO_some, toDL_nil, toDL_cons, isC, bsD] <;> rfl) ?_
    · (try simp only [List.map_append, List.map_cons, List.map_nil, List.map_set, List.length_append, List.length_cons, List.length_nil, List.length_map, Nat.zero_add, List.map_take, List.map_drop]); (repeat' (first | with_reducible exact leV.refl _ | with_reducible exact leL.refl _ | with_reducible exact leE.refl _ | refine leL_cons _ _ _ _ ?_ ?_ | refine leV_agg _ _ ?_ | refine leV_tup _ _ ?_ | refine leV_dptr _ _ ?_ | refine leV_fn _ _ _ ?_ | exact leL_nil | exact leE_nil | (rw [leV_nil]; trivial) | (rw [leV_junk]; trivial) | refine leV_sl _ _ _ _ _ rfl ?_ | exact leV.refl _ | refine leE_app _ _ _ _ ?_ ?_ | refine leE_cons _ _ _ _ ?_ ?_ | exact leE.refl _ | (refine leV_eq _ _ ?_; simp; done) | rfl | (simp [mapV_nil]; done)))
    simp only [awp_ret, seqQ_n, seqQ_r, blkQ_r, awpOps_nil, awpOps_one, awpOp_is, putK_is, put_s, upd_s, slot_is, pureOp, apureO, killT, aev, cv, cvc, elO_s, flat_c, ownsV_c, ownsL_nil, ownsL_cons, toD_c, notExit, resA_nil, resA_tmp, oneA_1, isC, bsD, retV_is, ↓reduceIte, List.append_nil, Bool.true_and, Bool.or_true, true_and, List.isEmpty_nil]
    cases r185
    (try simp only [List.map_append, List.map_cons, List.map_nil, List.map_set, List.length_append, List.length_cons, List.length_nil, List.length_map, Nat.zero_add, List.map_take, List.map_drop]); (repeat' (first | with_reducible exact leV.refl _ | with_reducible exact leL.refl _ | with_reducible exact leE.refl _ | refine leL_cons _ _ _ _ ?_ ?_ | refine leV_agg _ _ ?_ | refine leV_tup _ _ ?_ | refine leV_dptr _ _ ?_ | refine leV_fn _ _ _ ?_ | exact leL_nil | exact leE_nil | (rw [leV_nil]; trivial) | (rw [leV_junk]; trivial) | refine leV_sl _ _ _ _ _ rfl ?_ | exact leV.refl _ | refine leE_app _ _ _ _ ?_ ?_ | refine leE_cons _ _ _ _ ?_ ?_ | exact leE.refl _ | (refine leV_eq _ _ ?_; simp; done) | rfl | (simp [mapV_nil]; done)))
  | false =>
    simp only [h182, ↓reduceIte, Bool.false_eq_true] at hr
    cases h186 : (eqB a0 (⟨#[97, 98, 115]⟩ : ByteArray)) with
    | true =>
      simp only [h186, ↓reduceIte, Bool.false_eq_true] at hr
      cases h187 : (decide (a1 < (0 : Int))) with
      | true =>
        simp only [h187, ↓reduceIte, Bool.false_eq_true] at hr
        simp only [awp_reg, awp_seq, awp_cond, awp_block, seqQ_n, awpOps_nil, awpOps_one, awpOp_is, isCallV, callW_is, callV_is, putK_is, put_s, slot_is, pureOp, apureO, aev, cv, cvc, binK, condA_t, condA_f, argT, isC, bsD, Bool.false_eq_true, ↓reduceIte, List.map_cons, List.map_nil, List.append_nil, Bool.true_and, true_and, reduceCtorEq, Nat.reduceEqDiff, Nat.zero_add, h182, h186, h187, eqB_is]
        obtain ⟨y188, h189, r190⟩ := bindS hr
        clear hr
        try dsimp only at r190
        refine call_meets ((ref17_Wrap_ok h189).le ?_) (by simp only [aev, cv, cvc, toD_c, consO_some, toDL_nil, toDL_cons, isC, bsD] <;> rfl) ?_
        · (try simp only [List.map_append, List.map_cons, List.map_nil, List.map_set, List.length_append, List.length_cons, List.length_nil, List.length_map, Nat.zero_add, List.map_take, List.map_drop]); (repeat' (first | with_reducible exact leV.refl _ | with_reducible exact leL.refl _ | with_reducible exact leE.refl _ | refine leL_cons _ _ _ _ ?_ ?_ | refine leV_agg _ _ ?_ | refine leV_tup _ _ ?_ | refine leV_dptr _ _ ?_ | refine leV_fn _ _ _ ?_ | exact leL_nil | exact leE_nil | (rw [leV_nil]; trivial) | (rw [leV_junk]; trivial) | refine leV_sl _ _ _ _ _ rfl ?_ | exact leV.refl _ | refine leE_app _ _ _ _ ?_ ?_ | refine leE_cons _ _ _ _ ?_ ?_ | exact leE.refl _ | (refine leV_eq _ _ ?_; simp; done) | rfl | (simp [mapV_nil]; done)))
        simp only [awp_ret, seqQ_n, seqQ_r, blkQ_r, awpOps_nil, awpOps_one, awpOp_is, putK_is, put_s, upd_s, slot_is, pureOp, apureO, killT, aev, cv, cvc, elO_s, flat_c, ownsV_c, ownsL_nil, ownsL_cons, toD_c, notExit, resA_nil, resA_tmp, oneA_1, isC, bsD, retV_is, ↓reduceIte, List.append_nil, Bool.true_and, Bool.or_true, true_and, List.isEmpty_nil]
        cases r190
        (try simp only [List.map_append, List.map_cons, List.map_nil, List.map_set, List.length_append, List.length_cons, List.length_nil, List.length_map, Nat.zero_add, List.map_take, List.map_drop]); (repeat' (first | with_reducible exact leV.refl _ | with_reducible exact leL.refl _ | with_reducible exact leE.refl _ | refine leL_cons _ _ _ _ ?_ ?_ | refine leV_agg _ _ ?_ | refine leV_tup _ _ ?_ | refine leV_dptr _ _ ?_ | refine leV_fn _ _ _ ?_ | exact leL_nil | exact leE_nil | (rw [leV_nil]; trivial) | (rw [leV_junk]; trivial) | refine leV_sl _ _ _ _ _ rfl ?_ | exact leV.refl _ | refine leE_app _ _ _ _ ?_ ?_ | refine leE_cons _ _ _ _ ?_ ?_ | exact leE.refl _ | (refine leV_eq _ _ ?_; simp; done) | rfl | (simp [mapV_nil]; done)))
      | false =>
        simp only [h187, ↓reduceIte, Bool.false_eq_true] at hr
        simp only [awp_skip, awp_reg, awp_seq, awp_cond, awp_block, awp_ret, seqQ_n, seqQ_r, blkQ_r, awpOps_nil, awpOps_one, awpOp_is, putK_is, put_s, slot_is, pureOp, apureO, aev, cv, cvc, binK, elO_s, condA_t, condA_f, toD_c, notExit, resA_nil, resA_tmp, oneA_1, argT, isC, bsD, retV_is, ↓reduceIte, Bool.true_and, true_and, reduceCtorEq, Nat.reduceEqDiff, Nat.zero_add, h182, h186, h187, eqB_is]
        cases hr
        (try simp only [List.map_append, List.map_cons, List.map_nil, List.map_set, List.length_append, List.length_cons, List.length_nil, List.length_map, Nat.zero_add, List.map_take, List.map_drop]); (repeat' (first | with_reducible exact leV.refl _ | with_reducible exact leL.refl _ | with_reducible exact leE.refl _ | refine leL_cons _ _ _ _ ?_ ?_ | refine leV_agg _ _ ?_ | refine leV_tup _ _ ?_ | refine leV_dptr _ _ ?_ | refine leV_fn _ _ _ ?_ | exact leL_nil | exact leE_nil | (rw [leV_nil]; trivial) | (rw [leV_junk]; trivial) | refine leV_sl _ _ _ _ _ rfl ?_ | exact leV.refl _ | refine leE_app _ _ _ _ ?_ ?_ | refine leE_cons _ _ _ _ ?_ ?_ | exact leE.refl _ | (refine leV_eq _ _ ?_; simp; done) | rfl | (simp [mapV_nil]; done)))
    | false =>
      simp only [h186, ↓reduceIte, Bool.false_eq_true] at hr
      cases h191 : (eqB a0 (⟨#[115, 105, 103, 110]⟩ : ByteArray)) with
      | true =>
        simp only [h191, ↓reduceIte, Bool.false_eq_true] at hr
        simp only [awp_reg, awp_seq, awp_cond, awp_block, seqQ_n, awpOps_nil, awpOps_one, awpOp_is, isCallV, callW_is, callV_is, putK_is, put_s, slot_is, pureOp, apureO, aev, cv, cvc, binK, condA_t, condA_f, argT, isC, bsD, Bool.false_eq_true, ↓reduceIte, List.map_cons, List.map_nil, List.append_nil, Bool.true_and, true_and, reduceCtorEq, Nat.reduceEqDiff, Nat.zero_add, h182, h186, h191, eqB_is]
        obtain ⟨y193, h194, r195⟩ := bindS hr
        clear hr
        try dsimp only at r195
        refine call_meets ((ref17_truth_ok h194).le ?_) (by simp only [aev, cv, cvc, toD_c, consO_some, toDL_nil, toDL_cons, isC, bsD] <;> rfl) ?_
        · (try simp only [List.map_append, List.map_cons, List.map_nil, List.map_set, List.length_append, List.length_cons, List.length_nil, List.length_map, Nat.zero_add, List.map_take, List.map_drop]); (repeat' (first | with_reducible exact leV.refl _ | with_reducible exact leL.refl _ | with_reducible exact leE.refl _ | refine leL_cons _ _ _ _ ?_ ?_ | refine leV_agg _ _ ?_ | refine leV_tup _ _ ?_ | refine leV_dptr _ _ ?_ | refine leV_fn _ _ _ ?_ | exact leL_nil | exact leE_nil | (rw [leV_nil]; trivial) | (rw [leV_junk]; trivial) | refine leV_sl _ _ _ _ _ rfl ?_ | exact leV.refl _ | refine leE_app _ _ _ _ ?_ ?_ | refine leE_cons _ _ _ _ ?_ ?_ | exact leE.refl _ | (refine leV_eq _ _ ?_; simp; done) | rfl | (simp [mapV_nil]; done)))
        simp only [awpOps_one, awpOp_is, isCallV, callW_is, callV_is, putK_is, put_s, upd_s, slot_is, pureOp, apureO, killT, aev, cv, cvc, binK, flat_c, ownsV_c, ownsL_nil, ownsL_cons, isC, bsD, Bool.false_eq_true, ↓reduceIte, List.map_cons, List.map_nil, List.append_nil, Bool.true_and, Bool.or_true, true_and, reduceCtorEq, Nat.reduceEqDiff, List.isEmpty_nil]
        obtain ⟨y196, h197, r198⟩ := bindS r195
        clear r195
        try dsimp only at r198
        refine call_meets ((ref17_truth_ok h197).le ?_) (by simp only [aev, cv, cvc, toD_c, consO_some, toDL_nil, toDL_cons, isC, bsD] <;> rfl) ?_
        · (try simp only [List.map_append, List.map_cons, List.map_nil, List.map_set, List.length_append, List.length_cons, List.length_nil, List.length_map, Nat.zero_add, List.map_take, List.map_drop]); (repeat' (first | with_reducible exact leV.refl _ | with_reducible exact leL.refl _ | with_reducible exact leE.refl _ | refine leL_cons _ _ _ _ ?_ ?_ | refine leV_agg _ _ ?_ | refine leV_tup _ _ ?_ | refine leV_dptr _ _ ?_ | refine leV_fn _ _ _ ?_ | exact leL_nil | exact leE_nil | (rw [leV_nil]; trivial) | (rw [leV_junk]; trivial) | refine leV_sl _ _ _ _ _ rfl ?_ | exact leV.refl _ | refine leE_app _ _ _ _ ?_ ?_ | refine leE_cons _ _ _ _ ?_ ?_ | exact leE.refl _ | (refine leV_eq _ _ ?_; simp; done) | rfl | (simp [mapV_nil]; done)))
        simp only [awp_ret, seqQ_n, seqQ_r, blkQ_r, awpOps_nil, awpOps_one, awpOp_is, putK_is, put_s, upd_s, slot_is, pureOp, apureO, killT, aev, cv, cvc, binK, elO_s, flat_c, ownsV_c, ownsL_nil, ownsL_cons, toD_c, notExit, resA_nil, resA_tmp, oneA_1, isC, bsD, retV_is, ↓reduceIte, List.append_nil, Bool.true_and, Bool.or_true, true_and, Nat.reduceEqDiff, List.isEmpty_nil]
        cases r198
        (try simp only [List.map_append, List.map_cons, List.map_nil, List.map_set, List.length_append, List.length_cons, List.length_nil, List.length_map, Nat.zero_add, List.map_take, List.map_drop]); (repeat' (first | with_reducible exact leV.refl _ | with_reducible exact leL.refl _ | with_reducible exact leE.refl _ | refine leL_cons _ _ _ _ ?_ ?_ | refine leV_agg _ _ ?_ | refine leV_tup _ _ ?_ | refine leV_dptr _ _ ?_ | refine leV_fn _ _ _ ?_ | exact leL_nil | exact leE_nil | (rw [leV_nil]; trivial) | (rw [leV_junk]; trivial) | refine leV_sl _ _ _ _ _ rfl ?_ | exact leV.refl _ | refine leE_app _ _ _ _ ?_ ?_ | refine leE_cons _ _ _ _ ?_ ?_ | exact leE.refl _ | (refine leV_eq _ _ ?_; simp; done) | rfl | (simp [mapV_nil]; done)))
      | false =>
        simp only [h191, ↓reduceIte, Bool.false_eq_true] at hr
        cases h199 : (eqB a0 (⟨#[110, 111, 116]⟩ : ByteArray)) with
        | true =>
          simp only [h199, ↓reduceIte, Bool.false_eq_true] at hr
          simp only [awp_reg, awp_seq, awp_cond, awp_block, awp_ret, seqQ_n, seqQ_r, blkQ_r, awpOps_nil, awpOps_one, awpOp_is, putK_is, put_s, slot_is, pureOp, apureO, aev, cv, cvc, binK, elO_s, condA_t, condA_f, toD_c, notExit, resA_nil, resA_tmp, oneA_1, argT, isC, bsD, retV_is, ↓reduceIte, Bool.true_and, true_and, reduceCtorEq, Nat.reduceEqDiff, Nat.zero_add, h182, h186, h191, h199, eqB_is]
          cases hr
          (try simp only [List.map_append, List.map_cons, List.map_nil, List.map_set, List.length_append, List.length_cons, List.length_nil, List.length_map, Nat.zero_add, List.map_take, List.map_drop]); (repeat' (first | with_reducible exact leV.refl _ | with_reducible exact leL.refl _ | with_reducible exact leE.refl _ | refine leL_cons _ _ _ _ ?_ ?_ | refine leV_agg _ _ ?_ | refine leV_tup _ _ ?_ | refine leV_dptr _ _ ?_ | refine leV_fn _ _ _ ?_ | exact leL_nil | exact leE_nil | (rw [leV_nil]; trivial) | (rw [leV_junk]; trivial) | refine leV_sl _ _ _ _ _ rfl ?_ | exact leV.refl _ | refine leE_app _ _ _ _ ?_ ?_ | refine leE_cons _ _ _ _ ?_ ?_ | exact leE.refl _ | (refine leV_eq _ _ ?_; simp; done) | rfl | (simp [mapV_nil]; done)))
        | false =>
          simp only [h199, ↓reduceIte, Bool.false_eq_true] at hr
          simp only [awp_skip, awp_reg, awp_seq, awp_cond, awp_block, awp_ret, seqQ_n, blkQ_n, awpOps_nil, awpOps_one, awpOp_is, putK_is, put_s, slot_is, pureOp, apureO, aev, cv, cvc, binK, elO_s, condA_f, toD_c, notExit, resA_nil, resA_tmp, oneA_1, argT, isC, bsD, retV_is, ↓reduceIte, Bool.true_and, true_and, reduceCtorEq, Nat.reduceEqDiff, Nat.zero_add, h182, h186, h191, h199, eqB_is]
          cases hr
          (try simp only [List.map_append, List.map_cons, List.map_nil, List.map_set, List.length_append, List.length_cons, List.length_nil, List.length_map, Nat.zero_add, List.map_take, List.map_drop]); (repeat' (first | with_reducible exact leV.refl _ | with_reducible exact leL.refl _ | with_reducible exact leE.refl _ | refine leL_cons _ _ _ _ ?_ ?_ | refine leV_agg _ _ ?_ | refine leV_tup _ _ ?_ | refine leV_dptr _ _ ?_ | refine leV_fn _ _ _ ?_ | exact leL_nil | exact leE_nil | (rw [leV_nil]; trivial) | (rw [leV_junk]; trivial) | refine leV_sl _ _ _ _ _ rfl ?_ | exact leV.refl _ | refine leE_app _ _ _ _ ?_ ?_ | refine leE_cons _ _ _ _ ?_ ?_ | exact leE.refl _ | (refine leV_eq _ _ ?_; simp; done) | rfl | (simp [mapV_nil]; done)))

def ref17_Floor (a0 : Int) (a1 : Int) : Option Int :=
  if (a1 == (0 : Int)) then
  some (0 : Int)
else
  iffO (decide (a1 ≠ 0))
    (iffO (decide (a1 ≠ 0))
      (if ((a0.tmod a1) != (0 : Int)) then
        if ((decide (a0 < (0 : Int))) == (decide (a1 < (0 : Int)))) then
          some (IntKind.i64.wrap (a0.tdiv a1))
        else
          some (IntKind.i64.wrap ((IntKind.i64.wrap (a0.tdiv a1)) - (1 : Int)))
      else
        some (IntKind.i64.wrap (a0.tdiv a1))))
set_option maxHeartbeats 2000000 in
theorem ref17_Floor_ok {a0 : Int} {a1 : Int} {r : Int} (hr : ref17_Floor a0 a1 = some r) : Meets Tryd.prog 37 [.c (.int .i64 a0), .c (.int .i64 a1)] (.c (.int .i64 r)) := by
  unfold ref17_Floor at hr
  refine meetsV_of (X := true) Ty.mixed Tryd.func37 (by kernel_rfl) rfl (by kernel_rfl) (by simp) ?_; rw [Tryd.ntmps37, Tryd.results37]
  cases h225 : (a1 == (0 : Int)) with
  | true =>
    simp only [h225, ↓reduceIte, Bool.false_eq_true] at hr
    simp only [awp_reg, awp_seq, awp_cond, awp_ret, seqQ_n, seqQ_r, awpOps_nil, awpOps_one, awpOp_is, putK_is, put_s, slot_is, pureOp, apureO, aev, cv, cvc, binK, elO_s, condA_t, toD_c, notExit, resA_nil, resA_tmp, oneA_1, argT, isC, bsD, retV_is, ↓reduceIte, Bool.true_and, true_and, reduceCtorEq, Nat.reduceEqDiff, Nat.zero_add, h225]
    cases hr
    (try simp only [List.map_append, List.map_cons, List.map_nil, List.map_set, List.length_append, List.length_cons, List.length_nil, List.length_map, Nat.zero_add, List.map_take, List.map_drop]); (repeat' (first | with_reducible exact leV.refl _ | with_reducible exact leL.refl _ | with_reducible exact leE.refl _ | refine leL_cons _ _ _ _ ?_ ?_ | refine leV_agg _ _ ?_ | refine leV_tup _ _ ?_ | refine leV_dptr _ _ ?_ | refine leV_fn _ _ _ ?_ | exact leL_nil | exact leE_nil | (rw [leV_nil]; trivial) | (rw [leV_junk]; trivial) | refine leV_sl _ _ _ _ _ rfl ?_ | exact leV.refl _ | refine leE_app _ _ _ _ ?_ ?_ | refine leE_cons _ _ _ _ ?_ ?_ | exact leE.refl _ | (refine leV_eq _ _ ?_; simp; done) | rfl | (simp [mapV_nil]; done)))
  | false =>
    simp only [h225, ↓reduceIte, Bool.false_eq_true] at hr
    obtain ⟨h226, r227⟩ := iffO_some hr
    clear hr
    simp only [Bool.and_eq_true, decide_eq_true_eq] at h226
    obtain ⟨h228, r229⟩ := iffO_some r227
    clear r227
    simp only [Bool.and_eq_true, decide_eq_true_eq] at h228
    cases h230 : ((a0.tmod a1) != (0 : Int)) with
    | true =>
      simp only [h230, ↓reduceIte, Bool.false_eq_true] at r229
      cases h231 : ((decide (a0 < (0 : Int))) == (decide (a1 < (0 : Int)))) with
      | true =>
        simp only [h231, ↓reduceIte, Bool.false_eq_true] at r229
        simp only [awp_skip, awp_reg, awp_seq, awp_cond, awp_ret, seqQ_n, awpOps_nil, awpOps_one, awpOps_if, awpOp_is, awpO_is, putK_is, put_s, slot_is, pureOp, apureO, aev, cv, cvc, binK, elO_s, yieldA, guardA_tt, condA_f, pickA_t, toD_c, notExit, resA_nil, resA_tmp, oneA_1, argT, isC, bsD, retV_is, ↓reduceIte, List.getElem?_cons_zero, List.getElem?_cons_succ, List.getElem?_toArray, Option.bind_some, Bool.true_and, Bool.not_true, true_and, ne_eq, not_false_eq_true, reduceCtorEq, Nat.reduceEqDiff, Nat.zero_add, Ty.td4, h225, h226, h230, h231]
        cases r229
        (try simp only [List.map_append, List.map_cons, List.map_nil, List.map_set, List.length_append, List.length_cons, List.length_nil, List.length_map, Nat.zero_add, List.map_take, List.map_drop]); (repeat' (first | with_reducible exact leV.refl _ | with_reducible exact leL.refl _ | with_reducible exact leE.refl _ | refine leL_cons _ _ _ _ ?_ ?_ | refine leV_agg _ _ ?_ | refine leV_tup _ _ ?_ | refine leV_dptr _ _ ?_ | refine leV_fn _ _ _ ?_ | exact leL_nil | exact leE_nil | (rw [leV_nil]; trivial) | (rw [leV_junk]; trivial) | refine leV_sl _ _ _ _ _ rfl ?_ | exact leV.refl _ | refine leE_app _ _ _ _ ?_ ?_ | refine leE_cons _ _ _ _ ?_ ?_ | exact leE.refl _ | (refine leV_eq _ _ ?_; simp; done) | rfl | (simp [mapV_nil]; done)))
      | false =>
        simp only [h231, ↓reduceIte, Bool.false_eq_true] at r229
        simp only [awp_skip, awp_reg, awp_seq, awp_cond, awp_ret, seqQ_n, awpOps_nil, awpOps_one, awpOps_if, awpOp_is, awpO_is, putK_is, put_s, slot_is, pureOp, apureO, aev, cv, cvc, binK, elO_s, yieldA, guardA_tt, condA_t, condA_f, pickA_t, toD_c, notExit, resA_nil, resA_tmp, oneA_1, argT, isC, bsD, retV_is, ↓reduceIte, List.getElem?_cons_zero, List.getElem?_cons_succ, List.getElem?_toArray, Option.bind_some, Bool.true_and, Bool.not_false, true_and, ne_eq, not_false_eq_true, reduceCtorEq, Nat.reduceEqDiff, Nat.zero_add, Ty.td4, h225, h226, h230, h231]
        cases r229
        (try simp only [List.map_append, List.map_cons, List.map_nil, List.map_set, List.length_append, List.length_cons, List.length_nil, List.length_map, Nat.zero_add, List.map_take, List.map_drop]); (repeat' (first | with_reducible exact leV.refl _ | with_reducible exact leL.refl _ | with_reducible exact leE.refl _ | refine leL_cons _ _ _ _ ?_ ?_ | refine leV_agg _ _ ?_ | refine leV_tup _ _ ?_ | refine leV_dptr _ _ ?_ | refine leV_fn _ _ _ ?_ | exact leL_nil | exact leE_nil | (rw [leV_nil]; trivial) | (rw [leV_junk]; trivial) | refine leV_sl _ _ _ _ _ rfl ?_ | exact leV.refl _ | refine leE_app _ _ _ _ ?_ ?_ | refine leE_cons _ _ _ _ ?_ ?_ | exact leE.refl _ | (refine leV_eq _ _ ?_; simp; done) | rfl | (simp [mapV_nil]; done)))
    | false =>
      simp only [h230, ↓reduceIte, Bool.false_eq_true] at r229
      simp only [awp_skip, awp_reg, awp_seq, awp_cond, awp_ret, seqQ_n, awpOps_nil, awpOps_one, awpOps_if, awpOp_is, putK_is, put_s, slot_is, pureOp, apureO, aev, cv, cvc, binK, elO_s, yieldA, guardA_tf, condA_f, pickA_f, toD_c, notExit, resA_nil, resA_tmp, oneA_1, argT, isC, bsD, retV_is, ↓reduceIte, List.getElem?_cons_zero, List.getElem?_cons_succ, List.getElem?_toArray, Option.bind_some, Bool.true_and, true_and, ne_eq, not_false_eq_true, reduceCtorEq, Nat.reduceEqDiff, Nat.zero_add, h225, h226, h230]
      cases r229
      (try simp only [List.map_append, List.map_cons, List.map_nil, List.map_set, List.length_append, List.length_cons, List.length_nil, List.length_map, Nat.zero_add, List.map_take, List.map_drop]); (repeat' (first | with_reducible exact leV.refl _ | with_reducible exact leL.refl _ | with_reducible exact leE.refl _ | refine leL_cons _ _ _ _ ?_ ?_ | refine leV_agg _ _ ?_ | refine leV_tup _ _ ?_ | refine leV_dptr _ _ ?_ | refine leV_fn _ _ _ ?_ | exact leL_nil | exact leE_nil | (rw [leV_nil]; trivial) | (rw [leV_junk]; trivial) | refine leV_sl _ _ _ _ _ rfl ?_ | exact leV.refl _ | refine leE_app _ _ _ _ ?_ ?_ | refine leE_cons _ _ _ _ ?_ ?_ | exact leE.refl _ | (refine leV_eq _ _ ?_; simp; done) | rfl | (simp [mapV_nil]; done)))

def ref17_two (a0 : ByteArray) (a1 : Int) (a2 : Int) : Option Int :=
  if (eqB a0 (⟨#[97, 100, 100]⟩ : ByteArray)) then
  (ref17_Wrap (IntKind.i64.wrap (a1 + a2))).bind fun y213 =>
  some y213
else
  if (eqB a0 (⟨#[115, 117, 98]⟩ : ByteArray)) then
    (ref17_Wrap (IntKind.i64.wrap (a1 - a2))).bind fun y217 =>
    some y217
  else
    if (eqB a0 (⟨#[109, 117, 108]⟩ : ByteArray)) then
      (ref17_Wrap (IntKind.i64.wrap (a1 * a2))).bind fun y221 =>
      some y221
    else
      if (eqB a0 (⟨#[100, 105, 118]⟩ : ByteArray)) then
        (ref17_Floor a1 a2).bind fun y232 =>
        (ref17_Wrap y232).bind fun y235 =>
        some y235
      else
        if (eqB a0 (⟨#[109, 111, 100]⟩ : ByteArray)) then
          if (a2 == (0 : Int)) then
            some (0 : Int)
          else
            (ref17_Floor a1 a2).bind fun y240 =>
            some (IntKind.i64.wrap (a1 - (IntKind.i64.wrap (a2 * y240))))
        else
          if (eqB a0 (⟨#[109, 105, 110]⟩ : ByteArray)) then
            some (min a1 a2)
          else
            if (eqB a0 (⟨#[109, 97, 120]⟩ : ByteArray)) then
              some (max a1 a2)
            else
              if (eqB a0 (⟨#[108, 116]⟩ : ByteArray)) then
                (ref17_truth (decide (a1 < a2))).bind fun y246 =>
                some y246
              else
                if (eqB a0 (⟨#[108, 101]⟩ : ByteArray)) then
                  (ref17_truth (decide (a1 ≤ a2))).bind fun y250 =>
                  some y250
                else
                  if (eqB a0 (⟨#[103, 116]⟩ : ByteArray)) then
                    (ref17_truth (decide (a2 < a1))).bind fun y254 =>
                    some y254
                  else
                    if (eqB a0 (⟨#[103, 101]⟩ : ByteArray)) then
                      (ref17_truth (decide (a2 ≤ a1))).bind fun y258 =>
                      some y258
                    else
                      if (eqB a0 (⟨#[101, 113]⟩ : ByteArray)) then
                        (ref17_truth (a1 == a2)).bind fun y262 =>
                        some y262
                      else
                        if (eqB a0 (⟨#[110, 101]⟩ : ByteArray)) then
                          (ref17_truth (a1 != a2)).bind fun y266 =>
                          some y266
                        else
                          if (eqB a0 (⟨#[120, 111, 114]⟩ : ByteArray)) then
                            (ref17_truth (a1 != a2)).bind fun y270 =>
                            some y270
                          else
                            if (eqB a0 (⟨#[97, 110, 100]⟩ : ByteArray)) then
                              some (IntKind.i64.wrap (a1 * a2))
                            else
                              some (max a1 a2)
set_option maxHeartbeats 2000000 in
theorem ref17_two_ok {a0 : ByteArray} {a1 : Int} {a2 : Int} {r : Int} (hr : ref17_two a0 a1 a2 = some r) : Meets Tryd.prog 30 [.c (.string a0), .c (.int .i64 a1), .c (.int .i64 a2)] (.c (.int .i64 r)) := by
  unfold ref17_two at hr
  refine meetsV_of (X := true) Ty.mixed Tryd.func30 (by kernel_rfl) rfl (by kernel_rfl) (by simp) ?_; rw [Tryd.ntmps30, Tryd.results30]
  cases h212 : (eqB a0 (⟨#[97, 100, 100]⟩ : ByteArray)) with
  | true =>
    simp only [h212, ↓reduceIte, Bool.false_eq_true] at hr
    simp only [awp_reg, awp_seq, awp_cond, awp_block, seqQ_n, awpOps_nil, awpOps_one, awpOp_is, isCallV, callW_is, callV_is, putK_is, put_s, slot_is, pureOp, apureO, aev, cv, cvc, binK, condA_t, argT, isC, bsD, Bool.false_eq_true, ↓reduceIte, List.map_cons, List.map_nil, List.append_nil, Bool.true_and, true_and, reduceCtorEq, Nat.reduceAdd, Nat.reduceEqDiff, Nat.zero_add, h212, eqB_is]
    obtain ⟨y213, h214, r215⟩ := bindS hr
    clear hr
    try dsimp only at r215
    refine call_meets ((ref17_Wrap_ok h214).le ?_) (by simp only [aev, cv, cvc, toD_c, consO_some, toDL_nil, toDL_cons, isC, bsD] <;> rfl) ?_
    · (try simp only [List.map_append, List.map_cons, List.map_nil, List.map_set, List.length_append, List.length_cons, List.length_nil, List.length_map, Nat.zero_add, List.map_take, List.map_drop]); (repeat' (first | with_reducible exact leV.refl _ | with_reducible exact leL.refl _ | with_reducible exact leE.refl _ | refine leL_cons _ _ _ _ ?_ ?_ | refine leV_agg _ _ ?_ | refine leV_tup _ _ ?_ | refine leV_dptr _ _ ?_ | refine leV_fn _ _ _ ?_ | exact leL_nil | exact leE_nil | (rw [leV_nil]; trivial) | (rw [leV_junk]; trivial) | refine leV_sl _ _ _ _ _ rfl ?_ | exact leV.refl _ | refine leE_app _ _ _ _ ?_ ?_ | refine leE_cons _ _ _ _ ?_ ?_ | exact leE.refl _ | (refine leV_eq _ _ ?_; simp; done) | rfl | (simp [mapV_nil]; done)))
    simp only [awp_ret, seqQ_n, seqQ_r, blkQ_r, awpOps_nil, awpOps_one, awpOp_is, putK_is, put_s, upd_s, slot_is, pureOp, apureO, killT, aev, cv, cvc, elO_s, flat_c, ownsV_c, ownsL_nil, ownsL_cons, toD_c, notExit, resA_nil, resA_tmp, oneA_1, isC, bsD, retV_is, ↓reduceIte, List.append_nil, Bool.true_and, Bool.or_true, true_and, List.isEmpty_nil]
    cases r215
    (try simp only [List.map_append, List.map_cons, List.map_nil, List.map_set, List.length_append, List.length_cons, List.length_nil, List.length_map, Nat.zero_add, List.map_take, List.map_drop]); (repeat' (first | with_reducible exact leV.refl _ | with_reducible exact leL.refl _ | with_reducible exact leE.refl _ | refine leL_cons _ _ _ _ ?_ ?_ | refine leV_agg _ _ ?_ | refine leV_tup _ _ ?_ | refine leV_dptr _ _ ?_ | refine leV_fn _ _ _ ?_ | exact leL_nil | exact leE_nil | (rw [leV_nil]; trivial) | (rw [leV_junk]; trivial) | refine leV_sl _ _ _ _ _ rfl ?_ | exact leV.refl _ | refine leE_app _ _ _ _ ?_ ?_ | refine leE_cons _ _ _ _ ?_ ?_ | exact leE.refl _ | (refine leV_eq _ _ ?_; simp; done) | rfl | (simp [mapV_nil]; done)))
  | false =>
    simp only [h212, ↓reduceIte, Bool.false_eq_true] at hr
    cases h216 : (eqB a0 (⟨#[115, 117, 98]⟩ : ByteArray)) with
    | true =>
      simp only [h216, ↓reduceIte, Bool.false_eq_true] at hr
      simp only [awp_reg, awp_seq, awp_cond, awp_block, seqQ_n, awpOps_nil, awpOps_one, awpOp_is, isCallV, callW_is, callV_is, putK_is, put_s, slot_is, pureOp, apureO, aev, cv, cvc, binK, condA_t, condA_f, argT, isC, bsD, Bool.false_eq_true, ↓reduceIte, List.map_cons, List.map_nil, List.append_nil, Bool.true_and, true_and, reduceCtorEq, Nat.reduceAdd, Nat.reduceEqDiff, Nat.zero_add, h212, h216, eqB_is]
      obtain ⟨y217, h218, r219⟩ := bindS hr
      clear hr
      try dsimp only at r219
      refine call_meets ((ref17_Wrap_ok h218).le ?_) (by simp only [aev, cv, cvc, toD_c, consO_some, toDL_nil, toDL_cons, isC, bsD] <;> rfl) ?_
      · (try simp only [List.map_append, List.map_cons, List.map_nil, List.map_set, List.length_append, List.length_cons, List.length_nil, List.length_map, Nat.zero_add, List.map_take, List.map_drop]); (repeat' (first | with_reducible exact leV.refl _ | with_reducible exact leL.refl _ | with_reducible exact leE.refl _ | refine leL_cons _ _ _ _ ?_ ?_ | refine leV_agg _ _ ?_ | refine leV_tup _ _ ?_ | refine leV_dptr _ _ ?_ | refine leV_fn _ _ _ ?_ | exact leL_nil | exact leE_nil | (rw [leV_nil]; trivial) | (rw [leV_junk]; trivial) | refine leV_sl _ _ _ _ _ rfl ?_ | exact leV.refl _ | refine leE_app _ _ _ _ ?_ ?_ | refine leE_cons _ _ _ _ ?_ ?_ | exact leE.refl _ | (refine leV_eq _ _ ?_; simp; done) | rfl | (simp [mapV_nil]; done)))
      simp only [awp_ret, seqQ_n, seqQ_r, blkQ_r, awpOps_nil, awpOps_one, awpOp_is, putK_is, put_s, upd_s, slot_is, pureOp, apureO, killT, aev, cv, cvc, elO_s, flat_c, ownsV_c, ownsL_nil, ownsL_cons, toD_c, notExit, resA_nil, resA_tmp, oneA_1, isC, bsD, retV_is, ↓reduceIte, List.append_nil, Bool.true_and, Bool.or_true, true_and, List.isEmpty_nil]
      cases r219
      (try simp only [List.map_append, List.map_cons, List.map_nil, List.map_set, List.length_append, List.length_cons, List.length_nil, List.length_map, Nat.zero_add, List.map_take, List.map_drop]); (repeat' (first | with_reducible exact leV.refl _ | with_reducible exact leL.refl _ | with_reducible exact leE.refl _ | refine leL_cons _ _ _ _ ?_ ?_ | refine leV_agg _ _ ?_ | refine leV_tup _ _ ?_ | refine leV_dptr _ _ ?_ | refine leV_fn _ _ _ ?_ | exact leL_nil | exact leE_nil | (rw [leV_nil]; trivial) | (rw [leV_junk]; trivial) | refine leV_sl _ _ _ _ _ rfl ?_ | exact leV.refl _ | refine leE_app _ _ _ _ ?_ ?_ | refine leE_cons _ _ _ _ ?_ ?_ | exact leE.refl _ | (refine leV_eq _ _ ?_; simp; done) | rfl | (simp [mapV_nil]; done)))
    | false =>
      simp only [h216, ↓reduceIte, Bool.false_eq_true] at hr
      cases h220 : (eqB a0 (⟨#[109, 117, 108]⟩ : ByteArray)) with
      | true =>
        simp only [h220, ↓reduceIte, Bool.false_eq_true] at hr
        simp only [awp_reg, awp_seq, awp_cond, awp_block, seqQ_n, awpOps_nil, awpOps_one, awpOp_is, isCallV, callW_is, callV_is, putK_is, put_s, slot_is, pureOp, apureO, aev, cv, cvc, binK, condA_t, condA_f, argT, isC, bsD, Bool.false_eq_true, ↓reduceIte, List.map_cons, List.map_nil, List.append_nil, Bool.true_and, true_and, reduceCtorEq, Nat.reduceAdd, Nat.reduceEqDiff, Nat.zero_add, h212, h216, h220, eqB_is]
        obtain ⟨y221, h222, r223⟩ := bindS hr
        clear hr
        try dsimp only at r223
        refine call_meets ((ref17_Wrap_ok h222).le ?_) (by simp only [aev, cv, cvc, toD_c, consO_some, toDL_nil, toDL_cons, isC, bsD] <;> rfl) ?_
        · (try simp only [List.map_append, List.map_cons, List.map_nil, List.map_set, List.length_append, List.length_cons, List.length_nil, List.length_map, Nat.zero_add, List.map_take, List.map_drop]); (repeat' (first | with_reducible exact leV.refl _ | with_reducible exact leL.refl _ | with_reducible exact leE.refl _ | refine leL_cons _ _ _ _ ?_ ?_ | refine leV_agg _ _ ?_ | refine leV_tup _ _ ?_ | refine leV_dptr _ _ ?_ | refine leV_fn _ _ _ ?_ | exact leL_nil | exact leE_nil | (rw [leV_nil]; trivial) | (rw [leV_junk]; trivial) | refine leV_sl _ _ _ _ _ rfl ?_ | exact leV.refl _ | refine leE_app _ _ _ _ ?_ ?_ | refine leE_cons _ _ _ _ ?_ ?_ | exact leE.refl _ | (refine leV_eq _ _ ?_; simp; done) | rfl | (simp [mapV_nil]; done)))
        simp only [awp_ret, seqQ_n, seqQ_r, blkQ_r, awpOps_nil, awpOps_one, awpOp_is, putK_is, put_s, upd_s, slot_is, pureOp, apureO, killT, aev, cv, cvc, elO_s, flat_c, ownsV_c, ownsL_nil, ownsL_cons, toD_c, notExit, resA_nil, resA_tmp, oneA_1, isC, bsD, retV_is, ↓reduceIte, List.append_nil, Bool.true_and, Bool.or_true, true_and, List.isEmpty_nil]
        cases r223
        (try simp only [List.map_append, List.map_cons, List.map_nil, List.map_set, List.length_append, List.length_cons, List.length_nil, List.length_map, Nat.zero_add, List.map_take, List.map_drop]); (repeat' (first | with_reducible exact leV.refl _ | with_reducible exact leL.refl _ | with_reducible exact leE.refl _ | refine leL_cons _ _ _ _ ?_ ?_ | refine leV_agg _ _ ?_ | refine leV_tup _ _ ?_ | refine leV_dptr _ _ ?_ | refine leV_fn _ _ _ ?_ | exact leL_nil | exact leE_nil | (rw [leV_nil]; trivial) | (rw [leV_junk]; trivial) | refine leV_sl _ _ _ _ _ rfl ?_ | exact leV.refl _ | refine leE_app _ _ _ _ ?_ ?_ | refine leE_cons _ _ _ _ ?_ ?_ | exact leE.refl _ | (refine leV_eq _ _ ?_; simp; done) | rfl | (simp [mapV_nil]; done)))
      | false =>
        simp only [h220, ↓reduceIte, Bool.false_eq_true] at hr
        cases h224 : (eqB a0 (⟨#[100, 105, 118]⟩ : ByteArray)) with
        | true =>
          simp only [h224, ↓reduceIte, Bool.false_eq_true] at hr
          simp only [awp_reg, awp_seq, awp_cond, awp_block, seqQ_n, awpOps_nil, awpOps_one, awpOp_is, isCallV, callW_is, callV_is, putK_is, put_s, slot_is, pureOp, apureO, aev, cv, cvc, binK, condA_t, condA_f, argT, isC, bsD, Bool.false_eq_true, ↓reduceIte, List.map_cons, List.map_nil, List.append_nil, reduceCtorEq, Nat.reduceAdd, Nat.reduceEqDiff, Nat.zero_add, h212, h216, h220, h224, eqB_is]
          obtain ⟨y232, h233, r234⟩ := bindS hr
          clear hr
          try dsimp only at r234
          refine call_meets ((ref17_Floor_ok h233).le ?_) (by simp only [aev, cv, cvc, toD_c, consO_some, toDL_nil, toDL_cons, isC, bsD] <;> rfl) ?_
          · (try simp only [List.map_append, List.map_cons, List.map_nil, List.map_set, List.length_append, List.length_cons, List.length_nil, List.length_map, Nat.zero_add, List.map_take, List.map_drop]); (repeat' (first | with_reducible exact leV.refl _ | with_reducible exact leL.refl _ | with_reducible exact leE.refl _ | refine leL_cons _ _ _ _ ?_ ?_ | refine leV_agg _ _ ?_ | refine leV_tup _ _ ?_ | refine leV_dptr _ _ ?_ | refine leV_fn _ _ _ ?_ | exact leL_nil | exact leE_nil | (rw [leV_nil]; trivial) | (rw [leV_junk]; trivial) | refine leV_sl _ _ _ _ _ rfl ?_ | exact leV.refl _ | refine leE_app _ _ _ _ ?_ ?_ | refine leE_cons _ _ _ _ ?_ ?_ | exact leE.refl _ | (refine leV_eq _ _ ?_; simp; done) | rfl | (simp [mapV_nil]; done)))
          simp only [awpOps_one, awpOp_is, isCallV, callW_is, callV_is, upd_s, slot_is, pureOp, killT, aev, cv, cvc, flat_c, ownsV_c, ownsL_nil, ownsL_cons, isC, bsD, Bool.false_eq_true, ↓reduceIte, List.map_cons, List.map_nil, List.append_nil, Bool.or_true, List.isEmpty_nil]
          obtain ⟨y235, h236, r237⟩ := bindS r234
          clear r234
          try dsimp only at r237
          refine call_meets ((ref17_Wrap_ok h236).le ?_) (by simp only [aev, cv, cvc, toD_c, consO_some, toDL_nil, toDL_cons, isC, bsD] <;> rfl) ?_
          · (try simp only [List.map_append, List.map_cons, List.map_nil, List.map_set, List.length_append, List.length_cons, List.length_nil, List.length_map, Nat.zero_add, List.map_take, List.map_drop]); (repeat' (first | with_reducible exact leV.refl _ | with_reducible exact leL.refl _ | with_reducible exact leE.refl _ | refine leL_cons _ _ _ _ ?_ ?_ | refine leV_agg _ _ ?_ | refine leV_tup _ _ ?_ | refine leV_dptr _ _ ?_ | refine leV_fn _ _ _ ?_ | exact leL_nil | exact leE_nil | (rw [leV_nil]; trivial) | (rw [leV_junk]; trivial) | refine leV_sl _ _ _ _ _ rfl ?_ | exact leV.refl _ | refine leE_app _ _ _ _ ?_ ?_ | refine leE_cons _ _ _ _ ?_ ?_ | exact leE.refl _ | (refine leV_eq _ _ ?_; simp; done) | rfl | (simp [mapV_nil]; done)))
          simp only [awp_ret, seqQ_n, seqQ_r, blkQ_r, awpOps_nil, awpOps_one, awpOp_is, putK_is, put_s, upd_s, slot_is, pureOp, apureO, killT, aev, cv, cvc, elO_s, flat_c, ownsV_c, ownsL_nil, ownsL_cons, toD_c, notExit, resA_nil, resA_tmp, oneA_1, isC, bsD, retV_is, ↓reduceIte, List.append_nil, Bool.true_and, Bool.or_true, true_and, List.isEmpty_nil]
          cases r237
          (try simp only [List.map_append, List.map_cons, List.map_nil, List.map_set, List.length_append, List.length_cons, List.length_nil, List.length_map, Nat.zero_add, List.map_take, List.map_drop]); (repeat' (first | with_reducible exact leV.refl _ | with_reducible exact leL.refl _ | with_reducible exact leE.refl _ | refine leL_cons _ _ _ _ ?_ ?_ | refine leV_agg _ _ ?_ | refine leV_tup _ _ ?_ | refine leV_dptr _ _ ?_ | refine leV_fn _ _ _ ?_ | exact leL_nil | exact leE_nil | (rw [leV_nil]; trivial) | (rw [leV_junk]; trivial) | refine leV_sl _ _ _ _ _ rfl ?_ | exact leV.refl _ | refine leE_app _ _ _ _ ?_ ?_ | refine leE_cons _ _ _ _ ?_ ?_ | exact leE.refl _ | (refine leV_eq _ _ ?_; simp; done) | rfl | (simp [mapV_nil]; done)))
        | false =>
          simp only [h224, ↓reduceIte, Bool.false_eq_true] at hr
          cases h238 : (eqB a0 (⟨#[109, 111, 100]⟩ : ByteArray)) with
          | true =>
            simp only [h238, ↓reduceIte, Bool.false_eq_true] at hr
            cases h239 : (a2 == (0 : Int)) with
            | true =>
              simp only [h239, ↓reduceIte, Bool.false_eq_true] at hr
              simp only [awp_reg, awp_seq, awp_cond, awp_block, awp_ret, seqQ_n, seqQ_r, blkQ_r, awpOps_nil, awpOps_one, awpOp_is, putK_is, put_s, slot_is, pureOp, apureO, aev, cv, cvc, binK, elO_s, condA_t, condA_f, toD_c, notExit, resA_nil, resA_tmp, oneA_1, argT, isC, bsD, retV_is, ↓reduceIte, Bool.true_and, true_and, reduceCtorEq, Nat.reduceAdd, Nat.reduceEqDiff, Nat.zero_add, h212, h216, h220, h224, h238, h239, eqB_is]
              cases hr
              (try simp only [List.map_append, List.map_cons, List.map_nil, List.map_set, List.length_append, List.length_cons, List.length_nil, List.length_map, Nat.zero_add, List.map_take, List.map_drop]); (repeat' (first | with_reducible exact leV.refl _ | with_reducible exact leL.refl _ | with_reducible exact leE.refl _ | refine leL_cons _ _ _ _ ?_ ?_ | refine leV_agg _ _ ?_ | refine leV_tup _ _ ?_ | refine leV_dptr _ _ ?_ | refine leV_fn _ _ _ ?_ | exact leL_nil | exact leE_nil | (rw [leV_nil]; trivial) | (rw [leV_junk]; trivial) | refine leV_sl _ _ _ _ _ rfl ?_ | exact leV.refl _ | refine leE_app _ _ _ _ ?_ ?_ | refine leE_cons _ _ _ _ ?_ ?_ | exact leE.refl _ | (refine leV_eq _ _ ?_; simp; done) | rfl | (simp [mapV_nil]; done)))
            | false =>
              simp only [h239, ↓reduceIte, Bool.false_eq_true] at hr
              simp only [awp_skip, awp_reg, awp_seq, awp_cond, awp_block, seqQ_n, awpOps_nil, awpOps_one, awpOp_is, isCallV, callW_is, callV_is, putK_is, put_s, slot_is, pureOp, apureO, aev, cv, cvc, binK, condA_t, condA_f, argT, isC, bsD, Bool.false_eq_true, ↓reduceIte, List.map_cons, List.map_nil, List.append_nil, Bool.true_and, true_and, reduceCtorEq, Nat.reduceAdd, Nat.reduceEqDiff, Nat.zero_add, h212, h216, h220, h224, h238, h239, eqB_is]
              obtain ⟨y240, h241, r242⟩ := bindS hr
              clear hr
              try dsimp only at r242
              refine call_meets ((ref17_Floor_ok h241).le ?_) (by simp only [aev, cv, cvc, toD_c, consO_some, toDL_nil, toDL_cons, isC, bsD] <;> rfl) ?_
              · (try simp only [List.map_append, List.map_cons, List.map_nil, List.map_set, List.length_append, List.length_cons, List.length_nil, List.length_map, Nat.zero_add, List.map_take, List.map_drop]); (repeat' (first | with_reducible exact leV.refl _ | with_reducible exact leL.refl _ | with_reducible exact leE.refl _ | refine leL_cons _ _ _ _ ?_ ?_ | refine leV_agg _ _ ?_ | refine leV_tup _ _ ?_ | refine leV_dptr _ _ ?_ | refine leV_fn _ _ _ ?_ | exact leL_nil | exact leE_nil | (rw [leV_nil]; trivial) | (rw [leV_junk]; trivial) | refine leV_sl _ _ _ _ _ rfl ?_ | exact leV.refl _ | refine leE_app _ _ _ _ ?_ ?_ | refine leE_cons _ _ _ _ ?_ ?_ | exact leE.refl _ | (refine leV_eq _ _ ?_; simp; done) | rfl | (simp [mapV_nil]; done)))
              simp only [awp_ret, seqQ_n, seqQ_r, blkQ_r, awpOps_nil, awpOps_one, awpOp_is, putK_is, put_s, upd_s, slot_is, pureOp, apureO, killT, aev, cv, cvc, binK, elO_s, flat_c, ownsV_c, ownsL_nil, ownsL_cons, toD_c, notExit, resA_nil, resA_tmp, oneA_1, isC, bsD, retV_is, ↓reduceIte, List.append_nil, Bool.true_and, Bool.or_true, true_and, Nat.reduceEqDiff, List.isEmpty_nil]
              cases r242
              (try simp only [List.map_append, List.map_cons, List.map_nil, List.map_set, List.length_append, List.length_cons, List.length_nil, List.length_map, Nat.zero_add, List.map_take, List.map_drop]); (repeat' (first | with_reducible exact leV.refl _ | with_reducible exact leL.refl _ | with_reducible exact leE.refl _ | refine leL_cons _ _ _ _ ?_ ?_ | refine leV_agg _ _ ?_ | refine leV_tup _ _ ?_ | refine leV_dptr _ _ ?_ | refine leV_fn _ _ _ ?_ | exact leL_nil | exact leE_nil | (rw [leV_nil]; trivial) | (rw [leV_junk]; trivial) | refine leV_sl _ _ _ _ _ rfl ?_ | exact leV.refl _ | refine leE_app _ _ _ _ ?_ ?_ | refine leE_cons _ _ _ _ ?_ ?_ | exact leE.refl _ | (refine leV_eq _ _ ?_; simp; done) | rfl | (simp [mapV_nil]; done)))
          | false =>
            simp only [h238, ↓reduceIte, Bool.false_eq_true] at hr
            cases h243 : (eqB a0 (⟨#[109, 105, 110]⟩ : ByteArray)) with
            | true =>
              simp only [h243, ↓reduceIte, Bool.false_eq_true] at hr
              simp only [awp_reg, awp_seq, awp_cond, awp_block, awp_ret, seqQ_n, seqQ_r, blkQ_r, awpOps_nil, awpOps_one, awpOp_is, putK_is, put_s, slot_is, pureOp, apureO, int2_is, aev, cv, cvc, binK, elO_s, condA_t, condA_f, toD_c, notExit, resA_nil, resA_tmp, oneA_1, argT, isC, bsD, retV_is, ↓reduceIte, Bool.true_and, true_and, reduceCtorEq, Nat.reduceAdd, Nat.reduceEqDiff, Nat.zero_add, h212, h216, h220, h224, h238, h243, eqB_is]
              cases hr
              (try simp only [List.map_append, List.map_cons, List.map_nil, List.map_set, List.length_append, List.length_cons, List.length_nil, List.length_map, Nat.zero_add, List.map_take, List.map_drop]); (repeat' (first | with_reducible exact leV.refl _ | with_reducible exact leL.refl _ | with_reducible exact leE.refl _ | refine leL_cons _ _ _ _ ?_ ?_ | refine leV_agg _ _ ?_ | refine leV_tup _ _ ?_ | refine leV_dptr _ _ ?_ | refine leV_fn _ _ _ ?_ | exact leL_nil | exact leE_nil | (rw [leV_nil]; trivial) | (rw [leV_junk]; trivial) | refine leV_sl _ _ _ _ _ rfl ?_ | exact leV.refl _ | refine leE_app _ _ _ _ ?_ ?_ | refine leE_cons _ _ _ _ ?_ ?_ | exact leE.refl _ | (refine leV_eq _ _ ?_; simp; done) | rfl | (simp [mapV_nil]; done)))
            | false =>
              simp only [h243, ↓reduceIte, Bool.false_eq_true] at hr
              cases h244 : (eqB a0 (⟨#[109, 97, 120]⟩ : ByteArray)) with
              | true =>
                simp only [h244, ↓reduceIte, Bool.false_eq_true] at hr
                simp only [awp_reg, awp_seq, awp_cond, awp_block, awp_ret, seqQ_n, seqQ_r, blkQ_r, awpOps_nil, awpOps_one, awpOp_is, putK_is, put_s, slot_is, pureOp, apureO, int2_is, aev, cv, cvc, binK, elO_s, condA_t, condA_f, toD_c, notExit, resA_nil, resA_tmp, oneA_1, argT, isC, bsD, retV_is, ↓reduceIte, Bool.true_and, true_and, reduceCtorEq, Nat.reduceAdd, Nat.reduceEqDiff, Nat.zero_add, h212, h216, h220, h224, h238, h243, h244, eqB_is]
                cases hr
                (try simp only [List.map_append, List.map_cons, List.map_nil, List.map_set, List.length_append, List.length_cons, List.length_nil, List.length_map, Nat.zero_add, List.map_take, List.map_drop]); (repeat' (first | with_reducible exact leV.refl _ | with_reducible exact leL.refl _ | with_reducible exact leE.refl _ | refine leL_cons _ _ _ _ ?_ ?_ | refine leV_agg _ _ ?_ | refine leV_tup _ _ ?_ | refine leV_dptr _ _ ?_ | refine leV_fn _ _ _ ?_ | exact leL_nil | exact leE_nil | (rw [leV_nil]; trivial) | (rw [leV_junk]; trivial) | refine leV_sl _ _ _ _ _ rfl ?_ | exact leV.refl _ | refine leE_app _ _ _ _ ?_ ?_ | refine leE_cons _ _ _ _ ?_ ?_ | exact leE.refl _ | (refine leV_eq _ _ ?_; simp; done) | rfl | (simp [mapV_nil]; done)))
              | false =>
                simp only [h244, ↓reduceIte, Bool.false_eq_true] at hr
                cases h245 : (eqB a0 (⟨#[108, 116]⟩ : ByteArray)) with
                | true =>
                  simp only [h245, ↓reduceIte, Bool.false_eq_true] at hr
                  simp only [awp_reg, awp_seq, awp_cond, awp_block, seqQ_n, awpOps_nil, awpOps_one, awpOp_is, isCallV, callW_is, callV_is, putK_is, put_s, slot_is, pureOp, apureO, aev, cv, cvc, binK, condA_t, condA_f, argT, isC, bsD, Bool.false_eq_true, ↓reduceIte, List.map_cons, List.map_nil, List.append_nil, Bool.true_and, true_and, reduceCtorEq, Nat.reduceAdd, Nat.reduceEqDiff, Nat.zero_add, h212, h216, h220, h224, h238, h243, h244, h245, eqB_is]
                  obtain ⟨y246, h247, r248⟩ := bindS hr
                  clear hr
                  try dsimp only at r248
                  refine call_meets ((ref17_truth_ok h247).le ?_) (by simp only [aev, cv, cvc, toD_c, consO_some, toDL_nil, toDL_cons, isC, bsD] <;> rfl) ?_
                  · (try simp only [List.map_append, List.map_cons, List.map_nil, List.map_set, List.length_append, List.length_cons, List.length_nil, List.length_map, Nat.zero_add, List.map_take, List.map_drop]); (repeat' (first | with_reducible exact leV.refl _ | with_reducible exact leL.refl _ | with_reducible exact leE.refl _ | refine leL_cons _ _ _ _ ?_ ?_ | refine leV_agg _ _ ?_ | refine leV_tup _ _ ?_ | refine leV_dptr _ _ ?_ | refine leV_fn _ _ _ ?_ | exact leL_nil | exact leE_nil | (rw [leV_nil]; trivial) | (rw [leV_junk]; trivial) | refine leV_sl _ _ _ _ _ rfl ?_ | exact leV.refl _ | refine leE_app _ _ _ _ ?_ ?_ | refine leE_cons _ _ _ _ ?_ ?_ | exact leE.refl _ | (refine leV_eq _ _ ?_; simp; done) | rfl | (simp [mapV_nil]; done)))
                  simp only [awp_ret, seqQ_n, seqQ_r, blkQ_r, awpOps_nil, awpOps_one, awpOp_is, putK_is, put_s, upd_s, slot_is, pureOp, apureO, killT, aev, cv, cvc, elO_s, flat_c, ownsV_c, ownsL_nil, ownsL_cons, toD_c, notExit, resA_nil, resA_tmp, oneA_1, isC, bsD, retV_is, ↓reduceIte, List.append_nil, Bool.true_and, Bool.or_true, true_and, List.isEmpty_nil]
                  cases r248
                  (try simp only [List.map_append, List.map_cons, List.map_nil, List.map_set, List.length_append, List.length_cons, List.length_nil, List.length_map, Nat.zero_add, List.map_take, List.map_drop]); (repeat' (first | with_reducible exact leV.refl _ | with_reducible exact leL.refl _ | with_reducible exact leE.refl _ | refine leL_cons _ _ _ _ ?_ ?_ | refine leV_agg _ _ ?_ | refine leV_tup _ _ ?_ | refine leV_dptr _ _ ?_ | refine leV_fn _ _ _ ?_ | exact leL_nil | exact leE_nil | (rw [leV_nil]; trivial) | (rw [leV_junk]; trivial) | refine leV_sl _ _ _ _ _ rfl ?_ | exact leV.refl _ | refine leE_app _ _ _ _ ?_ ?_ | refine leE_cons _ _ _ _ ?_ ?_ | exact leE.refl _ | (refine leV_eq _ _ ?_; simp; done) | rfl | (simp [mapV_nil]; done)))
                | false =>
                  simp only [h245, ↓reduceIte, Bool.false_eq_true] at hr
                  cases h249 : (eqB a0 (⟨#[108, 101]⟩ : ByteArray)) with
                  | true =>
                    simp only [h249, ↓reduceIte, Bool.false_eq_true] at hr
                    simp only [awp_reg, awp_seq, awp_cond, awp_block, seqQ_n, awpOps_nil, awpOps_one, awpOp_is, isCallV, callW_is, callV_is, putK_is, put_s, slot_is, pureOp, apureO, aev, cv, cvc, binK, condA_t, condA_f, argT, isC, bsD, Bool.false_eq_true, ↓reduceIte, List.map_cons, List.map_nil, List.append_nil, Bool.true_and, true_and, reduceCtorEq, Nat.reduceAdd, Nat.reduceEqDiff, Nat.zero_add, h212, h216, h220, h224, h238, h243, h244, h245, h249, eqB_is]
                    obtain ⟨y250, h251, r252⟩ := bindS hr
                    clear hr
                    try dsimp only at r252
                    refine call_meets ((ref17_truth_ok h251).le ?_) (by simp only [aev, cv, cvc, toD_c, consO_some, toDL_nil, toDL_cons, isC, bsD] <;> rfl) ?_
                    · (try simp only [List.map_append, List.map_cons, List.map_nil, List.map_set, List.length_append, List.length_cons, List.length_nil, List.length_map, Nat.zero_add, List.map_take, List.map_drop]); (repeat' (first | with_reducible exact leV.refl _ | with_reducible exact leL.refl _ | with_reducible exact leE.refl _ | refine leL_cons _ _ _ _ ?_ ?_ | refine leV_agg _ _ ?_ | refine leV_tup _ _ ?_ | refine leV_dptr _ _ ?_ | refine leV_fn _ _ _ ?_ | exact leL_nil | exact leE_nil | (rw [leV_nil]; trivial) | (rw [leV_junk]; trivial) | refine leV_sl _ _ _ _ _ rfl ?_ | exact leV.refl _ | refine leE_app _ _ _ _ ?_ ?_ | refine leE_cons _ _ _ _ ?_ ?_ | exact leE.refl _ | (refine leV_eq _ _ ?_; simp; done) | rfl | (simp [mapV_nil]; done)))
                    simp only [awp_ret, seqQ_n, seqQ_r, blkQ_r, awpOps_nil, awpOps_one, awpOp_is, putK_is, put_s, upd_s, slot_is, pureOp, apureO, killT, aev, cv, cvc, elO_s, flat_c, ownsV_c, ownsL_nil, ownsL_cons, toD_c, notExit, resA_nil, resA_tmp, oneA_1, isC, bsD, retV_is, ↓reduceIte, List.append_nil, Bool.true_and, Bool.or_true, true_and, List.isEmpty_nil]
                    cases r252
                    (try simp only [List.map_append, List.map_cons, List.map_nil, List.map_set, List.length_append, List.length_cons, List.length_nil, List.length_map, Nat.zero_add, List.map_take, List.map_drop]); (repeat' (first | with_reducible exact leV.refl _ | with_reducible exact leL.refl _ | with_reducible exact leE.refl _ | refine leL_cons _ _ _ _ ?_ ?_ | refine leV_agg _ _ ?_ | refine leV_tup _ _ ?_ | refine leV_dptr _ _ ?_ | refine leV_fn _ _ _ ?_ | exact leL_nil | exact leE_nil | (rw [leV_nil]; trivial) | (rw [leV_junk]; trivial) | refine leV_sl _ _ _ _ _ rfl ?_ | exact leV.refl _ | refine leE_app _ _ _ _ ?_ ?_ | refine leE_cons _ _ _ _ ?_ ?_ | exact leE.refl _ | (refine leV_eq _ _ ?_; simp; done) | rfl | (simp [mapV_nil]; done)))
                  | false =>
                    simp only [h249, ↓reduceIte, Bool.false_eq_true] at hr
                    cases h253 : (eqB a0 (⟨#[103, 116]⟩ : ByteArray)) with
                    | true =>
                      simp only [h253, ↓reduceIte, Bool.false_eq_true] at hr
                      simp only [awp_reg, awp_seq, awp_cond, awp_block, seqQ_n, awpOps_nil, awpOps_one, awpOp_is, isCallV, callW_is, callV_is, putK_is, put_s, slot_is, pureOp, apureO, aev, cv, cvc, binK, condA_t, condA_f, argT, isC, bsD, Bool.false_eq_true, ↓reduceIte, List.map_cons, List.map_nil, List.append_nil, Bool.true_and, true_and, reduceCtorEq, Nat.reduceAdd, Nat.reduceEqDiff, Nat.zero_add, h212, h216, h220, h224, h238, h243, h244, h245, h249, h253, eqB_is]
                      obtain ⟨y254, h255, r256⟩ := bindS hr
                      clear hr
                      try dsimp only at r256
                      refine call_meets ((ref17_truth_ok h255).le ?_) (by simp only [aev, cv, cvc, toD_c, consO_some, toDL_nil, toDL_cons, isC, bsD] <;> rfl) ?_
                      · (try simp only [List.map_append, List.map_cons, List.map_nil, List.map_set, List.length_append, List.length_cons, List.length_nil, List.length_map, Nat.zero_add, List.map_take, List.map_drop]); (repeat' (first | with_reducible exact leV.refl _ | with_reducible exact leL.refl _ | with_reducible exact leE.refl _ | refine leL_cons _ _ _ _ ?_ ?_ | refine leV_agg _ _ ?_ | refine leV_tup _ _ ?_ | refine leV_dptr _ _ ?_ | refine leV_fn _ _ _ ?_ | exact leL_nil | exact leE_nil | (rw [leV_nil]; trivial) | (rw [leV_junk]; trivial) | refine leV_sl _ _ _ _ _ rfl ?_ | exact leV.refl _ | refine leE_app _ _ _ _ ?_ ?_ | refine leE_cons _ _ _ _ ?_ ?_ | exact leE.refl _ | (refine leV_eq _ _ ?_; simp; done) | rfl | (simp [mapV_nil]; done)))
                      simp only [awp_ret, seqQ_n, seqQ_r, blkQ_r, awpOps_nil, awpOps_one, awpOp_is, putK_is, put_s, upd_s, slot_is, pureOp, apureO, killT, aev, cv, cvc, elO_s, flat_c, ownsV_c, ownsL_nil, ownsL_cons, toD_c, notExit, resA_nil, resA_tmp, oneA_1, isC, bsD, retV_is, ↓reduceIte, List.append_nil, Bool.true_and, Bool.or_true, true_and, List.isEmpty_nil]
                      cases r256
                      (try simp only [List.map_append, List.map_cons, List.map_nil, List.map_set, List.length_append, List.length_cons, List.length_nil, List.length_map, Nat.zero_add, List.map_take, List.map_drop]); (repeat' (first | with_reducible exact leV.refl _ | with_reducible exact leL.refl _ | with_reducible exact leE.refl _ | refine leL_cons _ _ _ _ ?_ ?_ | refine leV_agg _ _ ?_ | refine leV_tup _ _ ?_ | refine leV_dptr _ _ ?_ | refine leV_fn _ _ _ ?_ | exact leL_nil | exact leE_nil | (rw [leV_nil]; trivial) | (rw [leV_junk]; trivial) | refine leV_sl _ _ _ _ _ rfl ?_ | exact leV.refl _ | refine leE_app _ _ _ _ ?_ ?_ | refine leE_cons _ _ _ _ ?_ ?_ | exact leE.refl _ | (refine leV_eq _ _ ?_; simp; done) | rfl | (simp [mapV_nil]; done)))
                    | false =>
                      simp only [h253, ↓reduceIte, Bool.false_eq_true] at hr
                      cases h257 : (eqB a0 (⟨#[103, 101]⟩ : ByteArray)) with
                      | true =>
                        simp only [h257, ↓reduceIte, Bool.false_eq_true] at hr
                        simp only [awp_reg, awp_seq, awp_cond, awp_block, seqQ_n, awpOps_nil, awpOps_one, awpOp_is, isCallV, callW_is, callV_is, putK_is, put_s, slot_is, pureOp, apureO, aev, cv, cvc, binK, condA_t, condA_f, argT, isC, bsD, Bool.false_eq_true, ↓reduceIte, List.map_cons, List.map_nil, List.append_nil, Bool.true_and, true_and, reduceCtorEq, Nat.reduceAdd, Nat.reduceEqDiff, Nat.zero_add, h212, h216, h220, h224, h238, h243, h244, h245, h249, h253, h257, eqB_is]
                        obtain ⟨y258, h259, r260⟩ := bindS hr
                        clear hr
                        try dsimp only at r260
                        refine call_meets ((ref17_truth_ok h259).le ?_) (by simp only [aev, cv, cvc, toD_c, consO_some, toDL_nil, toDL_cons, isC, bsD] <;> rfl) ?_
                        · (try simp only [List.map_append, List.map_cons, List.map_nil, List.map_set, List.length_append, List.length_cons, List.length_nil, List.length_map, Nat.zero_add, List.map_take, List.map_drop]); (repeat' (first | with_reducible exact leV.refl _ | with_reducible exact leL.refl _ | with_reducible exact leE.refl _ | refine leL_cons _ _ _ _ ?_ ?_ | refine leV_agg _ _ ?_ | refine leV_tup _ _ ?_ | refine leV_dptr _ _ ?_ | refine leV_fn _ _ _ ?_ | exact leL_nil | exact leE_nil | (rw [leV_nil]; trivial) | (rw [leV_junk]; trivial) | refine leV_sl _ _ _ _ _ rfl ?_ | exact leV.refl _ | refine leE_app _ _ _ _ ?_ ?_ | refine leE_cons _ _ _ _ ?_ ?_ | exact leE.refl _ | (refine leV_eq _ _ ?_; simp; done) | rfl | (simp [mapV_nil]; done)))
                        simp only [awp_ret, seqQ_n, seqQ_r, blkQ_r, awpOps_nil, awpOps_one, awpOp_is, putK_is, put_s, upd_s, slot_is, pureOp, apureO, killT, aev, cv, cvc, elO_s, flat_c, ownsV_c, ownsL_nil, ownsL_cons, toD_c, notExit, resA_nil, resA_tmp, oneA_1, isC, bsD, retV_is, ↓reduceIte, List.append_nil, Bool.true_and, Bool.or_true, true_and, List.isEmpty_nil]
                        cases r260
                        (try simp only [List.map_append, List.map_cons, List.map_nil, List.map_set, List.length_append, List.length_cons, List.length_nil, List.length_map, Nat.zero_add, List.map_take, List.map_drop]); (repeat' (first | with_reducible exact leV.refl _ | with_reducible exact leL.refl _ | with_reducible exact leE.refl _ | refine leL_cons _ _ _ _ ?_ ?_ | refine leV_agg _ _ ?_ | refine leV_tup _ _ ?_ | refine leV_dptr _ _ ?_ | refine leV_fn _ _ _ ?_ | exact leL_nil | exact leE_nil | (rw [leV_nil]; trivial) | (rw [leV_junk]; trivial) | refine leV_sl _ _ _ _ _ rfl ?_ | exact leV.refl _ | refine leE_app _ _ _ _ ?_ ?_ | refine leE_cons _ _ _ _ ?_ ?_ | exact leE.refl _ | (refine leV_eq _ _ ?_; simp; done) | rfl | (simp [mapV_nil]; done)))
                      | false =>
                        simp only [h257, ↓reduceIte, Bool.false_eq_true] at hr
                        cases h261 : (eqB a0 (⟨#[101, 113]⟩ : ByteArray)) with
                        | true =>
                          simp only [h261, ↓reduceIte, Bool.false_eq_true] at hr
                          simp only [awp_reg, awp_seq, awp_cond, awp_block, seqQ_n, awpOps_nil, awpOps_one, awpOp_is, isCallV, callW_is, callV_is, putK_is, put_s, slot_is, pureOp, apureO, aev, cv, cvc, binK, condA_t, condA_f, argT, isC, bsD, Bool.false_eq_true, ↓reduceIte, List.map_cons, List.map_nil, List.append_nil, Bool.true_and, true_and, reduceCtorEq, Nat.reduceAdd, Nat.reduceEqDiff, Nat.zero_add, h212, h216, h220, h224, h238, h243, h244, h245, h249, h253, h257, h261, eqB_is]
                          obtain ⟨y262, h263, r264⟩ := bindS hr
                          clear hr
                          try dsimp only at r264
                          refine call_meets ((ref17_truth_ok h263).le ?_) (by simp only [aev, cv, cvc, toD_c, consO_some, toDL_nil, toDL_cons, isC, bsD] <;> rfl) ?_
                          · (try simp only [List.map_append, List.map_cons, List.map_nil, List.map_set, List.length_append, List.length_cons, List.length_nil, List.length_map, Nat.zero_add, List.map_take, List.map_drop]); (repeat' (first | with_reducible exact leV.refl _ | with_reducible exact leL.refl _ | with_reducible exact leE.refl _ | refine leL_cons _ _ _ _ ?_ ?_ | refine leV_agg _ _ ?_ | refine leV_tup _ _ ?_ | refine leV_dptr _ _ ?_ | refine leV_fn _ _ _ ?_ | exact leL_nil | exact leE_nil | (rw [leV_nil]; trivial) | (rw [leV_junk]; trivial) | refine leV_sl _ _ _ _ _ rfl ?_ | exact leV.refl _ | refine leE_app _ _ _ _ ?_ ?_ | refine leE_cons _ _ _ _ ?_ ?_ | exact leE.refl _ | (refine leV_eq _ _ ?_; simp; done) | rfl | (simp [mapV_nil]; done)))
                          simp only [awp_ret, seqQ_n, seqQ_r, blkQ_r, awpOps_nil, awpOps_one, awpOp_is, putK_is, put_s, upd_s, slot_is, pureOp, apureO, killT, aev, cv, cvc, elO_s, flat_c, ownsV_c, ownsL_nil, ownsL_cons, toD_c, notExit, resA_nil, resA_tmp, oneA_1, isC, bsD, retV_is, ↓reduceIte, List.append_nil, Bool.true_and, Bool.or_true, true_and, List.isEmpty_nil]
                          cases r264
                          (try simp only [List.map_append, List.map_cons, List.map_nil, List.map_set, List.length_append, List.length_cons, List.length_nil, List.length_map, Nat.zero_add, List.map_take, List.map_drop]); (repeat' (first | with_reducible exact leV.refl _ | with_reducible exact leL.refl _ | with_reducible exact leE.refl _ | refine leL_cons _ _ _ _ ?_ ?_ | refine leV_agg _ _ ?_ | refine leV_tup _ _ ?_ | refine leV_dptr _ _ ?_ | refine leV_fn _ _ _ ?_ | exact leL_nil | exact leE_nil | (rw [leV_nil]; trivial) | (rw [leV_junk]; trivial) | refine leV_sl _ _ _ _ _ rfl ?_ | exact leV.refl _ | refine leE_app _ _ _ _ ?_ ?_ | refine leE_cons _ _ _ _ ?_ ?_ | exact leE.refl _ | (refine leV_eq _ _ ?_; simp; done) | rfl | (simp [mapV_nil]; done)))
                        | false =>
                          simp only [h261, ↓reduceIte, Bool.false_eq_true] at hr
                          cases h265 : (eqB a0 (⟨#[110, 101]⟩ : ByteArray)) with
                          | true =>
                            simp only [h265, ↓reduceIte, Bool.false_eq_true] at hr
                            simp only [awp_skip, awp_reg, awp_seq, awp_cond, awp_block, seqQ_n, awpOps_nil, awpOps_one, awpOp_is, isCallV, callW_is, callV_is, putK_is, put_s, slot_is, pureOp, apureO, aev, cv, cvc, binK, condA_t, condA_f, argT, isC, bsD, Bool.false_eq_true, ↓reduceIte, List.map_cons, List.map_nil, List.append_nil, Bool.true_and, true_and, reduceCtorEq, Nat.reduceAdd, Nat.reduceEqDiff, Nat.zero_add, h212, h216, h220, h224, h238, h243, h244, h245, h249, h253, h257, h261, h265, eqB_is]
                            obtain ⟨y266, h267, r268⟩ := bindS hr
                            clear hr
                            try dsimp only at r268
                            refine call_meets ((ref17_truth_ok h267).le ?_) (by simp only [aev, cv, cvc, toD_c, consO_some, toDL_nil, toDL_cons, isC, bsD] <;> rfl) ?_
                            · (try simp only [List.map_append, List.map_cons, List.map_nil, List.map_set, List.length_append, List.length_cons, List.length_nil, List.length_map, Nat.zero_add, List.map_take, List.map_drop]); (repeat' (first | with_reducible exact leV.refl _ | with_reducible exact leL.refl _ | with_reducible exact leE.refl _ | refine leL_cons _ _ _ _ ?_ ?_ | refine leV_agg _ _ ?_ | refine leV_tup _ _ ?_ | refine leV_dptr _ _ ?_ | refine leV_fn _ _ _ ?_ | exact leL_nil | exact leE_nil | (rw [leV_nil]; trivial) | (rw [leV_junk]; trivial) | refine leV_sl _ _ _ _ _ rfl ?_ | exact leV.refl _ | refine leE_app _ _ _ _ ?_ ?_ | refine leE_cons _ _ _ _ ?_ ?_ | exact leE.refl _ | (refine leV_eq _ _ ?_; simp; done) | rfl | (simp [mapV_nil]; done)))
                            simp only [awp_ret, seqQ_n, seqQ_r, blkQ_r, awpOps_nil, awpOps_one, awpOp_is, putK_is, put_s, upd_s, slot_is, pureOp, apureO, killT, aev, cv, cvc, elO_s, flat_c, ownsV_c, ownsL_nil, ownsL_cons, toD_c, notExit, resA_nil, resA_tmp, oneA_1, isC, bsD, retV_is, ↓reduceIte, List.append_nil, Bool.true_and, Bool.or_true, true_and, List.isEmpty_nil]
                            cases r268
                            (try simp only [List.map_append, List.map_cons, List.map_nil, List.map_set, List.length_append, List.length_cons, List.length_nil, List.length_map, Nat.zero_add, List.map_take, List.map_drop]); (repeat' (first | with_reducible exact leV.refl _ | with_reducible exact leL.refl _ | with_reducible exact leE.refl _ | refine leL_cons _ _ _ _ ?_ ?_ | refine leV_agg _ _ ?_ | refine leV_tup _ _ ?_ | refine leV_dptr _ _ ?_ | refine leV_fn _ _ _ ?_ | exact leL_nil | exact leE_nil | (rw [leV_nil]; trivial) | (rw [leV_junk]; trivial) | refine leV_sl _ _ _ _ _ rfl ?_ | exact leV.refl _ | refine leE_app _ _ _ _ ?_ ?_ | refine leE_cons _ _ _ _ ?_ ?_ | exact leE.refl _ | (refine leV_eq _ _ ?_; simp; done) | rfl | (simp [mapV_nil]; done)))
                          | false =>
                            simp only [h265, ↓reduceIte, Bool.false_eq_true] at hr
                            cases h269 : (eqB a0 (⟨#[120, 111, 114]⟩ : ByteArray)) with
                            | true =>
                              simp only [h269, ↓reduceIte, Bool.false_eq_true] at hr
                              simp only [awp_reg, awp_seq, awp_cond, awp_block, seqQ_n, awpOps_nil, awpOps_one, awpOp_is, isCallV, callW_is, callV_is, putK_is, put_s, slot_is, pureOp, apureO, aev, cv, cvc, binK, condA_t, condA_f, argT, isC, bsD, Bool.false_eq_true, ↓reduceIte, List.map_cons, List.map_nil, List.append_nil, Bool.true_and, true_and, reduceCtorEq, Nat.reduceAdd, Nat.reduceEqDiff, Nat.zero_add, h212, h216, h220, h224, h238, h243, h244, h245, h249, h253, h257, h261, h265, h269, eqB_is]
                              obtain ⟨y270, h271, r272⟩ := bindS hr
                              clear hr
                              try dsimp only at r272
                              refine call_meets ((ref17_truth_ok h271).le ?_) (by simp only [aev, cv, cvc, toD_c, consO_some, toDL_nil, toDL_cons, isC, bsD] <;> rfl) ?_
                              · (try simp only [List.map_append, List.map_cons, List.map_nil, List.map_set, List.length_append, List.length_cons, List.length_nil, List.length_map, Nat.zero_add, List.map_take, List.map_drop]); (repeat' (first | with_reducible exact leV.refl _ | with_reducible exact leL.refl _ | with_reducible exact leE.refl _ | refine leL_cons _ _ _ _ ?_ ?_ | refine leV_agg _ _ ?_ | refine leV_tup _ _ ?_ | refine leV_dptr _ _ ?_ | refine leV_fn _ _ _ ?_ | exact leL_nil | exact leE_nil | (rw [leV_nil]; trivial) | (rw [leV_junk]; trivial) | refine leV_sl _ _ _ _ _ rfl ?_ | exact leV.refl _ | refine leE_app _ _ _ _ ?_ ?_ | refine leE_cons _ _ _ _ ?_ ?_ | exact leE.refl _ | (refine leV_eq _ _ ?_; simp; done) | rfl | (simp [mapV_nil]; done)))
                              simp only [awp_ret, seqQ_n, seqQ_r, blkQ_r, awpOps_nil, awpOps_one, awpOp_is, putK_is, put_s, upd_s, slot_is, pureOp, apureO, killT, aev, cv, cvc, elO_s, flat_c, ownsV_c, ownsL_nil, ownsL_cons, toD_c, notExit, resA_nil, resA_tmp, oneA_1, isC, bsD, retV_is, ↓reduceIte, List.append_nil, Bool.true_and, Bool.or_true, true_and, List.isEmpty_nil]
                              cases r272
                              (try simp only [List.map_append, List.map_cons, List.map_nil, List.map_set, List.length_append, List.length_cons, List.length_nil, List.length_map, Nat.zero_add, List.map_take, List.map_drop]); (repeat' (first | with_reducible exact leV.refl _ | with_reducible exact leL.refl _ | with_reducible exact leE.refl _ | refine leL_cons _ _ _ _ ?_ ?_ | refine leV_agg _ _ ?_ | refine leV_tup _ _ ?_ | refine leV_dptr _ _ ?_ | refine leV_fn _ _ _ ?_ | exact leL_nil | exact leE_nil | (rw [leV_nil]; trivial) | (rw [leV_junk]; trivial) | refine leV_sl _ _ _ _ _ rfl ?_ | exact leV.refl _ | refine leE_app _ _ _ _ ?_ ?_ | refine leE_cons _ _ _ _ ?_ ?_ | exact leE.refl _ | (refine leV_eq _ _ ?_; simp; done) | rfl | (simp [mapV_nil]; done)))
                            | false =>
                              simp only [h269, ↓reduceIte, Bool.false_eq_true] at hr
                              cases h273 : (eqB a0 (⟨#[97, 110, 100]⟩ : ByteArray)) with
                              | true =>
                                simp only [h273, ↓reduceIte, Bool.false_eq_true] at hr
                                simp only [awp_reg, awp_seq, awp_cond, awp_block, awp_ret, seqQ_n, seqQ_r, blkQ_r, awpOps_nil, awpOps_one, awpOp_is, putK_is, put_s, slot_is, pureOp, apureO, aev, cv, cvc, binK, elO_s, condA_t, condA_f, toD_c, notExit, resA_nil, resA_tmp, oneA_1, argT, isC, bsD, retV_is, ↓reduceIte, Bool.true_and, true_and, reduceCtorEq, Nat.reduceAdd, Nat.reduceEqDiff, Nat.zero_add, h212, h216, h220, h224, h238, h243, h244, h245, h249, h253, h257, h261, h265, h269, h273, eqB_is]
                                cases hr
                                (try simp only [List.map_append, List.map_cons, List.map_nil, List.map_set, List.length_append, List.length_cons, List.length_nil, List.length_map, Nat.zero_add, List.map_take, List.map_drop]); (repeat' (first | with_reducible exact leV.refl _ | with_reducible exact leL.refl _ | with_reducible exact leE.refl _ | refine leL_cons _ _ _ _ ?_ ?_ | refine leV_agg _ _ ?_ | refine leV_tup _ _ ?_ | refine leV_dptr _ _ ?_ | refine leV_fn _ _ _ ?_ | exact leL_nil | exact leE_nil | (rw [leV_nil]; trivial) | (rw [leV_junk]; trivial) | refine leV_sl _ _ _ _ _ rfl ?_ | exact leV.refl _ | refine leE_app _ _ _ _ ?_ ?_ | refine leE_cons _ _ _ _ ?_ ?_ | exact leE.refl _ | (refine leV_eq _ _ ?_; simp; done) | rfl | (simp [mapV_nil]; done)))
                              | false =>
                                simp only [h273, ↓reduceIte, Bool.false_eq_true] at hr
                                simp only [awp_skip, awp_reg, awp_seq, awp_cond, awp_block, awp_ret, seqQ_n, blkQ_n, awpOps_nil, awpOps_one, awpOp_is, putK_is, put_s, slot_is, pureOp, apureO, int2_is, aev, cv, cvc, binK, elO_s, condA_f, toD_c, notExit, resA_nil, resA_tmp, oneA_1, argT, isC, bsD, retV_is, ↓reduceIte, Bool.true_and, true_and, reduceCtorEq, Nat.reduceAdd, Nat.reduceEqDiff, Nat.zero_add, h212, h216, h220, h224, h238, h243, h244, h245, h249, h253, h257, h261, h265, h269, h273, eqB_is]
                                cases hr
                                (try simp only [List.map_append, List.map_cons, List.map_nil, List.map_set, List.length_append, List.length_cons, List.length_nil, List.length_map, Nat.zero_add, List.map_take, List.map_drop]); (repeat' (first | with_reducible exact leV.refl _ | with_reducible exact leL.refl _ | with_reducible exact leE.refl _ | refine leL_cons _ _ _ _ ?_ ?_ | refine leV_agg _ _ ?_ | refine leV_tup _ _ ?_ | refine leV_dptr _ _ ?_ | refine leV_fn _ _ _ ?_ | exact leL_nil | exact leE_nil | (rw [leV_nil]; trivial) | (rw [leV_junk]; trivial) | refine leV_sl _ _ _ _ _ rfl ?_ | exact leV.refl _ | refine leE_app _ _ _ _ ?_ ?_ | refine leE_cons _ _ _ _ ?_ ?_ | exact leE.refl _ | (refine leV_eq _ _ ?_; simp; done) | rfl | (simp [mapV_nil]; done)))

def ref17_Apply (a0 : ByteArray) (a1 : List Int) : Option (Int × Bool) :=
  (ref17_Types a0).bind fun y93 =>
if y93.2.2 then
  if ((y93.1.length : Int) != (a1.length : Int)) then
    some ((0 : Int), false)
  else
    (forC (R := Int × Bool) (a1.length) (() : Unit) fun k148 s147 =>
      (y93.1[k148]?).bind fun x156 =>
      if (eqB x156 (⟨#[98, 111, 111, 108]⟩ : ByteArray)) then
        (a1[k148]?).bind fun x161 =>
        (ref17_Valid (⟨#[98, 111, 111, 108]⟩ : ByteArray) x161).bind fun y165 =>
        if y165 then
          some (.nx ())
        else
          some (.rt ((0 : Int), false))
      else
        (a1[k148]?).bind fun x169 =>
        (ref17_Valid (⟨#[105, 110, 116]⟩ : ByteArray) x169).bind fun y173 =>
        if y173 then
          some (.nx ())
        else
          some (.rt ((0 : Int), false))).bind (Sum.elim (fun s147 =>
      if ((a1.length : Int) == (1 : Int)) then
        (a1[0]?).bind fun x178 =>
        (ref17_one a0 x178).bind fun y200 =>
        some (y200, true)
      else
        if ((a1.length : Int) == (2 : Int)) then
          (a1[0]?).bind fun x204 =>
          (a1[1]?).bind fun x208 =>
          (ref17_two a0 x204 x208).bind fun y274 =>
          some (y274, true)
        else
          (a1[0]?).bind fun x277 =>
          if (x277 == (1 : Int)) then
            (a1[1]?).bind fun x282 =>
            some (x282, true)
          else
            (a1[2]?).bind fun x286 =>
            some (x286, true)) some)
else
  some ((0 : Int), false)
set_option maxHeartbeats 2000000 in
theorem ref17_Apply_ok {a0 : ByteArray} {a1 : List Int} {r : Int × Bool} (hr : ref17_Apply a0 a1 = some r) : Meets Tryd.prog 12 [.c (.string a0), .sl false 1 (a1.map e_int)] (.tup [.c (.int .i64 r.1), .c (.bool r.2)]) := by
  unfold ref17_Apply at hr
  refine meetsV_of (X := true) Ty.mixed Tryd.func12 (by kernel_rfl) rfl (by kernel_rfl) (by simp) ?_; rw [Tryd.ntmps12, Tryd.results12]
  simp only [awp_reg, awp_seq, seqQ_n, awpOps_nil, awpOps_one, awpOp_is, isCallV, callW_is, callV_is, putK_is, put_s, slot_is, pureOp, apureO, aev, cv, cvc, argT, isC, bsD, Bool.false_eq_true, ↓reduceIte, List.map_cons, List.map_nil, List.append_nil, reduceCtorEq, Nat.zero_add]
  obtain ⟨y93, h94, r95⟩ := bindS hr
  clear hr
  try dsimp only at r95
  cases h96 : y93.2.2 with
  | true =>
    simp only [h96, ↓reduceIte, Bool.false_eq_true] at r95
    cases h97 : ((y93.1.length : Int) != (a1.length : Int)) with
    | true =>
      simp only [h97, ↓reduceIte, Bool.false_eq_true] at r95
      refine call_meets ((ref17_Types_ok h94).le ?_) (by simp only [aev, cv, cvc, toD_c, consO_some, toDL_nil, toDL_cons, isC, bsD, h96, h97] <;> rfl) ?_
      · (try simp only [List.map_append, List.map_cons, List.map_nil, List.map_set, List.length_append, List.length_cons, List.length_nil, List.length_map, Nat.zero_add, List.map_take, List.map_drop]); (repeat' (first | with_reducible exact leV.refl _ | with_reducible exact leL.refl _ | with_reducible exact leE.refl _ | refine leL_cons _ _ _ _ ?_ ?_ | refine leV_agg _ _ ?_ | refine leV_tup _ _ ?_ | refine leV_dptr _ _ ?_ | refine leV_fn _ _ _ ?_ | exact leL_nil | exact leE_nil | (rw [leV_nil]; trivial) | (rw [leV_junk]; trivial) | refine leV_sl _ _ _ _ _ rfl ?_ | exact leV.refl _ | refine leE_app _ _ _ _ ?_ ?_ | refine leE_cons _ _ _ _ ?_ ?_ | exact leE.refl _ | (refine leV_eq _ _ ?_; simp; done) | rfl | (simp [mapV_nil]; done)))
      simp only [awp_reg, awp_seq, awp_cond, awp_ret, seqQ_n, seqQ_r, awpOps_nil, awpOps_one, awpOps_if, awpOp_is, awpO_is, putK_is, put_s, upd_s, slot_is, pureOp, apureO, killT, aev, cv, cvc, binK, elO_s, lenA, lenK, yieldA, guardA_ff, condA_t, pickA_f, flat_c, flat_tup, flat_sl, flatL_nil, flatL_cons, ownsV_c, ownsL_nil, ownsL_cons, toD_c, toD_tup, consO_some, toDL_nil, toDL_cons, notExit, resA_nil, resA_tmp, oneA_2, mlenA_sl, isC, bsD, retV_is, ↓reduceIte, List.getElem?_cons_zero, List.getElem?_cons_succ, List.append_nil, List.getElem?_toArray, Option.bind_some, Option.map_some, Bool.and_true, Bool.true_and, Bool.and_self, Bool.or_true, Bool.not_true, true_and, and_true, and_self, reduceCtorEq, Nat.reduceEqDiff, List.isEmpty_nil, Option.isSome_some, Ty.td22, Ty.td26, h96, h97, List.length_map]
      cases r95
      (try simp only [List.map_append, List.map_cons, List.map_nil, List.map_set, List.length_append, List.length_cons, List.length_nil, List.length_map, Nat.zero_add, List.map_take, List.map_drop]); (repeat' (first | with_reducible exact leV.refl _ | with_reducible exact leL.refl _ | with_reducible exact leE.refl _ | refine leL_cons _ _ _ _ ?_ ?_ | refine leV_agg _ _ ?_ | refine leV_tup _ _ ?_ | refine leV_dptr _ _ ?_ | refine leV_fn _ _ _ ?_ | exact leL_nil | exact leE_nil | (rw [leV_nil]; trivial) | (rw [leV_junk]; trivial) | refine leV_sl _ _ _ _ _ rfl ?_ | exact leV.refl _ | refine leE_app _ _ _ _ ?_ ?_ | refine leE_cons _ _ _ _ ?_ ?_ | exact leE.refl _ | (refine leV_eq _ _ ?_; simp; done) | rfl | (simp [mapV_nil]; done)))
    | false =>
      simp only [h97, ↓reduceIte, Bool.false_eq_true] at r95
      refine call_meets ((ref17_Types_ok h94).le ?_) (by simp only [aev, cv, cvc, toD_c, consO_some, toDL_nil, toDL_cons, isC, bsD, h96, h97] <;> rfl) ?_
      · (try simp only [List.map_append, List.map_cons, List.map_nil, List.map_set, List.length_append, List.length_cons, List.length_nil, List.length_map, Nat.zero_add, List.map_take, List.map_drop]); (repeat' (first | with_reducible exact leV.refl _ | with_reducible exact leL.refl _ | with_reducible exact leE.refl _ | refine leL_cons _ _ _ _ ?_ ?_ | refine leV_agg _ _ ?_ | refine leV_tup _ _ ?_ | refine leV_dptr _ _ ?_ | refine leV_fn _ _ _ ?_ | exact leL_nil | exact leE_nil | (rw [leV_nil]; trivial) | (rw [leV_junk]; trivial) | refine leV_sl _ _ _ _ _ rfl ?_ | exact leV.refl _ | refine leE_app _ _ _ _ ?_ ?_ | refine leE_cons _ _ _ _ ?_ ?_ | exact leE.refl _ | (refine leV_eq _ _ ?_; simp; done) | rfl | (simp [mapV_nil]; done)))
      simp only [awp_skip, awp_reg, awp_seq, awp_cond, awp_block, awp_loop, seqQ_n, awpOps_nil, awpOps_one, awpOps_if, awpOp_is, awpO_is, putK_is, put_s, upd_s, slot_is, pureOp, apureO, killT, aev, cv, cvc, binK, elO_s, lenA, lenK, yieldA, guardA_ff, condA_f, pickA_f, flat_c, flat_tup, flat_sl, flatL_nil, flatL_cons, ownsV_c, ownsL_nil, ownsL_cons, mlenA_sl, isC, bsD, ↓reduceIte, List.getElem?_cons_zero, List.getElem?_cons_succ, List.append_nil, List.getElem?_toArray, Option.bind_some, Bool.and_true, Bool.true_and, Bool.and_self, Bool.or_true, Bool.not_true, true_and, and_true, and_self, reduceCtorEq, Nat.reduceEqDiff, List.isEmpty_nil, Option.isSome_some, Ty.td22, Ty.td26, h96, h97, List.length_map]
      refine loop_for r95 (fun k148 s147 => ⟨73, [(0, .c (.string a0)), (1, .sl false 1 (a1.map e_int)), (6, .sl false 1 (y93.1.map e_string)), (9, .c (.int .i64 (k148 : Int)))], []⟩) ?_ ?_ ?_
      · try dsimp only
        refine LeS.weak rfl ?_ ?_ rfl rfl
        · repeat (first | exact weakV_nil _ | refine weakV_cons _ _ _ _ ?_ ?_)
          all_goals (try simp only [slot_is, aev, cv, cvc, isC, bsD, ↓reduceIte, reduceCtorEq, Nat.reduceEqDiff, h96, h97])
          all_goals (try simp only [List.map_append, List.map_cons, List.map_nil, List.map_set, List.length_append, List.length_cons, List.length_nil, List.length_map, Nat.zero_add, List.map_take, List.map_drop]); (repeat' (first | with_reducible exact leV.refl _ | with_reducible exact leL.refl _ | with_reducible exact leE.refl _ | refine leL_cons _ _ _ _ ?_ ?_ | refine leV_agg _ _ ?_ | refine leV_tup _ _ ?_ | refine leV_dptr _ _ ?_ | refine leV_fn _ _ _ ?_ | exact leL_nil | exact leE_nil | (rw [leV_nil]; trivial) | (rw [leV_junk]; trivial) | refine leV_sl _ _ _ _ _ rfl ?_ | exact leV.refl _ | refine leE_app _ _ _ _ ?_ ?_ | refine leE_cons _ _ _ _ ?_ ?_ | exact leE.refl _ | (refine leV_eq _ _ ?_; simp; done) | rfl | (simp [mapV_nil]; done)))
        · try simp only [aev, cv, cvc, isC, bsD, h96, h97]
          repeat (first | exact heapV_nil _ | refine heapV_none _ _ _ ?_ | refine heapV_var _ _ _ _ _ ?_ ?_ | refine heapV_row _ _ _ _ _ _ ?_ ?_ | refine heapV_map _ _ _ _ _ ?_ ?_)
          all_goals (try simp only [List.map_append, List.map_cons, List.map_nil, List.map_set, List.length_append, List.length_cons, List.length_nil, List.length_map, Nat.zero_add, List.map_take, List.map_drop]); (repeat' (first | with_reducible exact leV.refl _ | with_reducible exact leL.refl _ | with_reducible exact leE.refl _ | refine leL_cons _ _ _ _ ?_ ?_ | refine leV_agg _ _ ?_ | refine leV_tup _ _ ?_ | refine leV_dptr _ _ ?_ | refine leV_fn _ _ _ ?_ | exact leL_nil | exact leE_nil | (rw [leV_nil]; trivial) | (rw [leV_junk]; trivial) | refine leV_sl _ _ _ _ _ rfl ?_ | exact leV.refl _ | refine leE_app _ _ _ _ ?_ ?_ | refine leE_cons _ _ _ _ ?_ ?_ | exact leE.refl _ | (refine leV_eq _ _ ?_; simp; done) | rfl | (simp [mapV_nil]; done)))
      · intro k148 s147 qhc150 h151 h152 h153 h154 hq149 hc150 Khc150 hKhc150
        try dsimp only at hq149
        obtain ⟨x156, h157, r158⟩ := bindS hq149
        clear hq149
        try dsimp only at r158
        cases h160 : (eqB x156 (⟨#[98, 111, 111, 108]⟩ : ByteArray)) with
        | true =>
          simp only [h160, ↓reduceIte, Bool.false_eq_true] at r158
          obtain ⟨x161, h162, r163⟩ := bindS r158
          clear r158
          try dsimp only at r163
          simp only [awp_skip, awp_reg, awp_seq, awp_cond, awp_block, seqQ_n, awpOps_nil, awpOps_one, awpOp_is, isCallV, callW_is, callV_is, putK_is, put_s, slot_is, pureOp, apureO, aev, cv, cvc, binK, elO_s, lenA, lenK, loadA_d, condA_t, mlenA_sl, isC, bsD, Int.natCast_nonneg, Bool.false_eq_true, ↓reduceIte, List.getElem?_cons_zero, List.map_cons, List.map_nil, List.append_nil, Bool.true_and, true_and, reduceCtorEq, Nat.reduceEqDiff, Int.toNat_natCast, Option.isSome_some, Ty.td3, Ty.td9, Ty.td22, Ty.td26, h96, h97, h154, get_map e_string h157, h160, get_map e_int h162, List.length_map, eqB_is]
          obtain ⟨y165, h166, r167⟩ := bindS r163
          clear r163
          try dsimp only at r167
          cases h168 : y165 with
          | true =>
            simp only [h168, ↓reduceIte, Bool.false_eq_true] at r167
            refine call_meets ((ref17_Valid_ok h166).le ?_) (by simp only [aev, cv, cvc, toD_c, consO_some, toDL_nil, toDL_cons, isC, bsD, h96, h97, get_map e_string h157, get_map e_int h162] <;> rfl) ?_
            · (try simp only [List.map_append, List.map_cons, List.map_nil, List.map_set, List.length_append, List.length_cons, List.length_nil, List.length_map, Nat.zero_add, List.map_take, List.map_drop]); (repeat' (first | with_reducible exact leV.refl _ | with_reducible exact leL.refl _ | with_reducible exact leE.refl _ | refine leL_cons _ _ _ _ ?_ ?_ | refine leV_agg _ _ ?_ | refine leV_tup _ _ ?_ | refine leV_dptr _ _ ?_ | refine leV_fn _ _ _ ?_ | exact leL_nil | exact leE_nil | (rw [leV_nil]; trivial) | (rw [leV_junk]; trivial) | refine leV_sl _ _ _ _ _ rfl ?_ | exact leV.refl _ | refine leE_app _ _ _ _ ?_ ?_ | refine leE_cons _ _ _ _ ?_ ?_ | exact leE.refl _ | (refine leV_eq _ _ ?_; simp; done) | rfl | (simp [mapV_nil]; done)))
            simp only [awp_skip, awp_reg, awp_cond, seqQ_n, loopQ_n, blkQ_n, awpOps_nil, awpOps_one, awpOp_is, putK_is, put_s, upd_s, slot_is, pureOp, apureO, killT, aev, cv, cvc, binK, condA_f, flat_c, ownsV_c, ownsL_nil, ownsL_cons, isC, bsD, ↓reduceIte, List.append_nil, Bool.true_and, Bool.or_true, Bool.not_true, true_and, reduceCtorEq, Nat.reduceEqDiff, List.isEmpty_nil, h96, h97, h153, get_map e_string h157, get_map e_int h162, h168]
            cases r167
            refine hKhc150 _ _ rfl ?_
            try dsimp only
            refine LeS.weak rfl ?_ ?_ rfl rfl
            · repeat (first | exact weakV_nil _ | refine weakV_cons _ _ _ _ ?_ ?_)
              all_goals (try simp only [slot_is, aev, cv, cvc, isC, bsD, ↓reduceIte, reduceCtorEq, Nat.reduceEqDiff, h96, h97, get_map e_string h157, get_map e_int h162])
              all_goals (try simp only [List.map_append, List.map_cons, List.map_nil, List.map_set, List.length_append, List.length_cons, List.length_nil, List.length_map, Nat.zero_add, List.map_take, List.map_drop]); (repeat' (first | with_reducible exact leV.refl _ | with_reducible exact leL.refl _ | with_reducible exact leE.refl _ | refine leL_cons _ _ _ _ ?_ ?_ | refine leV_agg _ _ ?_ | refine leV_tup _ _ ?_ | refine leV_dptr _ _ ?_ | refine leV_fn _ _ _ ?_ | exact leL_nil | exact leE_nil | (rw [leV_nil]; trivial) | (rw [leV_junk]; trivial) | refine leV_sl _ _ _ _ _ rfl ?_ | exact leV.refl _ | refine leE_app _ _ _ _ ?_ ?_ | refine leE_cons _ _ _ _ ?_ ?_ | exact leE.refl _ | (refine leV_eq _ _ ?_; simp; done) | rfl | (simp [mapV_nil]; done)))
            · try simp only [aev, cv, cvc, isC, bsD, h96, h97, get_map e_string h157, get_map e_int h162]
              repeat (first | exact heapV_nil _ | refine heapV_none _ _ _ ?_ | refine heapV_var _ _ _ _ _ ?_ ?_ | refine heapV_row _ _ _ _ _ _ ?_ ?_ | refine heapV_map _ _ _ _ _ ?_ ?_)
              all_goals (try simp only [List.map_append, List.map_cons, List.map_nil, List.map_set, List.length_append, List.length_cons, List.length_nil, List.length_map, Nat.zero_add, List.map_take, List.map_drop]); (repeat' (first | with_reducible exact leV.refl _ | with_reducible exact leL.refl _ | with_reducible exact leE.refl _ | refine leL_cons _ _ _ _ ?_ ?_ | refine leV_agg _ _ ?_ | refine leV_tup _ _ ?_ | refine leV_dptr _ _ ?_ | refine leV_fn _ _ _ ?_ | exact leL_nil | exact leE_nil | (rw [leV_nil]; trivial) | (rw [leV_junk]; trivial) | refine leV_sl _ _ _ _ _ rfl ?_ | exact leV.refl _ | refine leE_app _ _ _ _ ?_ ?_ | refine leE_cons _ _ _ _ ?_ ?_ | exact leE.refl _ | (refine leV_eq _ _ ?_; simp; done) | rfl | (simp [mapV_nil]; done)))
          | false =>
            simp only [h168, ↓reduceIte, Bool.false_eq_true] at r167
            refine call_meets ((ref17_Valid_ok h166).le ?_) (by simp only [aev, cv, cvc, toD_c, consO_some, toDL_nil, toDL_cons, isC, bsD, h96, h97, get_map e_string h157, get_map e_int h162] <;> rfl) ?_
            · (try simp only [List.map_append, List.map_cons, List.map_nil, List.map_set, List.length_append, List.length_cons, List.length_nil, List.length_map, Nat.zero_add, List.map_take, List.map_drop]); (repeat' (first | with_reducible exact leV.refl _ | with_reducible exact leL.refl _ | with_reducible exact leE.refl _ | refine leL_cons _ _ _ _ ?_ ?_ | refine leV_agg _ _ ?_ | refine leV_tup _ _ ?_ | refine leV_dptr _ _ ?_ | refine leV_fn _ _ _ ?_ | exact leL_nil | exact leE_nil | (rw [leV_nil]; trivial) | (rw [leV_junk]; trivial) | refine leV_sl _ _ _ _ _ rfl ?_ | exact leV.refl _ | refine leE_app _ _ _ _ ?_ ?_ | refine leE_cons _ _ _ _ ?_ ?_ | exact leE.refl _ | (refine leV_eq _ _ ?_; simp; done) | rfl | (simp [mapV_nil]; done)))
            simp only [awp_reg, awp_seq, awp_cond, awp_ret, seqQ_n, seqQ_r, loopQ_r, blkQ_r, awpOps_nil, awpOps_one, awpOp_is, putK_is, put_s, upd_s, slot_is, pureOp, apureO, killT, aev, cv, cvc, elO_s, condA_t, flat_c, ownsV_c, ownsL_nil, ownsL_cons, toD_c, toD_tup, consO_some, toDL_nil, toDL_cons, notExit, resA_nil, resA_tmp, oneA_2, isC, bsD, retV_is, ↓reduceIte, List.append_nil, Option.map_some, Bool.true_and, Bool.or_true, Bool.not_false, true_and, Nat.reduceEqDiff, List.isEmpty_nil, h96, h97, get_map e_string h157, get_map e_int h162, h168]
            cases r167
            dsimp only [St.on, Sum.elim_inr] at hc150
            cases hc150
            (try simp only [List.map_append, List.map_cons, List.map_nil, List.map_set, List.length_append, List.length_cons, List.length_nil, List.length_map, Nat.zero_add, List.map_take, List.map_drop]); (repeat' (first | with_reducible exact leV.refl _ | with_reducible exact leL.refl _ | with_reducible exact leE.refl _ | refine leL_cons _ _ _ _ ?_ ?_ | refine leV_agg _ _ ?_ | refine leV_tup _ _ ?_ | refine leV_dptr _ _ ?_ | refine leV_fn _ _ _ ?_ | exact leL_nil | exact leE_nil | (rw [leV_nil]; trivial) | (rw [leV_junk]; trivial) | refine leV_sl _ _ _ _ _ rfl ?_ | exact leV.refl _ | refine leE_app _ _ _ _ ?_ ?_ | refine leE_cons _ _ _ _ ?_ ?_ | exact leE.refl _ | (refine leV_eq _ _ ?_; simp; done) | rfl | (simp [mapV_nil]; done)))
        | false =>
          simp only [h160, ↓reduceIte, Bool.false_eq_true] at r158
          obtain ⟨x169, h170, r171⟩ := bindS r158
          clear r158
          try dsimp only at r171
          simp only [awp_skip, awp_reg, awp_seq, awp_cond, awp_block, seqQ_n, awpOps_nil, awpOps_one, awpOp_is, isCallV, callW_is, callV_is, putK_is, put_s, slot_is, pureOp, apureO, aev, cv, cvc, binK, elO_s, lenA, lenK, loadA_d, condA_t, condA_f, mlenA_sl, isC, bsD, Int.natCast_nonneg, Bool.false_eq_true, ↓reduceIte, List.getElem?_cons_zero, List.map_cons, List.map_nil, List.append_nil, Bool.true_and, true_and, reduceCtorEq, Nat.reduceEqDiff, Int.toNat_natCast, Option.isSome_some, Ty.td3, Ty.td9, Ty.td22, Ty.td26, h96, h97, h154, get_map e_string h157, h160, get_map e_int h170, List.length_map, eqB_is]
          obtain ⟨y173, h174, r175⟩ := bindS r171
          clear r171
          try dsimp only at r175
          cases h176 : y173 with
          | true =>
            simp only [h176, ↓reduceIte, Bool.false_eq_true] at r175
            refine call_meets ((ref17_Valid_ok h174).le ?_) (by simp only [aev, cv, cvc, toD_c, consO_some, toDL_nil, toDL_cons, isC, bsD, h96, h97, get_map e_string h157, get_map e_int h170] <;> rfl) ?_
            · (try simp only [List.map_append, List.map_cons, List.map_nil, List.map_set, List.length_append, List.length_cons, List.length_nil, List.length_map, Nat.zero_add, List.map_take, List.map_drop]); (repeat' (first | with_reducible exact leV.refl _ | with_reducible exact leL.refl _ | with_reducible exact leE.refl _ | refine leL_cons _ _ _ _ ?_ ?_ | refine leV_agg _ _ ?_ | refine leV_tup _ _ ?_ | refine leV_dptr _ _ ?_ | refine leV_fn _ _ _ ?_ | exact leL_nil | exact leE_nil | (rw [leV_nil]; trivial) | (rw [leV_junk]; trivial) | refine leV_sl _ _ _ _ _ rfl ?_ | exact leV.refl _ | refine leE_app _ _ _ _ ?_ ?_ | refine leE_cons _ _ _ _ ?_ ?_ | exact leE.refl _ | (refine leV_eq _ _ ?_; simp; done) | rfl | (simp [mapV_nil]; done)))
            simp only [awp_skip, awp_reg, awp_cond, seqQ_n, loopQ_n, blkQ_n, awpOps_nil, awpOps_one, awpOp_is, putK_is, put_s, upd_s, slot_is, pureOp, apureO, killT, aev, cv, cvc, binK, condA_f, flat_c, ownsV_c, ownsL_nil, ownsL_cons, isC, bsD, ↓reduceIte, List.append_nil, Bool.true_and, Bool.or_true, Bool.not_true, true_and, reduceCtorEq, Nat.reduceEqDiff, List.isEmpty_nil, h96, h97, h153, get_map e_string h157, get_map e_int h170, h176]
            cases r175
            refine hKhc150 _ _ rfl ?_
            try dsimp only
            refine LeS.weak rfl ?_ ?_ rfl rfl
            · repeat (first | exact weakV_nil _ | refine weakV_cons _ _ _ _ ?_ ?_)
              all_goals (try simp only [slot_is, aev, cv, cvc, isC, bsD, ↓reduceIte, reduceCtorEq, Nat.reduceEqDiff, h96, h97, get_map e_string h157, get_map e_int h170])
              all_goals (try simp only [List.map_append, List.map_cons, List.map_nil, List.map_set, List.length_append, List.length_cons, List.length_nil, List.length_map, Nat.zero_add, List.map_take, List.map_drop]); (repeat' (first | with_reducible exact leV.refl _ | with_reducible exact leL.refl _ | with_reducible exact leE.refl _ | refine leL_cons _ _ _ _ ?_ ?_ | refine leV_agg _ _ ?_ | refine leV_tup _ _ ?_ | refine leV_dptr _ _ ?_ | refine leV_fn _ _ _ ?_ | exact leL_nil | exact leE_nil | (rw [leV_nil]; trivial) | (rw [leV_junk]; trivial) | refine leV_sl _ _ _ _ _ rfl ?_ | exact leV.refl _ | refine leE_app _ _ _ _ ?_ ?_ | refine leE_cons _ _ _ _ ?_ ?_ | exact leE.refl _ | (refine leV_eq _ _ ?_; simp; done) | rfl | (simp [mapV_nil]; done)))
            · try simp only [aev, cv, cvc, isC, bsD, h96, h97, get_map e_string h157, get_map e_int h170]
              repeat (first | exact heapV_nil _ | refine heapV_none _ _ _ ?_ | refine heapV_var _ _ _ _ _ ?_ ?_ | refine heapV_row _ _ _ _ _ _ ?_ ?_ | refine heapV_map _ _ _ _ _ ?_ ?_)
              all_goals (try simp only [List.map_append, List.map_cons, List.map_nil, List.map_set, List.length_append, List.length_cons, List.length_nil, List.length_map, Nat.zero_add, List.map_take, List.map_drop]); (repeat' (first | with_reducible exact leV.refl _ | with_reducible exact leL.refl _ | with_reducible exact leE.refl _ | refine leL_cons _ _ _ _ ?_ ?_ | refine leV_agg _ _ ?_ | refine leV_tup _ _ ?_ | refine leV_dptr _ _ ?_ | refine leV_fn _ _ _ ?_ | exact leL_nil | exact leE_nil | (rw [leV_nil]; trivial) | (rw [leV_junk]; trivial) | refine leV_sl _ _ _ _ _ rfl ?_ | exact leV.refl _ | refine leE_app _ _ _ _ ?_ ?_ | refine leE_cons _ _ _ _ ?_ ?_ | exact leE.refl _ | (refine leV_eq _ _ ?_; simp; done) | rfl | (simp [mapV_nil]; done)))
          | false =>
            simp only [h176, ↓reduceIte, Bool.false_eq_true] at r175
            refine call_meets ((ref17_Valid_ok h174).le ?_) (by simp only [aev, cv, cvc, toD_c, consO_some, toDL_nil, toDL_cons, isC, bsD, h96, h97, get_map e_string h157, get_map e_int h170] <;> rfl) ?_
            · (try simp only [List.map_append, List.map_cons, List.map_nil, List.map_set, List.length_append, List.length_cons, List.length_nil, List.length_map, Nat.zero_add, List.map_take, List.map_drop]); (repeat' (first | with_reducible exact leV.refl _ | with_reducible exact leL.refl _ | with_reducible exact leE.refl _ | refine leL_cons _ _ _ _ ?_ ?_ | refine leV_agg _ _ ?_ | refine leV_tup _ _ ?_ | refine leV_dptr _ _ ?_ | refine leV_fn _ _ _ ?_ | exact leL_nil | exact leE_nil | (rw [leV_nil]; trivial) | (rw [leV_junk]; trivial) | refine leV_sl _ _ _ _ _ rfl ?_ | exact leV.refl _ | refine leE_app _ _ _ _ ?_ ?_ | refine leE_cons _ _ _ _ ?_ ?_ | exact leE.refl _ | (refine leV_eq _ _ ?_; simp; done) | rfl | (simp [mapV_nil]; done)))
            simp only [awp_reg, awp_seq, awp_cond, awp_ret, seqQ_n, seqQ_r, loopQ_r, blkQ_r, awpOps_nil, awpOps_one, awpOp_is, putK_is, put_s, upd_s, slot_is, pureOp, apureO, killT, aev, cv, cvc, elO_s, condA_t, flat_c, ownsV_c, ownsL_nil, ownsL_cons, toD_c, toD_tup, consO_some, toDL_nil, toDL_cons, notExit, resA_nil, resA_tmp, oneA_2, isC, bsD, retV_is, ↓reduceIte, List.append_nil, Option.map_some, Bool.true_and, Bool.or_true, Bool.not_false, true_and, Nat.reduceEqDiff, List.isEmpty_nil, h96, h97, get_map e_string h157, get_map e_int h170, h176]
            cases r175
            dsimp only [St.on, Sum.elim_inr] at hc150
            cases hc150
            (try simp only [List.map_append, List.map_cons, List.map_nil, List.map_set, List.length_append, List.length_cons, List.length_nil, List.length_map, Nat.zero_add, List.map_take, List.map_drop]); (repeat' (first | with_reducible exact leV.refl _ | with_reducible exact leL.refl _ | with_reducible exact leE.refl _ | refine leL_cons _ _ _ _ ?_ ?_ | refine leV_agg _ _ ?_ | refine leV_tup _ _ ?_ | refine leV_dptr _ _ ?_ | refine leV_fn _ _ _ ?_ | exact leL_nil | exact leE_nil | (rw [leV_nil]; trivial) | (rw [leV_junk]; trivial) | refine leV_sl _ _ _ _ _ rfl ?_ | exact leV.refl _ | refine leE_app _ _ _ _ ?_ ?_ | refine leE_cons _ _ _ _ ?_ ?_ | exact leE.refl _ | (refine leV_eq _ _ ?_; simp; done) | rfl | (simp [mapV_nil]; done)))
      · clear r95
        intro s147 r95 h151 h155 Khc150
        dsimp only [Sum.elim_inl] at r95
        cases h177 : ((a1.length : Int) == (1 : Int)) with
        | true =>
          simp only [h177, ↓reduceIte, Bool.false_eq_true] at r95
          obtain ⟨x178, h179, r180⟩ := bindS r95
          clear r95
          try dsimp only at r180
          simp only [awp_reg, awp_seq, awp_cond, awp_block, awp_exit, seqQ_n, seqQ_e, loopQ_e, blkQ_e, awpOps_nil, awpOps_one, awpOp_is, isCallV, callW_is, callV_is, putK_is, put_s, slot_is, pureOp, apureO, aev, cv, cvc, binK, elO_s, lenA, lenK, loadA_d, condA_t, condA_f, mlenA_sl, isC, bsD, Bool.false_eq_true, ↓reduceIte, List.getElem?_cons_zero, List.map_cons, List.map_nil, List.append_nil, Bool.true_and, true_and, reduceCtorEq, Nat.reduceEqDiff, Int.reduceToNat, Option.isSome_some, Int.le_refl, Ty.td3, Ty.td22, h96, h97, h155, h177, get_map e_int h179, List.length_map]
          obtain ⟨y200, h201, r202⟩ := bindS r180
          clear r180
          try dsimp only at r202
          refine call_meets ((ref17_one_ok h201).le ?_) (by simp only [aev, cv, cvc, toD_c, consO_some, toDL_nil, toDL_cons, isC, bsD, h96, h97, get_map e_int h179] <;> rfl) ?_
          · (try simp only [List.map_append, List.map_cons, List.map_nil, List.map_set, List.length_append, List.length_cons, List.length_nil, List.length_map, Nat.zero_add, List.map_take, List.map_drop]); (repeat' (first | with_reducible exact leV.refl _ | with_reducible exact leL.refl _ | with_reducible exact leE.refl _ | refine leL_cons _ _ _ _ ?_ ?_ | refine leV_agg _ _ ?_ | refine leV_tup _ _ ?_ | refine leV_dptr _ _ ?_ | refine leV_fn _ _ _ ?_ | exact leL_nil | exact leE_nil | (rw [leV_nil]; trivial) | (rw [leV_junk]; trivial) | refine leV_sl _ _ _ _ _ rfl ?_ | exact leV.refl _ | refine leE_app _ _ _ _ ?_ ?_ | refine leE_cons _ _ _ _ ?_ ?_ | exact leE.refl _ | (refine leV_eq _ _ ?_; simp; done) | rfl | (simp [mapV_nil]; done)))
          simp only [awp_ret, seqQ_n, seqQ_r, blkQ_r, awpOps_nil, awpOps_one, awpOp_is, putK_is, put_s, upd_s, slot_is, pureOp, apureO, killT, aev, cv, cvc, elO_s, flat_c, ownsV_c, ownsL_nil, ownsL_cons, toD_c, toD_tup, consO_some, toDL_nil, toDL_cons, notExit, resA_nil, resA_tmp, oneA_2, isC, bsD, retV_is, ↓reduceIte, List.append_nil, Option.map_some, Bool.true_and, Bool.or_true, true_and, Nat.reduceEqDiff, List.isEmpty_nil, h96, h97, get_map e_int h179]
          cases r202
          (try simp only [List.map_append, List.map_cons, List.map_nil, List.map_set, List.length_append, List.length_cons, List.length_nil, List.length_map, Nat.zero_add, List.map_take, List.map_drop]); (repeat' (first | with_reducible exact leV.refl _ | with_reducible exact leL.refl _ | with_reducible exact leE.refl _ | refine leL_cons _ _ _ _ ?_ ?_ | refine leV_agg _ _ ?_ | refine leV_tup _ _ ?_ | refine leV_dptr _ _ ?_ | refine leV_fn _ _ _ ?_ | exact leL_nil | exact leE_nil | (rw [leV_nil]; trivial) | (rw [leV_junk]; trivial) | refine leV_sl _ _ _ _ _ rfl ?_ | exact leV.refl _ | refine leE_app _ _ _ _ ?_ ?_ | refine leE_cons _ _ _ _ ?_ ?_ | exact leE.refl _ | (refine leV_eq _ _ ?_; simp; done) | rfl | (simp [mapV_nil]; done)))
        | false =>
          simp only [h177, ↓reduceIte, Bool.false_eq_true] at r95
          cases h203 : ((a1.length : Int) == (2 : Int)) with
          | true =>
            simp only [h203, ↓reduceIte, Bool.false_eq_true] at r95
            simp only [awp_regX, awp_reg, awp_seq, awp_cond, awp_block, awp_exit, seqQ_n, seqQ_e, loopQ_e, blkQ_e, awpOps_nil, awpOps_one, awpOp_is, putK_is, put_s, slot_is, pureOp, apureO, aev, cv, cvc, binK, elO_s, lenA, lenK, condA_t, condA_f, mlenA_sl, isC, bsD, ↓reduceIte, Bool.true_and, true_and, reduceCtorEq, Nat.reduceEqDiff, Option.isSome_some, Ty.td22, h96, h97, h155, h177, h203, List.length_map]
            obtain ⟨x204, h205, r206⟩ := bindS r95
            clear r95
            try dsimp only at r206
            obtain ⟨x208, h209, r210⟩ := bindS r206
            clear r206
            try dsimp only at r210
            refine drawS_tail (by kernel_rfl) ?_
            simp only [awpOpsD_one, isCallV, awpOpD_is, callWD_is, callVD_is, putK_is, put_s, slot_is, keepOp, pureOp, apureO, aev, cv, cvc, elO_s, loadA_d, isC, bsD, Bool.false_eq_true, ↓reduceIte, List.getElem?_cons_zero, List.map_cons, List.map_nil, List.append_nil, Bool.true_and, true_and, reduceCtorEq, Nat.reduceEqDiff, Int.reduceToNat, Int.le_refl, Ty.td3, Ty.td22, h96, h97, get_map e_int h205, (by decide : (0 : Int) ≤ 1), get_map e_int h209]
            obtain ⟨y274, h275, r276⟩ := bindS r210
            clear r210
            try dsimp only at r276
            refine calld_meets ((ref17_two_ok h275).le ?_) (by simp only [aev, cv, cvc, toD_c, consO_some, toDL_nil, toDL_cons, isC, bsD, h96, h97, get_map e_int h205, (by decide : (0 : Int) ≤ 1), get_map e_int h209] <;> rfl) (by simp only [aev, cv, cvc, flat_c, ownsV_c, ownsL_nil, ownsL_cons, isC, bsD, List.append_nil, Bool.or_true, List.isEmpty_nil, h96, h97, get_map e_int h205, (by decide : (0 : Int) ≤ 1), get_map e_int h209]) ?_
            · (try simp only [List.map_append, List.map_cons, List.map_nil, List.map_set, List.length_append, List.length_cons, List.length_nil, List.length_map, Nat.zero_add, List.map_take, List.map_drop]); (repeat' (first | with_reducible exact leV.refl _ | with_reducible exact leL.refl _ | with_reducible exact leE.refl _ | refine leL_cons _ _ _ _ ?_ ?_ | refine leV_agg _ _ ?_ | refine leV_tup _ _ ?_ | refine leV_dptr _ _ ?_ | refine leV_fn _ _ _ ?_ | exact leL_nil | exact leE_nil | (rw [leV_nil]; trivial) | (rw [leV_junk]; trivial) | refine leV_sl _ _ _ _ _ rfl ?_ | exact leV.refl _ | refine leE_app _ _ _ _ ?_ ?_ | refine leE_cons _ _ _ _ ?_ ?_ | exact leE.refl _ | (refine leV_eq _ _ ?_; simp; done) | rfl | (simp [mapV_nil]; done)))
            simp only [awp_ret, seqQ_n, seqQ_r, blkQ_r, awpOpsD_nil, awpOpsD_one, awpOpD_is, putK_is, put_s, slot_is, keepOp, pureOp, apureO, aev, cv, cvc, elO_s, toD_c, toD_tup, consO_some, toDL_nil, toDL_cons, notExit, resA_nil, resA_tmp, oneA_2, isC, bsD, retV_is, ↓reduceIte, Option.map_some, Bool.true_and, true_and, Nat.reduceEqDiff, h96, h97, get_map e_int h205, (by decide : (0 : Int) ≤ 1), get_map e_int h209]
            cases r276
            (try simp only [List.map_append, List.map_cons, List.map_nil, List.map_set, List.length_append, List.length_cons, List.length_nil, List.length_map, Nat.zero_add, List.map_take, List.map_drop]); (repeat' (first | with_reducible exact leV.refl _ | with_reducible exact leL.refl _ | with_reducible exact leE.refl _ | refine leL_cons _ _ _ _ ?_ ?_ | refine leV_agg _ _ ?_ | refine leV_tup _ _ ?_ | refine leV_dptr _ _ ?_ | refine leV_fn _ _ _ ?_ | exact leL_nil | exact leE_nil | (rw [leV_nil]; trivial) | (rw [leV_junk]; trivial) | refine leV_sl _ _ _ _ _ rfl ?_ | exact leV.refl _ | refine leE_app _ _ _ _ ?_ ?_ | refine leE_cons _ _ _ _ ?_ ?_ | exact leE.refl _ | (refine leV_eq _ _ ?_; simp; done) | rfl | (simp [mapV_nil]; done)))
          | false =>
            simp only [h203, ↓reduceIte, Bool.false_eq_true] at r95
            obtain ⟨x277, h278, r279⟩ := bindS r95
            clear r95
            try dsimp only at r279
            cases h281 : (x277 == (1 : Int)) with
            | true =>
              simp only [h281, ↓reduceIte, Bool.false_eq_true] at r279
              obtain ⟨x282, h283, r284⟩ := bindS r279
              clear r279
              try dsimp only at r284
              simp only [awp_skip, awp_reg, awp_seq, awp_cond, awp_block, awp_exit, awp_ret, seqQ_n, seqQ_r, seqQ_e, loopQ_e, blkQ_n, blkQ_e, awpOps_nil, awpOps_one, awpOp_is, putK_is, put_s, slot_is, pureOp, apureO, aev, cv, cvc, binK, elO_s, lenA, lenK, loadA_d, condA_t, condA_f, toD_c, toD_tup, toD_agg, consO_some, toDL_nil, toDL_cons, notExit, resA_nil, resA_tmp, oneA_2, mlenA_sl, isC, bsD, retV_is, Bool.false_eq_true, ↓reduceIte, List.getElem?_cons_zero, Option.map_some, Bool.true_and, true_and, reduceCtorEq, Nat.reduceEqDiff, Int.reduceToNat, Option.isSome_some, Int.le_refl, Ty.td3, Ty.td22, h96, h97, h155, h177, h203, get_map e_int h278, h281, (by decide : (0 : Int) ≤ 1), get_map e_int h283, List.length_map]
              cases r284
              (try simp only [List.map_append, List.map_cons, List.map_nil, List.map_set, List.length_append, List.length_cons, List.length_nil, List.length_map, Nat.zero_add, List.map_take, List.map_drop]); (repeat' (first | with_reducible exact leV.refl _ | with_reducible exact leL.refl _ | with_reducible exact leE.refl _ | refine leL_cons _ _ _ _ ?_ ?_ | refine leV_agg _ _ ?_ | refine leV_tup _ _ ?_ | refine leV_dptr _ _ ?_ | refine leV_fn _ _ _ ?_ | exact leL_nil | exact leE_nil | (rw [leV_nil]; trivial) | (rw [leV_junk]; trivial) | refine leV_sl _ _ _ _ _ rfl ?_ | exact leV.refl _ | refine leE_app _ _ _ _ ?_ ?_ | refine leE_cons _ _ _ _ ?_ ?_ | exact leE.refl _ | (refine leV_eq _ _ ?_; simp; done) | rfl | (simp [mapV_nil]; done)))
            | false =>
              simp only [h281, ↓reduceIte, Bool.false_eq_true] at r279
              obtain ⟨x286, h287, r288⟩ := bindS r279
              clear r279
              try dsimp only at r288
              simp only [awp_skip, awp_reg, awp_seq, awp_cond, awp_block, awp_exit, awp_ret, seqQ_n, seqQ_e, loopQ_e, blkQ_n, blkQ_e, awpOps_nil, awpOps_one, awpOp_is, putK_is, put_s, slot_is, pureOp, apureO, aev, cv, cvc, binK, elO_s, lenA, lenK, loadA_d, condA_f, toD_c, toD_tup, toD_agg, consO_some, toDL_nil, toDL_cons, notExit, resA_nil, resA_tmp, oneA_2, mlenA_sl, isC, bsD, retV_is, Bool.false_eq_true, ↓reduceIte, List.getElem?_cons_zero, Option.map_some, Bool.true_and, true_and, reduceCtorEq, Nat.reduceEqDiff, Int.reduceToNat, Option.isSome_some, Int.le_refl, Ty.td3, Ty.td22, h96, h97, h155, h177, h203, get_map e_int h278, h281, (by decide : (0 : Int) ≤ 2), get_map e_int h287, List.length_map]
              cases r288
              (try simp only [List.map_append, List.map_cons, List.map_nil, List.map_set, List.length_append, List.length_cons, List.length_nil, List.length_map, Nat.zero_add, List.map_take, List.map_drop]); (repeat' (first | with_reducible exact leV.refl _ | with_reducible exact leL.refl _ | with_reducible exact leE.refl _ | refine leL_cons _ _ _ _ ?_ ?_ | refine leV_agg _ _ ?_ | refine leV_tup _ _ ?_ | refine leV_dptr _ _ ?_ | refine leV_fn _ _ _ ?_ | exact leL_nil | exact leE_nil | (rw [leV_nil]; trivial) | (rw [leV_junk]; trivial) | refine leV_sl _ _ _ _ _ rfl ?_ | exact leV.refl _ | refine leE_app _ _ _ _ ?_ ?_ | refine leE_cons _ _ _ _ ?_ ?_ | exact leE.refl _ | (refine leV_eq _ _ ?_; simp; done) | rfl | (simp [mapV_nil]; done)))
  | false =>
    simp only [h96, ↓reduceIte, Bool.false_eq_true] at r95
    refine call_meets ((ref17_Types_ok h94).le ?_) (by simp only [aev, cv, cvc, toD_c, consO_some, toDL_nil, toDL_cons, isC, bsD, h96] <;> rfl) ?_
    · (try simp only [List.map_append, List.map_cons, List.map_nil, List.map_set, List.length_append, List.length_cons, List.length_nil, List.length_map, Nat.zero_add, List.map_take, List.map_drop]); (repeat' (first | with_reducible exact leV.refl _ | with_reducible exact leL.refl _ | with_reducible exact leE.refl _ | refine leL_cons _ _ _ _ ?_ ?_ | refine leV_agg _ _ ?_ | refine leV_tup _ _ ?_ | refine leV_dptr _ _ ?_ | refine leV_fn _ _ _ ?_ | exact leL_nil | exact leE_nil | (rw [leV_nil]; trivial) | (rw [leV_junk]; trivial) | refine leV_sl _ _ _ _ _ rfl ?_ | exact leV.refl _ | refine leE_app _ _ _ _ ?_ ?_ | refine leE_cons _ _ _ _ ?_ ?_ | exact leE.refl _ | (refine leV_eq _ _ ?_; simp; done) | rfl | (simp [mapV_nil]; done)))
    simp only [awp_reg, awp_seq, awp_cond, awp_ret, seqQ_n, seqQ_r, awpOps_nil, awpOps_one, awpOps_if, awpOp_is, putK_is, put_s, upd_s, slot_is, pureOp, apureO, killT, aev, cv, cvc, elO_s, yieldA, guardA_ft, condA_t, pickA_t, flat_c, flat_tup, flat_sl, flatL_nil, flatL_cons, ownsV_c, ownsL_nil, ownsL_cons, toD_c, toD_tup, consO_some, toDL_nil, toDL_cons, notExit, resA_nil, resA_tmp, oneA_2, isC, bsD, retV_is, ↓reduceIte, List.getElem?_cons_zero, List.getElem?_cons_succ, List.append_nil, List.getElem?_toArray, Option.bind_some, Option.map_some, Bool.and_true, Bool.true_and, Bool.and_self, Bool.or_true, Bool.not_false, true_and, and_true, and_self, Nat.reduceEqDiff, List.isEmpty_nil, h96]
    cases r95
    (try simp only [List.map_append, List.map_cons, List.map_nil, List.map_set, List.length_append, List.length_cons, List.length_nil, List.length_map, Nat.zero_add, List.map_take, List.map_drop]); (repeat' (first | with_reducible exact leV.refl _ | with_reducible exact leL.refl _ | with_reducible exact leE.refl _ | refine leL_cons _ _ _ _ ?_ ?_ | refine leV_agg _ _ ?_ | refine leV_tup _ _ ?_ | refine leV_dptr _ _ ?_ | refine leV_fn _ _ _ ?_ | exact leL_nil | exact leE_nil | (rw [leV_nil]; trivial) | (rw [leV_junk]; trivial) | refine leV_sl _ _ _ _ _ rfl ?_ | exact leV.refl _ | refine leE_app _ _ _ _ ?_ ?_ | refine leE_cons _ _ _ _ ?_ ?_ | exact leE.refl _ | (refine leV_eq _ _ ?_; simp; done) | rfl | (simp [mapV_nil]; done)))

def element_Valid (a0 : ByteArray) (a1 : Int) : Option Bool :=
  if (eqB a0 (⟨#[105, 110, 116]⟩ : ByteArray)) then
  if (decide ((-2147483648 : Int) ≤ a1)) then
    some (decide (a1 ≤ (2147483647 : Int)))
  else
    some false
else
  if (eqB a0 (⟨#[98, 111, 111, 108]⟩ : ByteArray)) then
    if (a1 == (0 : Int)) then
      some true
    else
      some (a1 == (1 : Int))
  else
    some false
set_option maxHeartbeats 2000000 in
theorem element_Valid_ok {a0 : ByteArray} {a1 : Int} {r : Bool} (hr : element_Valid a0 a1 = some r) : Meets Tryd.prog 14 [.c (.string a0), .c (.int .i64 a1)] (.c (.bool r)) := by
  unfold element_Valid at hr
  refine meetsV_of (X := true) Ty.mixed Tryd.func14 (by kernel_rfl) rfl (by kernel_rfl) (by simp) ?_; rw [Tryd.ntmps14, Tryd.results14]
  cases h290 : (eqB a0 (⟨#[105, 110, 116]⟩ : ByteArray)) with
  | true =>
    simp only [h290, ↓reduceIte, Bool.false_eq_true] at hr
    cases h291 : (decide ((-2147483648 : Int) ≤ a1)) with
    | true =>
      simp only [h291, ↓reduceIte, Bool.false_eq_true] at hr
      simp only [awp_reg, awp_seq, awp_cond, awp_block, awp_ret, seqQ_n, seqQ_r, blkQ_r, awpOps_nil, awpOps_one, awpOps_if, awpOp_is, awpO_is, putK_is, put_s, slot_is, pureOp, apureO, aev, cv, cvc, binK, elO_s, yieldA, guardA_tt, condA_t, pickA_t, toD_c, notExit, resA_nil, resA_tmp, oneA_1, argT, isC, bsD, retV_is, ↓reduceIte, List.getElem?_cons_zero, List.getElem?_cons_succ, List.getElem?_toArray, Option.bind_some, Bool.true_and, true_and, reduceCtorEq, Nat.reduceEqDiff, Nat.zero_add, h290, h291, eqB_is]
      cases hr
      (try simp only [List.map_append, List.map_cons, List.map_nil, List.map_set, List.length_append, List.length_cons, List.length_nil, List.length_map, Nat.zero_add, List.map_take, List.map_drop]); (repeat' (first | with_reducible exact leV.refl _ | with_reducible exact leL.refl _ | with_reducible exact leE.refl _ | refine leL_cons _ _ _ _ ?_ ?_ | refine leV_agg _ _ ?_ | refine leV_tup _ _ ?_ | refine leV_dptr _ _ ?_ | refine leV_fn _ _ _ ?_ | exact leL_nil | exact leE_nil | (rw [leV_nil]; trivial) | (rw [leV_junk]; trivial) | refine leV_sl _ _ _ _ _ rfl ?_ | exact leV.refl _ | refine leE_app _ _ _ _ ?_ ?_ | refine leE_cons _ _ _ _ ?_ ?_ | exact leE.refl _ | (refine leV_eq _ _ ?_; simp; done) | rfl | (simp [mapV_nil]; done)))
    | false =>
      simp only [h291, ↓reduceIte, Bool.false_eq_true] at hr
      simp only [awp_reg, awp_seq, awp_cond, awp_block, awp_ret, seqQ_n, seqQ_r, blkQ_r, awpOps_nil, awpOps_one, awpOps_if, awpOp_is, putK_is, put_s, slot_is, pureOp, apureO, aev, cv, cvc, binK, elO_s, yieldA, guardA_tf, condA_t, pickA_f, toD_c, notExit, resA_nil, resA_tmp, oneA_1, argT, isC, bsD, retV_is, ↓reduceIte, List.getElem?_cons_zero, List.getElem?_cons_succ, List.getElem?_toArray, Option.bind_some, Bool.true_and, true_and, reduceCtorEq, Nat.reduceEqDiff, Nat.zero_add, h290, h291, eqB_is]
      cases hr
      (try simp only [List.map_append, List.map_cons, List.map_nil, List.map_set, List.length_append, List.length_cons, List.length_nil, List.length_map, Nat.zero_add, List.map_take, List.map_drop]); (repeat' (first | with_reducible exact leV.refl _ | with_reducible exact leL.refl _ | with_reducible exact leE.refl _ | refine leL_cons _ _ _ _ ?_ ?_ | refine leV_agg _ _ ?_ | refine leV_tup _ _ ?_ | refine leV_dptr _ _ ?_ | refine leV_fn _ _ _ ?_ | exact leL_nil | exact leE_nil | (rw [leV_nil]; trivial) | (rw [leV_junk]; trivial) | refine leV_sl _ _ _ _ _ rfl ?_ | exact leV.refl _ | refine leE_app _ _ _ _ ?_ ?_ | refine leE_cons _ _ _ _ ?_ ?_ | exact leE.refl _ | (refine leV_eq _ _ ?_; simp; done) | rfl | (simp [mapV_nil]; done)))
  | false =>
    simp only [h290, ↓reduceIte, Bool.false_eq_true] at hr
    cases h292 : (eqB a0 (⟨#[98, 111, 111, 108]⟩ : ByteArray)) with
    | true =>
      simp only [h292, ↓reduceIte, Bool.false_eq_true] at hr
      cases h293 : (a1 == (0 : Int)) with
      | true =>
        simp only [h293, ↓reduceIte, Bool.false_eq_true] at hr
        simp only [awp_reg, awp_seq, awp_cond, awp_block, awp_ret, seqQ_n, seqQ_r, blkQ_r, awpOps_nil, awpOps_one, awpOps_if, awpOp_is, putK_is, put_s, slot_is, pureOp, apureO, aev, cv, cvc, binK, elO_s, yieldA, guardA_ft, condA_t, condA_f, pickA_t, toD_c, notExit, resA_nil, resA_tmp, oneA_1, argT, isC, bsD, retV_is, ↓reduceIte, List.getElem?_cons_zero, List.getElem?_cons_succ, List.getElem?_toArray, Option.bind_some, Bool.true_and, true_and, reduceCtorEq, Nat.reduceEqDiff, Nat.zero_add, h290, h292, h293, eqB_is]
        cases hr
        (try simp only [List.map_append, List.map_cons, List.map_nil, List.map_set, List.length_append, List.length_cons, List.length_nil, List.length_map, Nat.zero_add, List.map_take, List.map_drop]); (repeat' (first | with_reducible exact leV.refl _ | with_reducible exact leL.refl _ | with_reducible exact leE.refl _ | refine leL_cons _ _ _ _ ?_ ?_ | refine leV_agg _ _ ?_ | refine leV_tup _ _ ?_ | refine leV_dptr _ _ ?_ | refine leV_fn _ _ _ ?_ | exact leL_nil | exact leE_nil | (rw [leV_nil]; trivial) | (rw [leV_junk]; trivial) | refine leV_sl _ _ _ _ _ rfl ?_ | exact leV.refl _ | refine leE_app _ _ _ _ ?_ ?_ | refine leE_cons _ _ _ _ ?_ ?_ | exact leE.refl _ | (refine leV_eq _ _ ?_; simp; done) | rfl | (simp [mapV_nil]; done)))
      | false =>
        simp only [h293, ↓reduceIte, Bool.false_eq_true] at hr
        simp only [awp_reg, awp_seq, awp_cond, awp_block, awp_ret, seqQ_n, seqQ_r, blkQ_r, awpOps_nil, awpOps_one, awpOps_if, awpOp_is, awpO_is, putK_is, put_s, slot_is, pureOp, apureO, aev, cv, cvc, binK, elO_s, yieldA, guardA_ff, condA_t, condA_f, pickA_f, toD_c, notExit, resA_nil, resA_tmp, oneA_1, argT, isC, bsD, retV_is, ↓reduceIte, List.getElem?_cons_zero, List.getElem?_cons_succ, List.getElem?_toArray, Option.bind_some, Bool.true_and, true_and, reduceCtorEq, Nat.reduceEqDiff, Nat.zero_add, h290, h292, h293, eqB_is]
        cases hr
        (try simp only [List.map_append, List.map_cons, List.map_nil, List.map_set, List.length_append, List.length_cons, List.length_nil, List.length_map, Nat.zero_add, List.map_take, List.map_drop]); (repeat' (first | with_reducible exact leV.refl _ | with_reducible exact leL.refl _ | with_reducible exact leE.refl _ | refine leL_cons _ _ _ _ ?_ ?_ | refine leV_agg _ _ ?_ | refine leV_tup _ _ ?_ | refine leV_dptr _ _ ?_ | refine leV_fn _ _ _ ?_ | exact leL_nil | exact leE_nil | (rw [leV_nil]; trivial) | (rw [leV_junk]; trivial) | refine leV_sl _ _ _ _ _ rfl ?_ | exact leV.refl _ | refine leE_app _ _ _ _ ?_ ?_ | refine leE_cons _ _ _ _ ?_ ?_ | exact leE.refl _ | (refine leV_eq _ _ ?_; simp; done) | rfl | (simp [mapV_nil]; done)))
    | false =>
      simp only [h292, ↓reduceIte, Bool.false_eq_true] at hr
      simp only [awp_skip, awp_reg, awp_seq, awp_cond, awp_block, awp_ret, seqQ_n, blkQ_n, awpOps_nil, awpOps_one, awpOp_is, putK_is, put_s, slot_is, pureOp, apureO, aev, cv, cvc, binK, elO_s, condA_f, toD_c, notExit, resA_nil, resA_tmp, oneA_1, argT, isC, bsD, retV_is, ↓reduceIte, Bool.true_and, true_and, reduceCtorEq, Nat.reduceEqDiff, Nat.zero_add, h290, h292, eqB_is]
      cases hr
      (try simp only [List.map_append, List.map_cons, List.map_nil, List.map_set, List.length_append, List.length_cons, List.length_nil, List.length_map, Nat.zero_add, List.map_take, List.map_drop]); (repeat' (first | with_reducible exact leV.refl _ | with_reducible exact leL.refl _ | with_reducible exact leE.refl _ | refine leL_cons _ _ _ _ ?_ ?_ | refine leV_agg _ _ ?_ | refine leV_tup _ _ ?_ | refine leV_dptr _ _ ?_ | refine leV_fn _ _ _ ?_ | exact leL_nil | exact leE_nil | (rw [leV_nil]; trivial) | (rw [leV_junk]; trivial) | refine leV_sl _ _ _ _ _ rfl ?_ | exact leV.refl _ | refine leE_app _ _ _ _ ?_ ?_ | refine leE_cons _ _ _ _ ?_ ?_ | exact leE.refl _ | (refine leV_eq _ _ ?_; simp; done) | rfl | (simp [mapV_nil]; done)))

end Go.Proofs.YtdhpmkaggojgbaaDoor.D17
