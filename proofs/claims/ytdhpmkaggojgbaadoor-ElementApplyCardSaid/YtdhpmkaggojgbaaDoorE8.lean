/- Functions of the program as functions of values. -/
import Derived.Test.YtdhpmkaggojgbaaDoorE6
import Derived.Test.YtdhpmkaggojgbaaDoorE7
namespace Go.Proofs.YtdhpmkaggojgbaaDoor.E8
open Go.Proofs.YtdhpmkaggojgbaaDoor.E6 Go.Proofs.YtdhpmkaggojgbaaDoor.D17 Go.Proofs.YtdhpmkaggojgbaaDoor.E7
open Go Go.Proofs.YtdhpmkaggojgbaaDoor.Eng Go.Proofs.YtdhpmkaggojgbaaDoor Go.RowKit
set_option linter.unusedSimpArgs false
set_option linter.unusedVariables false
set_option linter.unusedSectionVars false
set_option maxRecDepth 100000

abbrev e_int (x : Int) : List AV := [.c (.int .i64 x)]

def law17_ElementApply (a0 : ByteArray) (a1 : List Int) : Option Bool :=
  (awakeO).bind fun y1 =>
if y1 then
  if (decide ((20 : Int) < (a0.size : Int))) then
    some true
  else
    if (decide ((5 : Int) < (a1.length : Int))) then
      some true
    else
      (pApply a0 a1).bind fun y7 =>
      (ref17_Apply a0 a1).bind fun y10 =>
      (ref17_Types a0).bind fun y13 =>
      if (y7.1 == y10.1) then
        if (y7.2 == y10.2) then
          if y7.2 then
            (element_Valid (⟨#[105, 110, 116]⟩ : ByteArray) y7.1).bind fun y19 =>
            if y19 then
              if (eqB y13.2.1 (⟨#[98, 111, 111, 108]⟩ : ByteArray)) then
                (element_Valid (⟨#[98, 111, 111, 108]⟩ : ByteArray) y7.1).bind fun y24 =>
                some y24
              else
                some true
            else
              some false
          else
            some true
        else
          some false
      else
        some false
else
  some false
set_option maxHeartbeats 2000000 in
theorem law17_ElementApply_ok {a0 : ByteArray} {a1 : List Int} {r : Bool} (hr : law17_ElementApply a0 a1 = some r) : Meets Tryd.prog 3 [.c (.string a0), .sl false 1 (a1.map e_int)] (.c (.bool r)) := by
  unfold law17_ElementApply at hr
  refine meetsV_of (X := true) Ty.mixed Tryd.func3 (by kernel_rfl) rfl (by kernel_rfl) (by simp) ?_; rw [Tryd.ntmps3, Tryd.results3]
  simp only [awp_reg, awp_seq, seqQ_n, awpOps_nil, awpOps_one, awpOp_is, isCallV, callW_is, callV_is, putK_is, put_s, pureOp, apureO, aev, cv, cvc, argT, isC, bsD, Bool.false_eq_true, ↓reduceIte, List.map_nil, List.append_nil, Nat.zero_add]
  obtain ⟨y1, h2, r3⟩ := bindS hr
  clear hr
  try dsimp only at r3
  cases h4 : y1 with
  | true =>
    simp only [h4, ↓reduceIte, Bool.false_eq_true] at r3
    cases h5 : (decide ((20 : Int) < (a0.size : Int))) with
    | true =>
      simp only [h5, ↓reduceIte, Bool.false_eq_true] at r3
      refine call_meets ((awakeO_ok h2).le ?_) (by simp only [aev, cv, cvc, toDL_nil, isC, bsD, h4, h5] <;> rfl) ?_
      · (try simp only [List.map_append, List.map_cons, List.map_nil, List.map_set, List.length_append, List.length_cons, List.length_nil, List.length_map, Nat.zero_add, List.map_take, List.map_drop]); (repeat' (first | with_reducible exact leV.refl _ | with_reducible exact leL.refl _ | with_reducible exact leE.refl _ | refine leL_cons _ _ _ _ ?_ ?_ | refine leV_agg _ _ ?_ | refine leV_tup _ _ ?_ | refine leV_dptr _ _ ?_ | refine leV_fn _ _ _ ?_ | exact leL_nil | exact leE_nil | (rw [leV_nil]; trivial) | (rw [leV_junk]; trivial) | refine leV_sl _ _ _ _ _ rfl ?_ | exact leV.refl _ | refine leE_app _ _ _ _ ?_ ?_ | refine leE_cons _ _ _ _ ?_ ?_ | exact leE.refl _ | (refine leV_eq _ _ ?_; simp; done) | rfl | (simp [mapV_nil]; done)))
      simp only [awp_skip, awp_reg, awp_seq, awp_cond, awp_ret, seqQ_n, seqQ_r, awpOps_nil, awpOps_one, awpOps_if, awpOp_is, putK_is, put_s, upd_s, slot_is, pureOp, apureO, killT, aev, cv, cvc, binK, elO_s, lenA, lenK, yieldA, guardA_ft, condA_t, condA_f, pickA_t, flat_c, ownsL_nil, toD_c, notExit, resA_nil, resA_tmp, oneA_1, mlenA_c, isC, bsD, retV_is, ↓reduceIte, List.getElem?_cons_zero, List.getElem?_cons_succ, List.getElem?_toArray, Option.bind_some, Bool.true_and, Bool.or_true, Bool.not_true, true_and, reduceCtorEq, Nat.reduceEqDiff, List.isEmpty_nil, Ty.td9, h4, h5]
      cases r3
      (try simp only [List.map_append, List.map_cons, List.map_nil, List.map_set, List.length_append, List.length_cons, List.length_nil, List.length_map, Nat.zero_add, List.map_take, List.map_drop]); (repeat' (first | with_reducible exact leV.refl _ | with_reducible exact leL.refl _ | with_reducible exact leE.refl _ | refine leL_cons _ _ _ _ ?_ ?_ | refine leV_agg _ _ ?_ | refine leV_tup _ _ ?_ | refine leV_dptr _ _ ?_ | refine leV_fn _ _ _ ?_ | exact leL_nil | exact leE_nil | (rw [leV_nil]; trivial) | (rw [leV_junk]; trivial) | refine leV_sl _ _ _ _ _ rfl ?_ | exact leV.refl _ | refine leE_app _ _ _ _ ?_ ?_ | refine leE_cons _ _ _ _ ?_ ?_ | exact leE.refl _ | (refine leV_eq _ _ ?_; simp; done) | rfl | (simp [mapV_nil]; done)))
    | false =>
      simp only [h5, ↓reduceIte, Bool.false_eq_true] at r3
      cases h6 : (decide ((5 : Int) < (a1.length : Int))) with
      | true =>
        simp only [h6, ↓reduceIte, Bool.false_eq_true] at r3
        refine call_meets ((awakeO_ok h2).le ?_) (by simp only [aev, cv, cvc, toDL_nil, isC, bsD, h4, h5, h6] <;> rfl) ?_
        · (try simp only [List.map_append, List.map_cons, List.map_nil, List.map_set, List.length_append, List.length_cons, List.length_nil, List.length_map, Nat.zero_add, List.map_take, List.map_drop]); (repeat' (first | with_reducible exact leV.refl _ | with_reducible exact leL.refl _ | with_reducible exact leE.refl _ | refine leL_cons _ _ _ _ ?_ ?_ | refine leV_agg _ _ ?_ | refine leV_tup _ _ ?_ | refine leV_dptr _ _ ?_ | refine leV_fn _ _ _ ?_ | exact leL_nil | exact leE_nil | (rw [leV_nil]; trivial) | (rw [leV_junk]; trivial) | refine leV_sl _ _ _ _ _ rfl ?_ | exact leV.refl _ | refine leE_app _ _ _ _ ?_ ?_ | refine leE_cons _ _ _ _ ?_ ?_ | exact leE.refl _ | (refine leV_eq _ _ ?_; simp; done) | rfl | (simp [mapV_nil]; done)))
        simp only [awp_skip, awp_reg, awp_seq, awp_cond, awp_ret, seqQ_n, seqQ_r, awpOps_nil, awpOps_one, awpOps_if, awpOp_is, awpO_is, putK_is, put_s, upd_s, slot_is, pureOp, apureO, killT, aev, cv, cvc, binK, elO_s, lenA, lenK, yieldA, guardA_ff, condA_t, condA_f, pickA_f, flat_c, ownsL_nil, toD_c, notExit, resA_nil, resA_tmp, oneA_1, mlenA_c, mlenA_sl, isC, bsD, retV_is, ↓reduceIte, List.getElem?_cons_zero, List.getElem?_cons_succ, List.getElem?_toArray, Option.bind_some, Bool.true_and, Bool.or_true, Bool.not_true, true_and, reduceCtorEq, Nat.reduceEqDiff, List.isEmpty_nil, Option.isSome_some, Ty.td9, Ty.td22, h4, h5, h6, List.length_map]
        cases r3
        (try simp only [List.map_append, List.map_cons, List.map_nil, List.map_set, List.length_append, List.length_cons, List.length_nil, List.length_map, Nat.zero_add, List.map_take, List.map_drop]); (repeat' (first | with_reducible exact leV.refl _ | with_reducible exact leL.refl _ | with_reducible exact leE.refl _ | refine leL_cons _ _ _ _ ?_ ?_ | refine leV_agg _ _ ?_ | refine leV_tup _ _ ?_ | refine leV_dptr _ _ ?_ | refine leV_fn _ _ _ ?_ | exact leL_nil | exact leE_nil | (rw [leV_nil]; trivial) | (rw [leV_junk]; trivial) | refine leV_sl _ _ _ _ _ rfl ?_ | exact leV.refl _ | refine leE_app _ _ _ _ ?_ ?_ | refine leE_cons _ _ _ _ ?_ ?_ | exact leE.refl _ | (refine leV_eq _ _ ?_; simp; done) | rfl | (simp [mapV_nil]; done)))
      | false =>
        simp only [h6, ↓reduceIte, Bool.false_eq_true] at r3
        refine call_meets ((awakeO_ok h2).le ?_) (by simp only [aev, cv, cvc, toDL_nil, isC, bsD, h4, h5, h6] <;> rfl) ?_
        · (try simp only [List.map_append, List.map_cons, List.map_nil, List.map_set, List.length_append, List.length_cons, List.length_nil, List.length_map, Nat.zero_add, List.map_take, List.map_drop]); (repeat' (first | with_reducible exact leV.refl _ | with_reducible exact leL.refl _ | with_reducible exact leE.refl _ | refine leL_cons _ _ _ _ ?_ ?_ | refine leV_agg _ _ ?_ | refine leV_tup _ _ ?_ | refine leV_dptr _ _ ?_ | refine leV_fn _ _ _ ?_ | exact leL_nil | exact leE_nil | (rw [leV_nil]; trivial) | (rw [leV_junk]; trivial) | refine leV_sl _ _ _ _ _ rfl ?_ | exact leV.refl _ | refine leE_app _ _ _ _ ?_ ?_ | refine leE_cons _ _ _ _ ?_ ?_ | exact leE.refl _ | (refine leV_eq _ _ ?_; simp; done) | rfl | (simp [mapV_nil]; done)))
        simp only [awp_skip, awp_reg, awp_seq, awp_cond, seqQ_n, awpOps_nil, awpOps_one, awpOps_if, awpOp_is, isCallV, callW_is, callV_is, awpO_is, putK_is, put_s, upd_s, slot_is, pureOp, apureO, killT, aev, cv, cvc, binK, elO_s, lenA, lenK, yieldA, guardA_ff, condA_f, pickA_f, flat_c, ownsL_nil, mlenA_c, mlenA_sl, isC, bsD, Bool.false_eq_true, ↓reduceIte, List.getElem?_cons_zero, List.getElem?_cons_succ, List.map_cons, List.map_nil, List.append_nil, List.getElem?_toArray, Option.bind_some, Bool.true_and, Bool.or_true, Bool.not_true, true_and, reduceCtorEq, Nat.reduceEqDiff, List.isEmpty_nil, Option.isSome_some, Ty.td9, Ty.td22, h4, h5, h6, List.length_map]
        obtain ⟨y7, h8, r9⟩ := bindS r3
        clear r3
        try dsimp only at r9
        refine call_meets ((pApply_ok h8).le ?_) (by simp only [aev, cv, cvc, toD_c, toD_sl, consO_some, toDL_nil, toDL_cons, isC, bsD, h4, h5, h6] <;> rfl) ?_
        · (try simp only [List.map_append, List.map_cons, List.map_nil, List.map_set, List.length_append, List.length_cons, List.length_nil, List.length_map, Nat.zero_add, List.map_take, List.map_drop]); (repeat' (first | with_reducible exact leV.refl _ | with_reducible exact leL.refl _ | with_reducible exact leE.refl _ | refine leL_cons _ _ _ _ ?_ ?_ | refine leV_agg _ _ ?_ | refine leV_tup _ _ ?_ | refine leV_dptr _ _ ?_ | refine leV_fn _ _ _ ?_ | exact leL_nil | exact leE_nil | (rw [leV_nil]; trivial) | (rw [leV_junk]; trivial) | refine leV_sl _ _ _ _ _ rfl ?_ | exact leV.refl _ | refine leE_app _ _ _ _ ?_ ?_ | refine leE_cons _ _ _ _ ?_ ?_ | exact leE.refl _ | (refine leV_eq _ _ ?_; simp; done) | rfl | (simp [mapV_nil]; done)))
        simp only [awp_reg, awp_seq, seqQ_n, awpOps_nil, awpOps_one, awpOp_is, isCallV, callW_is, callV_is, putK_is, put_s, upd_s, slot_is, pureOp, apureO, killT, aev, cv, cvc, elO_s, flat_c, flat_tup, flatL_nil, flatL_cons, ownsV_c, ownsV_sl, ownsL_nil, ownsL_cons, isC, bsD, Bool.false_eq_true, ↓reduceIte, List.getElem?_cons_zero, List.getElem?_cons_succ, List.map_cons, List.map_nil, List.append_nil, Bool.and_self, Bool.or_true, and_self, reduceCtorEq, Nat.reduceEqDiff, List.isEmpty_nil, h4, h5, h6]
        obtain ⟨y10, h11, r12⟩ := bindS r9
        clear r9
        try dsimp only at r12
        refine call_meets ((ref17_Apply_ok h11).le ?_) (by simp only [aev, cv, cvc, toD_c, toD_sl, consO_some, toDL_nil, toDL_cons, isC, bsD, h4, h5, h6] <;> rfl) ?_
        · (try simp only [List.map_append, List.map_cons, List.map_nil, List.map_set, List.length_append, List.length_cons, List.length_nil, List.length_map, Nat.zero_add, List.map_take, List.map_drop]); (repeat' (first | with_reducible exact leV.refl _ | with_reducible exact leL.refl _ | with_reducible exact leE.refl _ | refine leL_cons _ _ _ _ ?_ ?_ | refine leV_agg _ _ ?_ | refine leV_tup _ _ ?_ | refine leV_dptr _ _ ?_ | refine leV_fn _ _ _ ?_ | exact leL_nil | exact leE_nil | (rw [leV_nil]; trivial) | (rw [leV_junk]; trivial) | refine leV_sl _ _ _ _ _ rfl ?_ | exact leV.refl _ | refine leE_app _ _ _ _ ?_ ?_ | refine leE_cons _ _ _ _ ?_ ?_ | exact leE.refl _ | (refine leV_eq _ _ ?_; simp; done) | rfl | (simp [mapV_nil]; done)))
        simp only [awp_reg, awp_seq, seqQ_n, awpOps_nil, awpOps_one, awpOp_is, isCallV, callW_is, callV_is, putK_is, put_s, upd_s, slot_is, pureOp, apureO, killT, aev, cv, cvc, elO_s, flat_c, flat_tup, flatL_nil, flatL_cons, ownsV_c, ownsV_sl, ownsL_nil, ownsL_cons, isC, bsD, Bool.false_eq_true, ↓reduceIte, List.getElem?_cons_zero, List.getElem?_cons_succ, List.map_cons, List.map_nil, List.append_nil, Bool.and_self, Bool.or_true, and_self, reduceCtorEq, Nat.reduceEqDiff, List.isEmpty_nil, h4, h5, h6]
        obtain ⟨y13, h14, r15⟩ := bindS r12
        clear r12
        try dsimp only at r15
        cases h16 : (y7.1 == y10.1) with
        | true =>
          simp only [h16, ↓reduceIte, Bool.false_eq_true] at r15
          cases h17 : (y7.2 == y10.2) with
          | true =>
            simp only [h17, ↓reduceIte, Bool.false_eq_true] at r15
            cases h18 : y7.2 with
            | true =>
              simp only [h18, ↓reduceIte, Bool.false_eq_true] at r15
              try simp only [h18] at h17
              refine call_meets ((ref17_Types_ok h14).le ?_) (by simp only [aev, cv, cvc, toD_c, consO_some, toDL_nil, toDL_cons, isC, bsD, h4, h5, h6, h16, h17, h18] <;> rfl) ?_
              · (try simp only [List.map_append, List.map_cons, List.map_nil, List.map_set, List.length_append, List.length_cons, List.length_nil, List.length_map, Nat.zero_add, List.map_take, List.map_drop]); (repeat' (first | with_reducible exact leV.refl _ | with_reducible exact leL.refl _ | with_reducible exact leE.refl _ | refine leL_cons _ _ _ _ ?_ ?_ | refine leV_agg _ _ ?_ | refine leV_tup _ _ ?_ | refine leV_dptr _ _ ?_ | refine leV_fn _ _ _ ?_ | exact leL_nil | exact leE_nil | (rw [leV_nil]; trivial) | (rw [leV_junk]; trivial) | refine leV_sl _ _ _ _ _ rfl ?_ | exact leV.refl _ | refine leE_app _ _ _ _ ?_ ?_ | refine leE_cons _ _ _ _ ?_ ?_ | exact leE.refl _ | (refine leV_eq _ _ ?_; simp; done) | rfl | (simp [mapV_nil]; done)))
              simp only [awp_reg, awp_seq, seqQ_n, awpOps_nil, awpOps_one, awpOps_if, awpOp_is, isCallV, callW_is, callV_is, awpO_is, putK_is, put_s, upd_s, slot_is, pureOp, apureO, killT, aev, cv, cvc, binK, elO_s, yieldA, guardA_tt, guardA_ff, pickA_t, flat_c, flat_tup, flat_sl, flatL_nil, flatL_cons, ownsV_c, ownsL_nil, ownsL_cons, isC, bsD, Bool.false_eq_true, ↓reduceIte, List.getElem?_cons_zero, List.getElem?_cons_succ, List.map_cons, List.map_nil, List.append_nil, List.getElem?_toArray, Option.bind_some, Bool.and_true, Bool.true_and, Bool.and_self, Bool.or_true, Bool.not_true, true_and, and_true, and_self, Nat.reduceEqDiff, List.isEmpty_nil, Ty.td4, h4, h5, h6, h16, h17, h18]
              obtain ⟨y19, h20, r21⟩ := bindS r15
              clear r15
              try dsimp only at r21
              cases h22 : y19 with
              | true =>
                simp only [h22, ↓reduceIte, Bool.false_eq_true] at r21
                cases h23 : (eqB y13.2.1 (⟨#[98, 111, 111, 108]⟩ : ByteArray)) with
                | true =>
                  simp only [h23, ↓reduceIte, Bool.false_eq_true] at r21
                  refine call_meets ((element_Valid_ok h20).le ?_) (by simp only [aev, cv, cvc, toD_c, consO_some, toDL_nil, toDL_cons, isC, bsD, h4, h5, h6, h16, h17, h18, h22, h23] <;> rfl) ?_
                  · (try simp only [List.map_append, List.map_cons, List.map_nil, List.map_set, List.length_append, List.length_cons, List.length_nil, List.length_map, Nat.zero_add, List.map_take, List.map_drop]); (repeat' (first | with_reducible exact leV.refl _ | with_reducible exact leL.refl _ | with_reducible exact leE.refl _ | refine leL_cons _ _ _ _ ?_ ?_ | refine leV_agg _ _ ?_ | refine leV_tup _ _ ?_ | refine leV_dptr _ _ ?_ | refine leV_fn _ _ _ ?_ | exact leL_nil | exact leE_nil | (rw [leV_nil]; trivial) | (rw [leV_junk]; trivial) | refine leV_sl _ _ _ _ _ rfl ?_ | exact leV.refl _ | refine leE_app _ _ _ _ ?_ ?_ | refine leE_cons _ _ _ _ ?_ ?_ | exact leE.refl _ | (refine leV_eq _ _ ?_; simp; done) | rfl | (simp [mapV_nil]; done)))
                  simp only [awpOps_if, awpOp_is, isCallV, callW_is, callV_is, awpO_is, putK_is, put_s, upd_s, slot_is, pureOp, apureO, killT, aev, cv, cvc, binK, yieldA, guardA_tt, guardA_ff, flat_c, ownsV_c, ownsL_nil, ownsL_cons, isC, bsD, Bool.false_eq_true, ↓reduceIte, List.getElem?_cons_zero, List.getElem?_cons_succ, List.map_cons, List.map_nil, List.append_nil, List.getElem?_toArray, Option.bind_some, Bool.or_true, Bool.not_true, Nat.reduceEqDiff, List.isEmpty_nil, h4, h5, h6, h16, h17, h18, h22, h23, eqB_is]
                  obtain ⟨y24, h25, r26⟩ := bindS r21
                  clear r21
                  try dsimp only at r26
                  refine call_meets ((element_Valid_ok h25).le ?_) (by simp only [aev, cv, cvc, toD_c, consO_some, toDL_nil, toDL_cons, isC, bsD, h4, h5, h6, h16, h17, h18, h22, h23] <;> rfl) ?_
                  · (try simp only [List.map_append, List.map_cons, List.map_nil, List.map_set, List.length_append, List.length_cons, List.length_nil, List.length_map, Nat.zero_add, List.map_take, List.map_drop]); (repeat' (first | with_reducible exact leV.refl _ | with_reducible exact leL.refl _ | with_reducible exact leE.refl _ | refine leL_cons _ _ _ _ ?_ ?_ | refine leV_agg _ _ ?_ | refine leV_tup _ _ ?_ | refine leV_dptr _ _ ?_ | refine leV_fn _ _ _ ?_ | exact leL_nil | exact leE_nil | (rw [leV_nil]; trivial) | (rw [leV_junk]; trivial) | refine leV_sl _ _ _ _ _ rfl ?_ | exact leV.refl _ | refine leE_app _ _ _ _ ?_ ?_ | refine leE_cons _ _ _ _ ?_ ?_ | exact leE.refl _ | (refine leV_eq _ _ ?_; simp; done) | rfl | (simp [mapV_nil]; done)))
                  simp only [awp_ret, seqQ_n, awpOps_nil, awpOps_one, awpOps_if, awpOp_is, awpO_is, putK_is, put_s, upd_s, slot_is, pureOp, apureO, killT, aev, cv, cvc, elO_s, yieldA, guardA_tt, guardA_ff, pickA_t, pickA_f, flat_c, ownsV_c, ownsL_nil, ownsL_cons, toD_c, notExit, resA_nil, resA_tmp, oneA_1, isC, bsD, retV_is, ↓reduceIte, List.getElem?_cons_zero, List.getElem?_cons_succ, List.append_nil, List.getElem?_toArray, Option.bind_some, Bool.true_and, Bool.or_true, true_and, Nat.reduceEqDiff, List.isEmpty_nil, h4, h5, h6, h16, h17, h18, h22, h23]
                  cases r26
                  (try simp only [List.map_append, List.map_cons, List.map_nil, List.map_set, List.length_append, List.length_cons, List.length_nil, List.length_map, Nat.zero_add, List.map_take, List.map_drop]); (repeat' (first | with_reducible exact leV.refl _ | with_reducible exact leL.refl _ | with_reducible exact leE.refl _ | refine leL_cons _ _ _ _ ?_ ?_ | refine leV_agg _ _ ?_ | refine leV_tup _ _ ?_ | refine leV_dptr _ _ ?_ | refine leV_fn _ _ _ ?_ | exact leL_nil | exact leE_nil | (rw [leV_nil]; trivial) | (rw [leV_junk]; trivial) | refine leV_sl _ _ _ _ _ rfl ?_ | exact leV.refl _ | refine leE_app _ _ _ _ ?_ ?_ | refine leE_cons _ _ _ _ ?_ ?_ | exact leE.refl _ | (refine leV_eq _ _ ?_; simp; done) | rfl | (simp [mapV_nil]; done)))
                | false =>
                  simp only [h23, ↓reduceIte, Bool.false_eq_true] at r21
                  refine call_meets ((element_Valid_ok h20).le ?_) (by simp only [aev, cv, cvc, toD_c, consO_some, toDL_nil, toDL_cons, isC, bsD, h4, h5, h6, h16, h17, h18, h22, h23] <;> rfl) ?_
                  · (try simp only [List.map_append, List.map_cons, List.map_nil, List.map_set, List.length_append, List.length_cons, List.length_nil, List.length_map, Nat.zero_add, List.map_take, List.map_drop]); (repeat' (first | with_reducible exact leV.refl _ | with_reducible exact leL.refl _ | with_reducible exact leE.refl _ | refine leL_cons _ _ _ _ ?_ ?_ | refine leV_agg _ _ ?_ | refine leV_tup _ _ ?_ | refine leV_dptr _ _ ?_ | refine leV_fn _ _ _ ?_ | exact leL_nil | exact leE_nil | (rw [leV_nil]; trivial) | (rw [leV_junk]; trivial) | refine leV_sl _ _ _ _ _ rfl ?_ | exact leV.refl _ | refine leE_app _ _ _ _ ?_ ?_ | refine leE_cons _ _ _ _ ?_ ?_ | exact leE.refl _ | (refine leV_eq _ _ ?_; simp; done) | rfl | (simp [mapV_nil]; done)))
                  simp only [awp_ret, seqQ_n, awpOps_nil, awpOps_one, awpOps_if, awpOp_is, awpO_is, putK_is, put_s, upd_s, slot_is, pureOp, apureO, killT, aev, cv, cvc, binK, elO_s, yieldA, guardA_tt, guardA_ft, guardA_ff, pickA_t, pickA_f, flat_c, ownsV_c, ownsL_nil, ownsL_cons, toD_c, notExit, resA_nil, resA_tmp, oneA_1, isC, bsD, retV_is, ↓reduceIte, List.getElem?_cons_zero, List.getElem?_cons_succ, List.append_nil, List.getElem?_toArray, Option.bind_some, Bool.true_and, Bool.or_true, Bool.not_false, true_and, Nat.reduceEqDiff, List.isEmpty_nil, h4, h5, h6, h16, h17, h18, h22, h23, eqB_is]
                  cases r21
                  (try simp only [List.map_append, List.map_cons, List.map_nil, List.map_set, List.length_append, List.length_cons, List.length_nil, List.length_map, Nat.zero_add, List.map_take, List.map_drop]); (repeat' (first | with_reducible exact leV.refl _ | with_reducible exact leL.refl _ | with_reducible exact leE.refl _ | refine leL_cons _ _ _ _ ?_ ?_ | refine leV_agg _ _ ?_ | refine leV_tup _ _ ?_ | refine leV_dptr _ _ ?_ | refine leV_fn _ _ _ ?_ | exact leL_nil | exact leE_nil | (rw [leV_nil]; trivial) | (rw [leV_junk]; trivial) | refine leV_sl _ _ _ _ _ rfl ?_ | exact leV.refl _ | refine leE_app _ _ _ _ ?_ ?_ | refine leE_cons _ _ _ _ ?_ ?_ | exact leE.refl _ | (refine leV_eq _ _ ?_; simp; done) | rfl | (simp [mapV_nil]; done)))
              | false =>
                simp only [h22, ↓reduceIte, Bool.false_eq_true] at r21
                refine call_meets ((element_Valid_ok h20).le ?_) (by simp only [aev, cv, cvc, toD_c, consO_some, toDL_nil, toDL_cons, isC, bsD, h4, h5, h6, h16, h17, h18, h22] <;> rfl) ?_
                · (try simp only [List.map_append, List.map_cons, List.map_nil, List.map_set, List.length_append, List.length_cons, List.length_nil, List.length_map, Nat.zero_add, List.map_take, List.map_drop]); (repeat' (first | with_reducible exact leV.refl _ | with_reducible exact leL.refl _ | with_reducible exact leE.refl _ | refine leL_cons _ _ _ _ ?_ ?_ | refine leV_agg _ _ ?_ | refine leV_tup _ _ ?_ | refine leV_dptr _ _ ?_ | refine leV_fn _ _ _ ?_ | exact leL_nil | exact leE_nil | (rw [leV_nil]; trivial) | (rw [leV_junk]; trivial) | refine leV_sl _ _ _ _ _ rfl ?_ | exact leV.refl _ | refine leE_app _ _ _ _ ?_ ?_ | refine leE_cons _ _ _ _ ?_ ?_ | exact leE.refl _ | (refine leV_eq _ _ ?_; simp; done) | rfl | (simp [mapV_nil]; done)))
                simp only [awp_ret, seqQ_n, awpOps_nil, awpOps_one, awpOps_if, awpOp_is, awpO_is, putK_is, put_s, upd_s, slot_is, pureOp, apureO, killT, aev, cv, cvc, elO_s, yieldA, guardA_no, guardA_tt, guardA_tf, guardA_ff, pickA_t, pickA_f, flat_c, ownsV_c, ownsL_nil, ownsL_cons, toD_c, notExit, resA_nil, resA_tmp, oneA_1, isC, bsD, retV_is, ↓reduceIte, List.getElem?_cons_zero, List.getElem?_cons_succ, List.append_nil, List.getElem?_toArray, Option.bind_some, Bool.true_and, Bool.or_true, true_and, Nat.reduceEqDiff, List.isEmpty_nil, h4, h5, h6, h16, h17, h18, h22]
                cases r21
                (try simp only [List.map_append, List.map_cons, List.map_nil, List.map_set, List.length_append, List.length_cons, List.length_nil, List.length_map, Nat.zero_add, List.map_take, List.map_drop]); (repeat' (first | with_reducible exact leV.refl _ | with_reducible exact leL.refl _ | with_reducible exact leE.refl _ | refine leL_cons _ _ _ _ ?_ ?_ | refine leV_agg _ _ ?_ | refine leV_tup _ _ ?_ | refine leV_dptr _ _ ?_ | refine leV_fn _ _ _ ?_ | exact leL_nil | exact leE_nil | (rw [leV_nil]; trivial) | (rw [leV_junk]; trivial) | refine leV_sl _ _ _ _ _ rfl ?_ | exact leV.refl _ | refine leE_app _ _ _ _ ?_ ?_ | refine leE_cons _ _ _ _ ?_ ?_ | exact leE.refl _ | (refine leV_eq _ _ ?_; simp; done) | rfl | (simp [mapV_nil]; done)))
            | false =>
              simp only [h18, ↓reduceIte, Bool.false_eq_true] at r15
              try simp only [h18] at h17
              refine call_meets ((ref17_Types_ok h14).le ?_) (by simp only [aev, cv, cvc, toD_c, consO_some, toDL_nil, toDL_cons, isC, bsD, h4, h5, h6, h16, h17, h18] <;> rfl) ?_
              · (try simp only [List.map_append, List.map_cons, List.map_nil, List.map_set, List.length_append, List.length_cons, List.length_nil, List.length_map, Nat.zero_add, List.map_take, List.map_drop]); (repeat' (first | with_reducible exact leV.refl _ | with_reducible exact leL.refl _ | with_reducible exact leE.refl _ | refine leL_cons _ _ _ _ ?_ ?_ | refine leV_agg _ _ ?_ | refine leV_tup _ _ ?_ | refine leV_dptr _ _ ?_ | refine leV_fn _ _ _ ?_ | exact leL_nil | exact leE_nil | (rw [leV_nil]; trivial) | (rw [leV_junk]; trivial) | refine leV_sl _ _ _ _ _ rfl ?_ | exact leV.refl _ | refine leE_app _ _ _ _ ?_ ?_ | refine leE_cons _ _ _ _ ?_ ?_ | exact leE.refl _ | (refine leV_eq _ _ ?_; simp; done) | rfl | (simp [mapV_nil]; done)))
              simp only [awp_reg, awp_seq, awp_ret, seqQ_n, awpOps_nil, awpOps_one, awpOps_if, awpOp_is, awpO_is, putK_is, put_s, upd_s, slot_is, pureOp, apureO, killT, aev, cv, cvc, binK, elO_s, yieldA, guardA_no, guardA_tt, guardA_ft, pickA_t, flat_c, flat_tup, flat_sl, flatL_nil, flatL_cons, ownsV_c, ownsL_nil, ownsL_cons, toD_c, notExit, resA_nil, resA_tmp, oneA_1, isC, bsD, retV_is, ↓reduceIte, List.getElem?_cons_zero, List.getElem?_cons_succ, List.append_nil, List.getElem?_toArray, Option.bind_some, Bool.and_true, Bool.true_and, Bool.and_self, Bool.or_true, Bool.not_false, true_and, and_true, and_self, Nat.reduceEqDiff, List.isEmpty_nil, Ty.td4, h4, h5, h6, h16, h17, h18]
              cases r15
              (try simp only [List.map_append, List.map_cons, List.map_nil, List.map_set, List.length_append, List.length_cons, List.length_nil, List.length_map, Nat.zero_add, List.map_take, List.map_drop]); (repeat' (first | with_reducible exact leV.refl _ | with_reducible exact leL.refl _ | with_reducible exact leE.refl _ | refine leL_cons _ _ _ _ ?_ ?_ | refine leV_agg _ _ ?_ | refine leV_tup _ _ ?_ | refine leV_dptr _ _ ?_ | refine leV_fn _ _ _ ?_ | exact leL_nil | exact leE_nil | (rw [leV_nil]; trivial) | (rw [leV_junk]; trivial) | refine leV_sl _ _ _ _ _ rfl ?_ | exact leV.refl _ | refine leE_app _ _ _ _ ?_ ?_ | refine leE_cons _ _ _ _ ?_ ?_ | exact leE.refl _ | (refine leV_eq _ _ ?_; simp; done) | rfl | (simp [mapV_nil]; done)))
          | false =>
            simp only [h17, ↓reduceIte, Bool.false_eq_true] at r15
            refine call_meets ((ref17_Types_ok h14).le ?_) (by simp only [aev, cv, cvc, toD_c, consO_some, toDL_nil, toDL_cons, isC, bsD, h4, h5, h6, h16, h17] <;> rfl) ?_
            · (try simp only [List.map_append, List.map_cons, List.map_nil, List.map_set, List.length_append, List.length_cons, List.length_nil, List.length_map, Nat.zero_add, List.map_take, List.map_drop]); (repeat' (first | with_reducible exact leV.refl _ | with_reducible exact leL.refl _ | with_reducible exact leE.refl _ | refine leL_cons _ _ _ _ ?_ ?_ | refine leV_agg _ _ ?_ | refine leV_tup _ _ ?_ | refine leV_dptr _ _ ?_ | refine leV_fn _ _ _ ?_ | exact leL_nil | exact leE_nil | (rw [leV_nil]; trivial) | (rw [leV_junk]; trivial) | refine leV_sl _ _ _ _ _ rfl ?_ | exact leV.refl _ | refine leE_app _ _ _ _ ?_ ?_ | refine leE_cons _ _ _ _ ?_ ?_ | exact leE.refl _ | (refine leV_eq _ _ ?_; simp; done) | rfl | (simp [mapV_nil]; done)))
            simp only [awp_reg, awp_seq, awp_ret, seqQ_n, awpOps_nil, awpOps_one, awpOps_if, awpOp_is, awpO_is, putK_is, put_s, upd_s, slot_is, pureOp, apureO, killT, aev, cv, cvc, binK, elO_s, yieldA, guardA_no, guardA_tt, guardA_tf, pickA_t, pickA_f, flat_c, flat_tup, flat_sl, flatL_nil, flatL_cons, ownsV_c, ownsL_nil, ownsL_cons, toD_c, notExit, resA_nil, resA_tmp, oneA_1, isC, bsD, retV_is, ↓reduceIte, List.getElem?_cons_zero, List.getElem?_cons_succ, List.append_nil, List.getElem?_toArray, Option.bind_some, Bool.and_true, Bool.true_and, Bool.and_self, Bool.or_true, true_and, and_true, and_self, Nat.reduceEqDiff, List.isEmpty_nil, Ty.td4, h4, h5, h6, h16, h17]
            cases r15
            (try simp only [List.map_append, List.map_cons, List.map_nil, List.map_set, List.length_append, List.length_cons, List.length_nil, List.length_map, Nat.zero_add, List.map_take, List.map_drop]); (repeat' (first | with_reducible exact leV.refl _ | with_reducible exact leL.refl _ | with_reducible exact leE.refl _ | refine leL_cons _ _ _ _ ?_ ?_ | refine leV_agg _ _ ?_ | refine leV_tup _ _ ?_ | refine leV_dptr _ _ ?_ | refine leV_fn _ _ _ ?_ | exact leL_nil | exact leE_nil | (rw [leV_nil]; trivial) | (rw [leV_junk]; trivial) | refine leV_sl _ _ _ _ _ rfl ?_ | exact leV.refl _ | refine leE_app _ _ _ _ ?_ ?_ | refine leE_cons _ _ _ _ ?_ ?_ | exact leE.refl _ | (refine leV_eq _ _ ?_; simp; done) | rfl | (simp [mapV_nil]; done)))
        | false =>
          simp only [h16, ↓reduceIte, Bool.false_eq_true] at r15
          refine call_meets ((ref17_Types_ok h14).le ?_) (by simp only [aev, cv, cvc, toD_c, consO_some, toDL_nil, toDL_cons, isC, bsD, h4, h5, h6, h16] <;> rfl) ?_
          · (try simp only [List.map_append, List.map_cons, List.map_nil, List.map_set, List.length_append, List.length_cons, List.length_nil, List.length_map, Nat.zero_add, List.map_take, List.map_drop]); (repeat' (first | with_reducible exact leV.refl _ | with_reducible exact leL.refl _ | with_reducible exact leE.refl _ | refine leL_cons _ _ _ _ ?_ ?_ | refine leV_agg _ _ ?_ | refine leV_tup _ _ ?_ | refine leV_dptr _ _ ?_ | refine leV_fn _ _ _ ?_ | exact leL_nil | exact leE_nil | (rw [leV_nil]; trivial) | (rw [leV_junk]; trivial) | refine leV_sl _ _ _ _ _ rfl ?_ | exact leV.refl _ | refine leE_app _ _ _ _ ?_ ?_ | refine leE_cons _ _ _ _ ?_ ?_ | exact leE.refl _ | (refine leV_eq _ _ ?_; simp; done) | rfl | (simp [mapV_nil]; done)))
          simp only [awp_reg, awp_seq, awp_ret, seqQ_n, awpOps_nil, awpOps_one, awpOps_if, awpOp_is, putK_is, put_s, upd_s, slot_is, pureOp, apureO, killT, aev, cv, cvc, binK, elO_s, yieldA, guardA_no, guardA_tf, pickA_f, flat_c, flat_tup, flat_sl, flatL_nil, flatL_cons, ownsV_c, ownsL_nil, ownsL_cons, toD_c, notExit, resA_nil, resA_tmp, oneA_1, isC, bsD, retV_is, ↓reduceIte, List.getElem?_cons_zero, List.getElem?_cons_succ, List.append_nil, List.getElem?_toArray, Option.bind_some, Bool.and_true, Bool.true_and, Bool.and_self, Bool.or_true, true_and, and_true, and_self, Nat.reduceEqDiff, List.isEmpty_nil, h4, h5, h6, h16]
          cases r15
          (try simp only [List.map_append, List.map_cons, List.map_nil, List.map_set, List.length_append, List.length_cons, List.length_nil, List.length_map, Nat.zero_add, List.map_take, List.map_drop]); (repeat' (first | with_reducible exact leV.refl _ | with_reducible exact leL.refl _ | with_reducible exact leE.refl _ | refine leL_cons _ _ _ _ ?_ ?_ | refine leV_agg _ _ ?_ | refine leV_tup _ _ ?_ | refine leV_dptr _ _ ?_ | refine leV_fn _ _ _ ?_ | exact leL_nil | exact leE_nil | (rw [leV_nil]; trivial) | (rw [leV_junk]; trivial) | refine leV_sl _ _ _ _ _ rfl ?_ | exact leV.refl _ | refine leE_app _ _ _ _ ?_ ?_ | refine leE_cons _ _ _ _ ?_ ?_ | exact leE.refl _ | (refine leV_eq _ _ ?_; simp; done) | rfl | (simp [mapV_nil]; done)))
  | false =>
    simp only [h4, ↓reduceIte, Bool.false_eq_true] at r3
    refine call_meets ((awakeO_ok h2).le ?_) (by simp only [aev, cv, cvc, toDL_nil, isC, bsD, h4] <;> rfl) ?_
    · (try simp only [List.map_append, List.map_cons, List.map_nil, List.map_set, List.length_append, List.length_cons, List.length_nil, List.length_map, Nat.zero_add, List.map_take, List.map_drop]); (repeat' (first | with_reducible exact leV.refl _ | with_reducible exact leL.refl _ | with_reducible exact leE.refl _ | refine leL_cons _ _ _ _ ?_ ?_ | refine leV_agg _ _ ?_ | refine leV_tup _ _ ?_ | refine leV_dptr _ _ ?_ | refine leV_fn _ _ _ ?_ | exact leL_nil | exact leE_nil | (rw [leV_nil]; trivial) | (rw [leV_junk]; trivial) | refine leV_sl _ _ _ _ _ rfl ?_ | exact leV.refl _ | refine leE_app _ _ _ _ ?_ ?_ | refine leE_cons _ _ _ _ ?_ ?_ | exact leE.refl _ | (refine leV_eq _ _ ?_; simp; done) | rfl | (simp [mapV_nil]; done)))
    simp only [awp_reg, awp_seq, awp_cond, awp_ret, seqQ_n, seqQ_r, awpOps_nil, awpOps_one, awpOp_is, putK_is, put_s, upd_s, slot_is, pureOp, apureO, killT, aev, cv, cvc, elO_s, condA_t, flat_c, ownsL_nil, toD_c, notExit, resA_nil, resA_tmp, oneA_1, isC, bsD, retV_is, ↓reduceIte, Bool.true_and, Bool.or_true, Bool.not_false, true_and, List.isEmpty_nil, h4]
    cases r3
    (try simp only [List.map_append, List.map_cons, List.map_nil, List.map_set, List.length_append, List.length_cons, List.length_nil, List.length_map, Nat.zero_add, List.map_take, List.map_drop]); (repeat' (first | with_reducible exact leV.refl _ | with_reducible exact leL.refl _ | with_reducible exact leE.refl _ | refine leL_cons _ _ _ _ ?_ ?_ | refine leV_agg _ _ ?_ | refine leV_tup _ _ ?_ | refine leV_dptr _ _ ?_ | refine leV_fn _ _ _ ?_ | exact leL_nil | exact leE_nil | (rw [leV_nil]; trivial) | (rw [leV_junk]; trivial) | refine leV_sl _ _ _ _ _ rfl ?_ | exact leV.refl _ | refine leE_app _ _ _ _ ?_ ?_ | refine leE_cons _ _ _ _ ?_ ?_ | exact leE.refl _ | (refine leV_eq _ _ ?_; simp; done) | rfl | (simp [mapV_nil]; done)))

end Go.Proofs.YtdhpmkaggojgbaaDoor.E8
