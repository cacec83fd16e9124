/- Cells: the reference's Axes and Pick. -/
import Derived.Test.YtoobaeebgnbpjaaB5
namespace Go.Proofs.Ytoobaeebgnbpjaa.B6
open Go Go.Proofs.Ytoobaeebgnbpjaa.Eng Go.Proofs.Ytoobaeebgnbpjaa Go.RowKit Go.Proofs.Ytoobaeebgnbpjaa.A1 Go.Proofs.Ytoobaeebgnbpjaa.A2 Go.Proofs.Ytoobaeebgnbpjaa.A3 Go.Proofs.Ytoobaeebgnbpjaa.A4 Go.Proofs.Ytoobaeebgnbpjaa.A5 Go.Proofs.Ytoobaeebgnbpjaa.B1 Go.Proofs.Ytoobaeebgnbpjaa.B2 Go.Proofs.Ytoobaeebgnbpjaa.B5
set_option linter.unusedSimpArgs false
set_option linter.unusedVariables false
set_option maxRecDepth 100000

theorem refAxes (ax : List Int) (n : Int) (ha : ax.length ≤ 1000000) : Meets Try.prog 39 [ints ax, I n] (B (axsE n none ax)) := by
  refine meets_of (X := false) Ty.mixed Try.func39 (by kernel_rfl) rfl (by kernel_rfl) (by simp) ?_; rw [Try.ntmps39, Try.results39]
  simp only [awp_reg, awp_seq, awp_block, awp_loop, seqQ_n, awpOps_nil, awpOps_one, awpOp_is, putK_is, put_s, pureOp, apureO, aev, cv, cvc, argT, ↓reduceIte, Nat.zero_add]
  refine loop_k (fun k : Nat => k ≤ ax.length ∧ axsE n none ax = axsE n (pv ax k) (ax.drop k)) (fun k => ⟨41, [(5, I k), (0, ints ax), (1, I n)], []⟩) (fun k => ax.length - k) 0 ⟨Nat.zero_le _, rfl⟩ (by simp only [slot_is, aev, cv, cvc, Weak, ↓reduceIte, Bool.and_true, Bool.and_self, and_true, and_self, reduceCtorEq, Nat.reduceEqDiff]; simp) rfl rfl ?_
  rintro k ⟨hk, hi⟩ K hK
  simp only at hK
  simp only [awp_reg, awp_seq, awp_cond, seqQ_n, awpOps_nil, awpOps_one, awpOp_is, putK_is, put_s, slot_is, pureOp, apureO, aev, cv, cvc, binK, elO_s, lenA, lenK, ↓reduceIte, Bool.true_and, true_and, reduceCtorEq, Nat.reduceEqDiff, Option.isSome_some, Ty.td22, List.length_map]
  refine condA_dec (fun hlt => ?_) (fun hge => ?_)
  · have hlt' : k < ax.length := by omega
    have hx : ax[k]? = some ax[k] := List.getElem?_eq_getElem hlt'
    rw [List.drop_eq_getElem_cons hlt'] at hi
    have hnext : pv ax (k + 1) = some ax[k] := hx
    generalize ax[k] = x at *
    by_cases h1 : x < 0
    · have h0 : axsE n none ax = false := by
        rw [hi]
        cases pv ax k <;> simp [axsE, h1]
      simp only [awp_skip, awp_reg, awp_regD, awp_seq, awp_cond, awp_block, awp_ret, seqQ_n, seqQ_r, loopQ_r, blkQ_r, awpOps_nil, awpOps_one, awpOpsD_nil, awpOpsD_one, awpOpsD_if, awpOp_is, awpOpD_is, lastOnly_nil, lastOnly_cons, putK_is, put_s, slot_is, retA_is, keepOp, pureOp, apureO, aev, cv, cvc, binK, elO_s, loadA_d, yieldA, guardA_no, guardA_ft, condA_t, pickA_t, toD_c, notExit, resA_nil, resA_tmp, oneA_1, Int.natCast_nonneg, Bool.false_eq_true, ↓reduceIte, List.getElem?_cons_zero, List.getElem?_cons_succ, List.getElem?_toArray, Option.bind_some, Option.map_some, Bool.and_true, Bool.true_and, Bool.and_self, true_and, and_true, and_self, reduceCtorEq, Nat.reduceEqDiff, Int.toNat_natCast, decide_true, Ty.td3, Ty.td22, List.getElem?_map, hx, h1, h0]
    by_cases h2 : n ≤ x
    · have h0 : axsE n none ax = false := by
        rw [hi]
        cases pv ax k <;> simp [axsE, h2]
      simp only [awp_skip, awp_reg, awp_regD, awp_seq, awp_cond, awp_block, awp_ret, seqQ_n, seqQ_r, loopQ_r, blkQ_r, awpOps_nil, awpOps_one, awpOpsD_nil, awpOpsD_one, awpOpsD_if, awpOp_is, awpOpD_is, awpOD_is, lastOnly_nil, lastOnly_cons, putK_is, put_s, slot_is, retA_is, keepOp, pureOp, apureO, aev, cv, cvc, binK, elO_s, loadA_d, yieldA, guardA_no, guardA_ft, guardA_ff, condA_t, pickA_t, pickA_f, toD_c, notExit, resA_nil, resA_tmp, oneA_1, Int.natCast_nonneg, Bool.false_eq_true, ↓reduceIte, List.getElem?_cons_zero, List.getElem?_cons_succ, List.getElem?_toArray, Option.bind_some, Option.map_some, Bool.and_true, Bool.true_and, Bool.and_self, true_and, and_true, and_self, reduceCtorEq, Nat.reduceEqDiff, Int.toNat_natCast, decide_true, decide_false, Ty.td3, Ty.td22, List.getElem?_map, hx, h1, h2, h0]
    cases k with
    | zero =>
      simp only [pv, axsE, h1, h2, decide_false, Bool.not_false, Bool.true_and] at hi
      simp only [awp_skip, awp_reg, awp_regD, awp_seq, awp_cond, awp_block, seqQ_n, loopQ_n, blkQ_n, awpOps_nil, awpOps_one, awpOpsD_nil, awpOpsD_one, awpOpsD_if, awpOp_is, awpOpD_is, awpOD_is, lastOnly_nil, lastOnly_cons, putK_is, put_s, slot_is, keepOp, pureOp, apureO, aev, cv, cvc, binK, elO_s, loadA_d, yieldA, guardA_tf, guardA_ff, condA_f, pickA_f, Int.natCast_nonneg, Bool.false_eq_true, ↓reduceIte, List.getElem?_cons_zero, List.getElem?_cons_succ, List.getElem?_toArray, Option.bind_some, Option.map_some, Bool.true_and, true_and, reduceCtorEq, Nat.reduceEqDiff, Int.toNat_natCast, decide_false, Ty.td3, Ty.td22, List.getElem?_map, hx, h1, h2, show ¬ (0 : Int) < ((0 : Nat) : Int) by simp, wrap_in (x := ((0 : Nat) : Int) + 1) (by omega) (by omega)]
      refine hK 1 _ ⟨hlt', by rw [hnext]; exact hi⟩ (by omega) ?_ rfl rfl
      simp only [slot_is, aev, cv, cvc, Weak, ↓reduceIte, Bool.and_true, Bool.and_self, and_true, and_self, reduceCtorEq, Nat.reduceEqDiff]
      simp
    | succ j =>
      have hj : ax[j]? = some ax[j] := List.getElem?_eq_getElem (by omega)
      have hp : pv ax (j + 1) = some ax[j] := hj
      rw [hp] at hi
      generalize ax[j] = y at *
      have hw : IntKind.i64.wrap (((j + 1 : Nat) : Int) - 1) = (j : Int) := by rw [wrap_in (by omega) (by omega)]; omega
      have hw2 : IntKind.i64.wrap (((j + 1 : Nat) : Int) + 1) = ((j + 1 + 1 : Nat) : Int) := by rw [wrap_in (by omega) (by omega)]; omega
      have hpos : (0 : Int) < ((j + 1 : Nat) : Int) := by omega
      by_cases h4 : x ≤ y
      · have h0 : axsE n none ax = false := by
          rw [hi]
          simp [axsE, h4]
        simp only [awp_skip, awp_reg, awp_regD, awp_seq, awp_cond, awp_block, awp_ret, seqQ_n, seqQ_r, loopQ_r, blkQ_r, awpOps_nil, awpOps_one, awpOpsD_nil, awpOpsD_one, awpOpsD_if, awpOp_is, awpOpD_is, awpOD_is, lastOnly_nil, lastOnly_cons, putK_is, put_s, slot_is, retA_is, keepOp, pureOp, apureO, aev, cv, cvc, binK, elO_s, loadA_d, yieldA, guardA_tt, guardA_ff, condA_t, pickA_t, pickA_f, toD_c, notExit, resA_nil, resA_tmp, oneA_1, Int.natCast_nonneg, Bool.false_eq_true, ↓reduceIte, List.getElem?_cons_zero, List.getElem?_cons_succ, List.getElem?_toArray, Option.bind_some, Option.map_some, Bool.and_true, Bool.true_and, Bool.and_self, true_and, and_true, and_self, reduceCtorEq, Nat.reduceEqDiff, Int.toNat_natCast, decide_true, decide_false, Ty.td3, Ty.td22, List.getElem?_map, hx, hj, h1, h2, h4, h0, hw, hpos]
      simp only [axsE, h1, h2, h4, decide_false, Bool.not_false, Bool.true_and] at hi
      simp only [awp_skip, awp_reg, awp_regD, awp_seq, awp_cond, awp_block, seqQ_n, loopQ_n, blkQ_n, awpOps_nil, awpOps_one, awpOpsD_nil, awpOpsD_one, awpOpsD_if, awpOp_is, awpOpD_is, awpOD_is, lastOnly_nil, lastOnly_cons, putK_is, put_s, slot_is, keepOp, pureOp, apureO, aev, cv, cvc, binK, elO_s, loadA_d, yieldA, guardA_tt, guardA_ff, condA_f, pickA_t, pickA_f, Int.natCast_nonneg, Bool.false_eq_true, ↓reduceIte, List.getElem?_cons_zero, List.getElem?_cons_succ, List.getElem?_toArray, Option.bind_some, Option.map_some, Bool.true_and, true_and, reduceCtorEq, Nat.reduceEqDiff, Int.toNat_natCast, decide_true, decide_false, Ty.td3, Ty.td22, List.getElem?_map, hx, hj, h1, h2, h4, hw, hw2, hpos]
      refine hK (j + 1 + 1) _ ⟨hlt', by rw [hnext]; exact hi⟩ (by omega) ?_ rfl rfl
      simp only [slot_is, aev, cv, cvc, Weak, ↓reduceIte, Bool.and_self, and_self, reduceCtorEq, Nat.reduceEqDiff]
  · have hk' : k = ax.length := by omega
    subst hk'
    rw [List.drop_length] at hi
    rw [show axsE n (pv ax ax.length) [] = true by cases pv ax ax.length <;> rfl] at hi
    simp only [awp_reg, awp_seq, awp_exit, awp_ret, seqQ_n, seqQ_e, loopQ_e, blkQ_e, awpOps_nil, awpOps_one, awpOp_is, putK_is, put_s, slot_is, retA_is, pureOp, apureO, aev, cv, cvc, toD_c, notExit, resA_nil, resA_tmp, oneA_1, ↓reduceIte, Bool.and_self, and_self, hi]

theorem refPick (l ax : List Int) (hl : l.length ≤ 1000000) (ha : ax.length ≤ 1000000) : Meets Try.prog 20 [ints l, ints ax] (two' (pickE l ax)) := by
  refine Meets.weak (r0 := .tup [ivR (pickE l ax).1, B (pickE l ax).2]) ?_ two_imp
  unfold pickE
  have hq := refAxes ax l.length ha
  have hm := axsE_mem l.length none ax
  generalize axsE l.length none ax = q at *
  refine meets_of (X := false) Ty.mixed Try.func20 (by kernel_rfl) rfl (by kernel_rfl) (by simp) ?_; rw [Try.ntmps20, Try.results20]
  simp only [awp_reg, awp_seq, seqQ_n, awpOps_nil, awpOps_one, awpOp_is, isCallV, callW_is, callV_is, putK_is, put_s, slot_is, pureOp, apureO, aev, cv, cvc, elO_s, lenA, lenK, argT, Bool.false_eq_true, ↓reduceIte, List.map_cons, List.map_nil, List.append_nil, Bool.true_and, true_and, reduceCtorEq, Nat.reduceEqDiff, Nat.zero_add, Option.isSome_some, Ty.td22, List.length_map]
  cases q with
  | false => refine call_meets (hq) (by simp only [aev, cv, cvc, toD_c, toD_sl, consO_some, toDL_nil, toDL_cons, ivR]) ?_; simp only [awp_reg, awp_seq, awp_cond, awp_ret, seqQ_n, seqQ_r, awpOps_nil, awpOps_one, awpOp_is, putK_is, put_s, upd_s, slot_is, retA_is, pureOp, apureO, killT, aev, cv, cvc, condA_t, flat_c, ownsV_c, ownsV_sl, ownsL_nil, ownsL_cons, toD_c, toD_nils, toD_tup, consO_some, toDL_nil, toDL_cons, notExit, resA_nil, resA_tmp, oneA_2, Bool.false_eq_true, ↓reduceIte, List.append_nil, Option.map_some, Bool.and_self, Bool.or_true, Bool.not_false, and_self, Nat.reduceEqDiff, List.isEmpty_nil, ivR]
  | true =>
  refine call_meets (hq) (by simp only [aev, cv, cvc, toD_c, toD_sl, consO_some, toDL_nil, toDL_cons]) ?_; simp only [awp_skip, awp_reg, awp_seq, awp_cond, awp_block, awp_loop, seqQ_n, awpOps_nil, awpOps_one, awpOp_is, putK_is, put_s, upd_s, slot_is, pureOp, apureO, killT, aev, cv, cvc, condA_f, flat_c, ownsV_c, ownsV_sl, ownsL_nil, ownsL_cons, ↓reduceIte, List.append_nil, Bool.or_true, Bool.not_true, List.isEmpty_nil]
  refine loop_g (fun x : Nat × List Int => x.1 ≤ ax.length ∧ x.2 = (ax.take x.1).map (getE l)) (fun x => ⟨30, [(7, I x.1), (6, ivV 1 x.2), (0, ints l), (1, ints ax)], ivH [none] x.2⟩) (fun x => ax.length - x.1) (0, []) ⟨Nat.zero_le _, rfl⟩ (by simp only [slot_is, aev, cv, cvc, Weak, ↓reduceIte, Bool.and_true, Bool.and_self, and_true, and_self, reduceCtorEq, Nat.reduceEqDiff, ivV]; simp) rfl (.inl rfl) ?_
  rintro ⟨k, acc⟩ ⟨hk, hacc⟩ K hK
  simp only at hk hacc hK
  simp only [awp_reg, awp_seq, awp_cond, seqQ_n, awpOps_nil, awpOps_one, awpOp_is, putK_is, put_s, slot_is, pureOp, apureO, aev, cv, cvc, binK, elO_s, lenA, lenK, ↓reduceIte, Bool.true_and, true_and, reduceCtorEq, Nat.reduceEqDiff, Option.isSome_some, Ty.td22, List.length_map]
  refine condA_dec (fun hlt => ?_) (fun hge => ?_)
  · have hlt' : k < ax.length := by omega
    have hx : ax[k]? = some ax[k] := List.getElem?_eq_getElem hlt'
    have hstep := take_map (l := l) hlt'
    have hal : acc.length = k := by rw [hacc]; simp; omega
    have hmx := hm rfl ax[k] (List.getElem_mem _)
    generalize ax[k] = x at *
    have hget : l[x.toNat]? = some (getE l x) := by
      unfold getE
      rw [List.getD_eq_getElem?_getD, List.getElem?_eq_getElem (by omega)]
      rfl
    have h3 : 0 ≤ x := hmx.1
    cases acc with
    | nil =>
      simp only [awp_skip, awp_reg, awp_seq, awp_block, seqQ_n, loopQ_n, blkQ_n, awpOps_nil, awpOps_one, awpOp_is, isCallV, putK_is, updK_is, put_s, upd_s, slot_is, slot.eq_1, pureOp, apureO, astepO, bsEnd_is, appA_own, appV, killT, aev, cv, cvc, binK, elO_s, loadA_d, cellsA, cellOk, setAll, fillA, elemsA, elemsN, chunk, isD_c, isDL_nil, isDL_cons, Int.natCast_nonneg, Bool.false_eq_true, ↓reduceIte, List.getElem?_cons_zero, List.length_cons, List.length_nil, List.map_cons, List.map_nil, List.cons_append, List.nil_append, List.set_cons_zero, Option.map_some, Option.getD_some, List.take_succ_cons, List.drop_zero, List.all_cons, List.all_nil, Bool.and_true, Bool.true_and, Bool.and_self, Value.oneCell', true_and, and_true, and_self, reduceCtorEq, Nat.reduceMul, Nat.reduceLT, Nat.reduceLeDiff, Nat.reduceEqDiff, Nat.reduceMod, Nat.zero_add, Int.toNat_natCast, List.range_succ, List.range_zero, Nat.le_refl, List.take_nil, Ty.td3, Ty.td22, List.getElem?_map, hx, hget, h3, ivV, ivH, wrap_in (x := (k : Int) + 1) (by omega) (by omega)]
      refine hK (k + 1, [getE l x]) _ ⟨hlt', by rw [hstep, ← hacc]; rfl⟩ (by simp; omega) ?_ rfl (.weak (by simp [ivH]) (by simp [WeakH, ivH]) rfl rfl)
      simp only [slot_is, aev, cv, cvc, Weak, ↓reduceIte, List.length_nil, Bool.and_true, Bool.and_self, and_true, and_self, reduceCtorEq, Nat.reduceEqDiff, Nat.zero_add, ivV]
      simp
    | cons b bs =>
      simp only [List.length_cons] at hal
      have hbt : List.take bs.length (List.map enc bs) = List.map enc bs := List.take_of_length_le (by simp)
      simp only [awp_skip, awp_reg, awp_seq, awp_block, seqQ_n, loopQ_n, blkQ_n, awpOps_nil, awpOps_one, awpOp_is, isCallV, putK_is, updK_is, put_s, upd_s, slot_is, slot.eq_1, pureOp, apureO, astepO, bsEnd_is, appA_own, appV, killT, killB, killH, aev, cv, cvc, binK, elO_s, loadA_d, cellsA, cellOk, setAll, fillA, elemsA, elemsN, rowE, chunk, isD_c, isDL_nil, isDL_cons, killV_c, killV_sl, killV_own, killV_dptr, Int.natCast_nonneg, Bool.false_eq_true, ↓reduceIte, List.getElem?_cons_zero, List.getElem?_cons_succ, List.length_cons, List.length_nil, List.map_cons, List.map_nil, List.cons_append, List.nil_append, List.set_cons_zero, List.set_cons_succ, Option.map_some, Option.map_none, Option.getD_some, List.take_succ_cons, List.drop_zero, List.all_cons, List.all_nil, Bool.and_true, Bool.true_and, Bool.and_self, Bool.or_false, Value.oneCell', true_and, and_true, and_self, reduceCtorEq, Nat.reduceAdd, Nat.reduceMul, Nat.reduceLT, Nat.reduceLeDiff, Nat.reduceEqDiff, Nat.reduceMod, Nat.zero_add, List.mem_cons, List.not_mem_nil, or_false, Int.toNat_natCast, List.range_succ, List.range_zero, Nat.le_refl, List.take_nil, List.getElem?_nil, Ty.td3, Ty.td22, List.getElem?_map, hx, hget, h3, hbt, ivV, ivH, List.length_map, wrap_in (x := (k : Int) + 1) (by omega) (by omega)]
      refine ⟨by omega, by omega, ?_⟩
      refine hK (k + 1, b :: (bs ++ [getE l x])) _ ⟨hlt', by rw [hstep, ← hacc]; rfl⟩ (by simp; omega) ?_ rfl (.weak (by simp [ivH]) (by simp [WeakH, ivH]) rfl rfl)
      simp only [slot_is, aev, cv, cvc, Weak, ↓reduceIte, Bool.and_true, Bool.and_self, and_true, and_self, reduceCtorEq, Nat.reduceEqDiff, ivV]
      simp
  · have hk' : k = ax.length := by omega
    subst hk'
    rw [List.take_length] at hacc
    cases acc with
    | nil => simp only [awp_reg, awp_seq, awp_exit, awp_ret, seqQ_n, seqQ_e, loopQ_e, blkQ_e, awpOps_nil, awpOps_one, awpOp_is, putK_is, put_s, slot_is, retA_is, pureOp, apureO, aev, cv, cvc, toD_c, toD_nils, toD_tup, consO_some, toDL_nil, toDL_cons, notExit, resA_nil, resA_tmp, oneA_2, ↓reduceIte, Option.map_some, Bool.and_self, and_self, Nat.reduceEqDiff, ivV, ivH, ivR, ← hacc]
    | cons b bs =>
      have hbt : List.take bs.length (List.map enc bs) = List.map enc bs := List.take_of_length_le (by simp)
      simp only [awp_reg, awp_seq, awp_exit, awp_ret, seqQ_n, seqQ_e, loopQ_e, blkQ_e, awpOps_nil, awpOps_one, awpOp_is, putK_is, put_s, slot_is, retA_is, pureOp, apureO, aev, cv, cvc, elemsA, toD_c, toD_tup, toD_own, consO_some, toDL_nil, toDL_cons, notExit, resA_nil, resA_tmp, oneA_2, ↓reduceIte, List.getElem?_cons_zero, List.getElem?_cons_succ, List.length_cons, List.map_cons, List.cons_append, List.nil_append, Option.map_some, List.take_succ_cons, Bool.and_self, and_self, Nat.reduceEqDiff, Nat.le_refl, ivV, ivH, ivR, ← hacc, hbt, List.length_map, ints]
end Go.Proofs.Ytoobaeebgnbpjaa.B6
