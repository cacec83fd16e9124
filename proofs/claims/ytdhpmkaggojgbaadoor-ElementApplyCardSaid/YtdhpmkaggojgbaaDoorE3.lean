/- Scalar primitives: Types and Result, in the program. -/
import Derived.Test.YtdhpmkaggojgbaaDoorE1
namespace Go.Proofs.YtdhpmkaggojgbaaDoor.E3
open Go Go.Proofs.YtdhpmkaggojgbaaDoor.Eng Go.Proofs.YtdhpmkaggojgbaaDoor Go.RowKit Go.Proofs.YtdhpmkaggojgbaaDoor.E0 Go.Proofs.YtdhpmkaggojgbaaDoor.E1
set_option linter.unusedSimpArgs false
set_option linter.unusedVariables false
set_option linter.unusedSectionVars false
set_option maxRecDepth 100000

theorem cnt_le (r : Rw) : cntE r ≤ 3 := by rcases cnt_cases r with ⟨_, e⟩ | ⟨_, _, e⟩ | ⟨_, _, _, e⟩ | ⟨_, _, _, e⟩ <;> omega
theorem ptypes (op : ByteArray) : Meets Tryd.prog 15 [S op] (typesV op) := by
  unfold typesV params
  have hc := count (rowF op)
  have h3 := cnt_le (rowF op)
  generalize cntE (rowF op) = n at *
  have hf := find op
  generalize rowF op = r at *
  generalize (findR op).isSome = b at *
  obtain ⟨rn, ra, rb, rc, rr⟩ := r
  simp only at *
  refine meets_of (X := true) Ty.mixed Tryd.func15 (by kernel_rfl) rfl (by kernel_rfl) (by simp) ?_; rw [Tryd.ntmps15, Tryd.results15]
  simp only [awp_reg, awp_seq, seqQ_n, awpOps_nil, awpOps_one, awpOp_is, isCallV, callW_is, callV_is, putK_is, put_s, slot_is, pureOp, apureO, aev, cv, cvc, argT, isC, bsD, Bool.false_eq_true, ↓reduceIte, List.map_cons, List.map_nil, List.append_nil, reduceCtorEq]
  refine call_meets (hf) (by simp only [aev, cv, cvc, toD_c, consO_some, toDL_nil, toDL_cons, isC, bsD] <;> rfl) ?_; simp only [awp_regX, awp_seq, seqQ_n, awpOps_nil, awpOps_one, awpOp_is, isCallV, putK_is, updK_is, put_s, upd_n, upd_s, slot_is, pureOp, apureO, astepO, killT, aev, cv, cvc, elO_s, storeA, cellsA, cellOk, setAll, flat_c, flat_tup, flat_agg, flatL_nil, flatL_cons, ownsV_c, ownsL_nil, ownsL_cons, isC, bsD, Bool.false_eq_true, ↓reduceIte, List.getElem?_cons_zero, List.getElem?_cons_succ, List.length_cons, List.length_nil, List.map_cons, List.map_nil, List.nil_append, List.append_nil, List.set_cons_zero, List.set_cons_succ, List.all_cons, List.all_nil, Bool.true_and, Bool.and_self, Bool.or_true, Value.oneCell', true_and, and_self, Nat.reduceAdd, Nat.reduceEqDiff, Nat.zero_add, List.isEmpty_nil, Nat.le_refl, Ty.td49]
  refine drawF_wild [0] ?_
  simp (config := {maxSteps := 2000000}) only [isCallV, slot_is, pureOp, apureO, ptrD_is, killT, killH, aev, cv, cvc, elO_s, loadA_d, dropL, isD_c, isDL_nil, isDL_cons, killV_c, killV_nils, killV_tup, killV_agg, killV_ptr, killL_nil, killL_cons, isC, bsD, Bool.false_eq_true, ↓reduceIte, List.getElem?_cons_zero, List.getElem?_cons_succ, List.length_cons, List.length_nil, List.map_cons, List.map_nil, List.cons_append, List.nil_append, List.append_nil, Option.map_none, List.take_succ_cons, List.drop_succ_cons, List.drop_zero, List.all_nil, Bool.true_and, Bool.and_self, Bool.false_or, Bool.or_false, true_and, and_self, ne_eq, not_false_eq_true, reduceCtorEq, Nat.reduceAdd, Nat.reduceLeDiff, Nat.reduceEqDiff, Nat.zero_add, List.mem_cons, List.not_mem_nil, or_false, false_or, List.range_succ, List.range_zero, List.zipIdx_cons, List.zipIdx_nil, Nat.le_refl, List.drop_nil, List.take_nil, awpW_one, wRun_is, wOp_is, callXW_is, callXV_is, keepK_is, contW_is, nextW_s, confs_nil, confs_cons, conf_is, meet_nil, opV_move, opV_load, opV_fieldAddr, opV_call, tch_move, tch_load, tch_fieldAddr, rd_move, rd_load, rd_fieldAddr, rd_callv, namesV_c, namesV_nils, namesV_dptr, namesV_agg, namesV_fn, namesL_nil, namesL_cons, namesH_nil, namesH_cons, namesB_none, killO_n, allLt_is, maskH_is, mergeH_is, setH_is, newL_is, refsT, refsH, refsV, refsL, Bool.or_self, Ty.td47, Ty.td49, frz_is]
  refine callx_meets (hc) (by simp (config := {maxSteps := 2000000}) only [aev, cv, cvc, toD_c, toD_agg, consO_some, toDL_nil, toDL_cons, isC, bsD, Option.map_some] <;> rfl) (by simp (config := {maxSteps := 2000000}) only [aev, cv, cvc, flat_c, ownsV_c, ownsV_agg, ownsL_nil, ownsL_cons, isC, bsD, List.append_nil, List.isEmpty_nil, Bool.or_self]) ?_; simp (config := {maxSteps := 2000000}) only [awp_ret, seqQ_n, isCallV, slot_is, retA_is, pureOp, apureO, astepO, sliceA_dptr, sliceP_dptr, pureK_is, boundsA, appA_sl, appV, killT, killB, aev, cv, cvc, elO_s, loadA_d, elemsA, elemsN, chunk, toD_c, toD_tup, toD_agg, toD_own, consO_some, toDL_nil, toDL_cons, notExit, resA_nil, resA_tmp, oneA_2, isC, bsD, Int.natCast_nonneg, Bool.false_eq_true, ↓reduceIte, List.getElem?_cons_zero, List.getElem?_cons_succ, List.length_cons, List.length_nil, List.map_cons, List.map_nil, List.cons_append, List.nil_append, List.append_nil, Option.map_some, Option.map_none, List.take_succ_cons, List.take_zero, List.drop_succ_cons, List.drop_zero, List.all_cons, List.all_nil, Bool.true_and, Bool.and_self, Bool.or_true, Bool.false_or, Bool.or_false, true_and, and_self, ne_eq, not_false_eq_true, reduceCtorEq, Nat.reduceAdd, Nat.reduceMul, Nat.reduceLT, Nat.reduceLeDiff, Nat.reduceEqDiff, Nat.zero_add, Nat.sub_zero, List.not_mem_nil, or_false, false_or, Int.toNat_natCast, List.range_succ, List.range_zero, decide_true, List.zipIdx_cons, List.zipIdx_nil, Nat.le_refl, List.drop_nil, List.any_cons, List.any_nil, awpW_nil, awpW_one, wRun_is, wOp_is, keepK_is, stepK_is, contW_is, nextW_s, confs_nil, confs_cons, conf_is, meet_nil, meet_cons, opV_move, opV_assign, opV_load, opV_slice, opV_fieldAddr, opV_call, opV_builtin, tch_move, tch_assign, tch_load, tch_fieldAddr, tch_slice, tch_callv, tch_app, rd_move, rd_assign, rd_load, rd_fieldAddr, rd_slice, rd_callv, rd_app, namesV_c, namesV_nils, namesV_sl, namesV_dptr, namesV_own, namesV_agg, namesV_fn, namesL_nil, namesL_cons, namesH_nil, namesH_cons, namesB_row, namesB_none, killO_s, killO_n, allLt_is, maskH_is, mergeH_is, setH_is, newL_is, Option.toList_some, Option.toList_none, Bool.or_self, Nat.reduceBEq, Ty.td9, Ty.td26, Ty.td47, Ty.td49]
  have hlen : (List.take n [[S ra], [S rb], [S rc]]).length ≤ 3 := by rw [List.length_take]; simp only [List.length_cons, List.length_nil]; omega
  refine ⟨by omega, by omega, by omega, by kernel_rfl, ?_⟩
  simp only [aev, cv, cvc, isC, bsD, List.map_cons, List.map_nil, List.map_take, List.take_length]

/-! The type of a result. -/
def eqD (a b : ByteArray) : Bool := a.data.toList == b.data.toList
theorem eq_is (a b : ByteArray) : (a.toList == b.toList) = eqD a b := eqS a b
abbrev cI : ByteArray := ⟨#[105, 110, 116]⟩
abbrev cB : ByteArray := ⟨#[98, 111, 111, 108]⟩
abbrev cA : ByteArray := ⟨#[65]⟩
abbrev cE : ByteArray := ⟨#[]⟩
def resL : List (ByteArray × ByteArray) → ByteArray → Option ByteArray
  | [], ch => some ch
  | (w, p) :: r, ch =>
    if (!eqD p cI && !eqD p cB) = true then none
    else if eqD w cA = true then (if (!eqD ch cE && !eqD ch p) = true then none else resL r p)
    else if eqD w p = true then resL r ch else none
def resT (r : Rw) (ps : List ByteArray) : ByteArray × Bool :=
  match resL ([r.a, r.b, r.c].zip ps) cE with
  | none => (cE, false)
  | some ch => if eqD r.r cA = true then (ch, true) else (r.r, true)
def resE (op : ByteArray) (ps : List ByteArray) : ByteArray × Bool :=
  if (findR op).isSome = true then if ps.length = cntE (rowF op) then resT (rowF op) ps else (cE, false) else (cE, false)
abbrev txs (l : List ByteArray) : AV := .sl false 1 (l.map fun s => [S s])
theorem presult (op : ByteArray) (ps : List ByteArray) (hl : ps.length ≤ 1000) : Meets Tryd.prog 16 [S op, txs ps] (.tup [S (resE op ps).1, B (resE op ps).2]) := by
  unfold resE
  have hc := count (rowF op)
  have h3 := cnt_le (rowF op)
  have hf := find op
  generalize cntE (rowF op) = n at *
  generalize rowF op = r at *
  cases hb : (findR op).isSome with
  | false =>
    rw [hb] at hf
    refine meets_of (X := true) Ty.mixed Tryd.func16 (by kernel_rfl) rfl (by kernel_rfl) (by simp) ?_; rw [Tryd.ntmps16, Tryd.results16]
    simp only [awp_reg, awp_seq, seqQ_n, awpOps_nil, awpOps_one, awpOp_is, isCallV, callW_is, callV_is, putK_is, put_s, slot_is, pureOp, apureO, aev, cv, cvc, argT, isC, bsD, Bool.false_eq_true, ↓reduceIte, List.map_cons, List.map_nil, List.append_nil, reduceCtorEq, Nat.zero_add]
    refine call_meets (hf) (by simp only [aev, cv, cvc, toD_c, consO_some, toDL_nil, toDL_cons, isC, bsD] <;> rfl) ?_; simp only [awp_reg, awp_seq, awp_cond, awp_ret, seqQ_n, seqQ_r, awpOps_nil, awpOps_one, awpOps_if, awpOp_is, isCallV, putK_is, updK_is, put_s, upd_n, upd_s, slot_is, retA_is, pureOp, apureO, astepO, killT, aev, cv, cvc, elO_s, storeA, cellsA, cellOk, setAll, yieldA, guardA_ft, condA_t, pickA_t, flat_c, flat_tup, flat_agg, flatL_nil, flatL_cons, ownsV_c, ownsL_nil, ownsL_cons, toD_c, toD_tup, consO_some, toDL_nil, toDL_cons, notExit, resA_nil, resA_tmp, oneA_2, isC, bsD, Bool.false_eq_true, ↓reduceIte, List.getElem?_cons_zero, List.getElem?_cons_succ, List.length_cons, List.length_nil, List.map_cons, List.map_nil, List.nil_append, List.append_nil, List.set_cons_zero, List.getElem?_toArray, Option.bind_some, Option.map_some, List.all_cons, List.all_nil, Bool.and_true, Bool.true_and, Bool.and_self, Bool.or_true, Bool.not_false, Value.oneCell', true_and, and_true, and_self, Nat.reduceAdd, Nat.reduceEqDiff, Nat.zero_add, List.isEmpty_nil, Nat.le_refl, Ty.td49]
  | true =>
    rw [hb] at hf
    simp only [if_true]
    by_cases hn : ps.length = n
    case neg =>
      rw [if_neg hn]
      refine meets_of (X := true) Ty.mixed Tryd.func16 (by kernel_rfl) rfl (by kernel_rfl) (by simp) ?_; rw [Tryd.ntmps16, Tryd.results16]
      simp only [awp_reg, awp_seq, seqQ_n, awpOps_nil, awpOps_one, awpOp_is, isCallV, callW_is, callV_is, putK_is, put_s, slot_is, pureOp, apureO, aev, cv, cvc, argT, isC, bsD, Bool.false_eq_true, ↓reduceIte, List.map_cons, List.map_nil, List.append_nil, reduceCtorEq, Nat.zero_add]
      refine call_meets (hf) (by simp only [aev, cv, cvc, toD_c, consO_some, toDL_nil, toDL_cons, isC, bsD] <;> rfl) ?_; simp only [awp_reg, awp_seq, seqQ_n, awpOps_nil, awpOps_one, awpOps_if, awpOp_is, isCallV, callW_is, callV_is, awpO_is, putK_is, updK_is, put_s, upd_n, upd_s, slot_is, pureOp, apureO, astepO, killT, aev, cv, cvc, elO_s, lenA, lenK, loadA_p, storeA, cellsA, cellOk, setAll, yieldA, guardA_ff, flat_c, flat_tup, flat_agg, flatL_nil, flatL_cons, ownsV_c, ownsL_nil, ownsL_cons, mlenA_sl, isC, bsD, Bool.false_eq_true, ↓reduceIte, List.getElem?_cons_zero, List.getElem?_cons_succ, List.length_cons, List.length_nil, List.map_cons, List.map_nil, List.nil_append, List.append_nil, List.set_cons_zero, List.set_cons_succ, List.getElem?_toArray, Option.bind_some, List.take_succ_cons, List.drop_zero, List.all_cons, List.all_nil, Bool.true_and, Bool.and_self, Bool.or_true, Bool.not_true, Value.oneCell', true_and, and_self, reduceCtorEq, Nat.reduceAdd, Nat.reduceEqDiff, Nat.zero_add, List.isEmpty_nil, Option.isSome_some, Nat.le_refl, List.take_nil, Ty.td26, Ty.td49]
      refine call_meets (hc) (by simp only [aev, cv, cvc, toD_c, toD_agg, consO_some, toDL_nil, toDL_cons, isC, bsD, Option.map_some] <;> rfl) ?_; simp only [awp_cond, seqQ_n, awpOps_nil, awpOps_one, awpOps_if, awpOp_is, awpO_is, putK_is, put_s, upd_s, slot_is, pureOp, apureO, killT, aev, cv, cvc, binK, yieldA, guardA_ff, pickA_f, flat_c, ownsV_c, ownsV_agg, ownsL_nil, ownsL_cons, isC, bsD, ↓reduceIte, List.getElem?_cons_zero, List.getElem?_cons_succ, List.append_nil, List.getElem?_toArray, Option.bind_some, Bool.true_and, Bool.or_true, true_and, Nat.reduceEqDiff, List.isEmpty_nil]
      simp only [awp_reg, awp_seq, awp_ret, seqQ_n, seqQ_r, awpOps_nil, awpOps_one, awpOp_is, putK_is, put_s, slot_is, retA_is, pureOp, apureO, aev, cv, cvc, condA_t, toD_c, toD_tup, consO_some, toDL_nil, toDL_cons, notExit, resA_nil, resA_tmp, oneA_2, isC, bsD, ↓reduceIte, Option.map_some, Bool.and_self, and_self, Nat.reduceEqDiff, List.length_map, show ((ps.length : Int) != (n : Int)) = true from bne_iff_ne.2 (by omega)]
    rw [if_pos hn]
    subst hn
    have hz : ([r.a, r.b, r.c].zip ps).length = ps.length := by rw [List.length_zip]; simp only [List.length_cons, List.length_nil]; omega
    have hzi : ∀ i w p, ([r.a, r.b, r.c].zip ps)[i]? = some (w, p) → (rwV r)[1 + i * 1]? = some (S w) ∧ ps[i]? = some p := by
      intro i w p h
      rw [List.getElem?_zip_eq_some] at h
      refine ⟨?_, h.2⟩
      have := h.1
      match i, this with
      | 0, h => cases h; rfl
      | 1, h => cases h; rfl
      | 2, h => cases h; rfl
    unfold resT
    generalize [r.a, r.b, r.c].zip ps = zs at *
    refine meets_of (X := true) Ty.mixed Tryd.func16 (by kernel_rfl) rfl (by kernel_rfl) (by simp) ?_; rw [Tryd.ntmps16, Tryd.results16]
    simp only [awp_reg, awp_seq, seqQ_n, awpOps_nil, awpOps_one, awpOp_is, isCallV, callW_is, callV_is, putK_is, put_s, slot_is, pureOp, apureO, aev, cv, cvc, argT, isC, bsD, Bool.false_eq_true, ↓reduceIte, List.map_cons, List.map_nil, List.append_nil, reduceCtorEq, Nat.zero_add]
    refine call_meets (hf) (by simp only [aev, cv, cvc, toD_c, consO_some, toDL_nil, toDL_cons, isC, bsD] <;> rfl) ?_; simp only [awp_reg, awp_seq, seqQ_n, awpOps_nil, awpOps_one, awpOps_if, awpOp_is, isCallV, callW_is, callV_is, awpO_is, putK_is, updK_is, put_s, upd_n, upd_s, slot_is, pureOp, apureO, astepO, killT, aev, cv, cvc, elO_s, lenA, lenK, loadA_p, storeA, cellsA, cellOk, setAll, yieldA, guardA_ff, flat_c, flat_tup, flat_agg, flatL_nil, flatL_cons, ownsV_c, ownsL_nil, ownsL_cons, mlenA_sl, isC, bsD, Bool.false_eq_true, ↓reduceIte, List.getElem?_cons_zero, List.getElem?_cons_succ, List.length_cons, List.length_nil, List.map_cons, List.map_nil, List.nil_append, List.append_nil, List.set_cons_zero, List.set_cons_succ, List.getElem?_toArray, Option.bind_some, List.take_succ_cons, List.drop_zero, List.all_cons, List.all_nil, Bool.true_and, Bool.and_self, Bool.or_true, Bool.not_true, Value.oneCell', true_and, and_self, reduceCtorEq, Nat.reduceAdd, Nat.reduceEqDiff, Nat.zero_add, List.isEmpty_nil, Option.isSome_some, Nat.le_refl, List.take_nil, Ty.td26, Ty.td49]
    refine call_meets (hc) (by simp only [aev, cv, cvc, toD_c, toD_agg, consO_some, toDL_nil, toDL_cons, isC, bsD, Option.map_some] <;> rfl) ?_; simp only [awp_cond, seqQ_n, awpOps_nil, awpOps_one, awpOps_if, awpOp_is, awpO_is, putK_is, put_s, upd_s, slot_is, pureOp, apureO, killT, aev, cv, cvc, binK, yieldA, guardA_ff, pickA_f, flat_c, ownsV_c, ownsV_agg, ownsL_nil, ownsL_cons, isC, bsD, ↓reduceIte, List.getElem?_cons_zero, List.getElem?_cons_succ, List.append_nil, List.getElem?_toArray, Option.bind_some, Bool.true_and, Bool.or_true, true_and, Nat.reduceEqDiff, List.isEmpty_nil]
    simp only [awp_skip, awp_reg, awp_seq, awp_block, awp_loop, seqQ_n, awpOps_nil, awpOps_one, awpOp_is, putK_is, put_s, slot_is, pureOp, apureO, aev, cv, cvc, elO_s, lenA, lenK, condA_f, mlenA_sl, isC, bsD, ↓reduceIte, Bool.true_and, true_and, reduceCtorEq, Nat.reduceEqDiff, Option.isSome_some, Ty.td26, List.length_map, bne_self_eq_false]
    refine loop_g (fun z : Nat × ByteArray => z.1 ≤ ps.length ∧ resL zs cE = resL (zs.drop z.1) z.2) (fun z => ⟨73, [(27, I z.1), (26, I ps.length), (25, txs ps), (8, S z.2), (6, .ptr 0 0), (5, B false), (4, S ⟨#[]⟩)], [some (.var 49 (rwV r))]⟩) (fun z => ps.length - z.1) (0, cE) ⟨Nat.zero_le _, rfl⟩ (by simp only [slot_is, aev, cv, cvc, Weak, isC, bsD, ↓reduceIte, Bool.and_true, Bool.and_self, and_true, and_self, Nat.reduceEqDiff]; simp) rfl (.inl rfl) ?_
    rintro ⟨i, ch⟩ ⟨hi, he⟩ K hK
    simp only at hi he ⊢
    by_cases hlt : i < ps.length
    case neg =>
      have h0 : zs.drop i = [] := List.drop_eq_nil_of_le (by omega)
      rw [h0, resL] at he
      rw [he]
      simp only
      cases hA : eqD r.r cA with
      | true =>
        simp only [awp_reg, awp_seq, awp_cond, awp_exit, awp_ret, seqQ_n, seqQ_r, seqQ_e, loopQ_e, blkQ_e, awpOps_nil, awpOps_one, awpOp_is, putK_is, put_s, slot_is, retA_is, pureOp, apureO, aev, cv, cvc, binK, elO_s, loadA_p, condA_t, condA_f, toD_c, toD_tup, consO_some, toDL_nil, toDL_cons, notExit, resA_nil, resA_tmp, oneA_2, isC, bsD, Bool.false_eq_true, ↓reduceIte, List.getElem?_cons_zero, List.getElem?_cons_succ, List.length_cons, List.length_nil, Option.map_some, Bool.and_true, Bool.and_self, and_true, and_self, ne_eq, not_false_eq_true, reduceCtorEq, Nat.reduceAdd, Nat.reduceEqDiff, Nat.zero_add, Ty.td9, Ty.td49, show decide ((i : Int) < (ps.length : Int)) = false from decide_eq_false (by omega), eq_is, hA]
      | false =>
        simp only [awp_skip, awp_reg, awp_seq, awp_cond, awp_exit, awp_ret, seqQ_n, seqQ_e, loopQ_e, blkQ_e, awpOps_nil, awpOps_one, awpOp_is, putK_is, put_s, slot_is, retA_is, pureOp, apureO, aev, cv, cvc, binK, elO_s, loadA_p, condA_f, toD_c, toD_tup, toD_agg, consO_some, toDL_nil, toDL_cons, notExit, resA_nil, resA_tmp, oneA_2, isC, bsD, Bool.false_eq_true, ↓reduceIte, List.getElem?_cons_zero, List.getElem?_cons_succ, List.length_cons, List.length_nil, Option.map_some, Bool.and_true, Bool.true_and, Bool.and_self, true_and, and_true, and_self, ne_eq, not_false_eq_true, reduceCtorEq, Nat.reduceAdd, Nat.reduceEqDiff, Nat.zero_add, Ty.td9, Ty.td49, show decide ((i : Int) < (ps.length : Int)) = false from decide_eq_false (by omega), eq_is, hA]
    have hlt2 : i < zs.length := by omega
    have hzt : zs[i]? = some zs[i] := List.getElem?_eq_getElem hlt2
    rw [List.drop_eq_getElem_cons hlt2] at he
    generalize zs[i] = wp at *
    obtain ⟨w, p⟩ := wp
    obtain ⟨hw, hp⟩ := hzi i w p hzt
    simp only [awp_skip, awp_reg, awp_seq, awp_cond, awp_block, seqQ_n, awpOps_nil, awpOps_one, awpOps_if, awpOp_is, putK_is, put_s, slot_is, pureOp, apureO, aev, cv, cvc, binK, elO_s, loadA_d, yieldA, condA_t, isC, bsD, Int.natCast_nonneg, Bool.false_eq_true, ↓reduceIte, List.getElem?_cons_zero, List.getElem?_cons_succ, List.getElem?_toArray, Option.bind_some, Option.map_some, Bool.true_and, true_and, Nat.reduceEqDiff, Int.toNat_natCast, Ty.td9, Ty.td26, show decide ((i : Int) < (ps.length : Int)) = true from decide_eq_true (by omega), List.getElem?_map, hp]
    have hi3 : (i < 3) = True := eq_true (by omega)
    cases h1 : eqD p cI with
    | true =>
      cases h3 : eqD w cA with
      | true =>
        cases h4 : eqD ch cE with
        | true =>
          simp only [resL, h1, h3, h4, Bool.not_false, Bool.not_true, Bool.and_self, Bool.and_true, Bool.and_false, Bool.true_and, Bool.false_and, Bool.false_eq_true, if_true, if_false] at he
          simp only [awp_skip, awp_reg, awp_seq, awp_cond, seqQ_n, loopQ_n, blkQ_n, awpOps_nil, awpOps_one, awpOps_if, awpOp_is, awpO_is, putK_is, put_s, slot_is, pureOp, apureO, aev, cv, cvc, binK, elO_s, loadA_p, yieldA, guardA_tf, guardA_ff, condA_t, condA_f, pickA_f, isC, bsD, Int.natCast_nonneg, Bool.false_eq_true, ↓reduceIte, List.getElem?_cons_zero, List.getElem?_cons_succ, List.length_cons, List.length_nil, List.getElem?_toArray, Option.bind_some, Bool.true_and, Bool.not_true, true_and, ne_eq, not_false_eq_true, reduceCtorEq, Nat.reduceAdd, Nat.reduceEqDiff, Nat.zero_add, Int.toNat_natCast, Ty.td9, Ty.td47, Ty.td49, eq_is, hw, hp, hi3, true_and, h1, h3, h4]
          rw [wrap_in (x := (i : Int) + 1) (by omega) (by omega)]
          refine hK (i + 1, p) _ ⟨by simp only; omega, he⟩ (by simp only; omega) ?_ rfl (.inl rfl)
          simp only [slot_is, aev, cv, cvc, Weak, isC, bsD, ↓reduceIte, Bool.and_true, Bool.and_self, and_true, and_self, Nat.reduceEqDiff]
          simp
        | false =>
          cases h5 : eqD ch p with
          | true =>
            simp only [resL, h1, h3, h4, h5, Bool.not_false, Bool.not_true, Bool.and_self, Bool.and_true, Bool.and_false, Bool.true_and, Bool.false_and, Bool.false_eq_true, if_true, if_false] at he
            simp only [awp_skip, awp_reg, awp_seq, awp_cond, seqQ_n, loopQ_n, blkQ_n, awpOps_nil, awpOps_one, awpOps_if, awpOp_is, awpO_is, putK_is, put_s, slot_is, pureOp, apureO, aev, cv, cvc, binK, elO_s, loadA_p, yieldA, guardA_tt, guardA_tf, guardA_ff, condA_t, condA_f, pickA_t, pickA_f, isC, bsD, Int.natCast_nonneg, Bool.false_eq_true, ↓reduceIte, List.getElem?_cons_zero, List.getElem?_cons_succ, List.length_cons, List.length_nil, List.getElem?_toArray, Option.bind_some, Bool.true_and, Bool.not_true, Bool.not_false, true_and, ne_eq, not_false_eq_true, reduceCtorEq, Nat.reduceAdd, Nat.reduceEqDiff, Nat.zero_add, Int.toNat_natCast, Ty.td9, Ty.td47, Ty.td49, eq_is, hw, hp, hi3, true_and, h1, h3, h4, h5]
            rw [wrap_in (x := (i : Int) + 1) (by omega) (by omega)]
            refine hK (i + 1, p) _ ⟨by simp only; omega, he⟩ (by simp only; omega) ?_ rfl (.inl rfl)
            simp only [slot_is, aev, cv, cvc, Weak, isC, bsD, ↓reduceIte, Bool.and_true, Bool.and_self, and_true, and_self, Nat.reduceEqDiff]
            simp
          | false =>
            simp only [resL, h1, h3, h4, h5, Bool.not_false, Bool.not_true, Bool.and_self, Bool.and_true, Bool.and_false, Bool.true_and, Bool.false_and, Bool.false_eq_true, if_true, if_false] at he
            rw [he]
            simp only [awp_skip, awp_reg, awp_seq, awp_cond, awp_ret, seqQ_n, seqQ_r, loopQ_r, blkQ_r, awpOps_nil, awpOps_one, awpOps_if, awpOp_is, awpO_is, putK_is, put_s, slot_is, retA_is, pureOp, apureO, aev, cv, cvc, binK, elO_s, loadA_p, yieldA, guardA_tt, guardA_tf, guardA_ff, condA_t, condA_f, pickA_t, pickA_f, toD_c, toD_tup, consO_some, toDL_nil, toDL_cons, notExit, resA_nil, resA_tmp, oneA_2, isC, bsD, Int.natCast_nonneg, Bool.false_eq_true, ↓reduceIte, List.getElem?_cons_zero, List.getElem?_cons_succ, List.length_cons, List.length_nil, List.getElem?_toArray, Option.bind_some, Option.map_some, Bool.and_true, Bool.true_and, Bool.and_self, Bool.not_true, Bool.not_false, true_and, and_true, and_self, ne_eq, not_false_eq_true, reduceCtorEq, Nat.reduceAdd, Nat.reduceEqDiff, Nat.zero_add, Int.toNat_natCast, Ty.td9, Ty.td47, Ty.td49, eq_is, hw, hp, hi3, true_and, h1, h3, h4, h5]
      | false =>
        cases h6 : eqD w p with
        | true =>
          simp only [resL, h1, h3, h6, Bool.not_false, Bool.not_true, Bool.and_self, Bool.and_true, Bool.and_false, Bool.true_and, Bool.false_and, Bool.false_eq_true, if_true, if_false] at he
          simp only [awp_skip, awp_reg, awp_seq, awp_cond, seqQ_n, loopQ_n, blkQ_n, awpOps_nil, awpOps_one, awpOps_if, awpOp_is, awpO_is, putK_is, put_s, slot_is, pureOp, apureO, aev, cv, cvc, binK, elO_s, loadA_p, yieldA, guardA_tt, guardA_tf, guardA_ff, condA_f, pickA_t, pickA_f, isC, bsD, Int.natCast_nonneg, Bool.false_eq_true, ↓reduceIte, List.getElem?_cons_zero, List.getElem?_cons_succ, List.length_cons, List.length_nil, List.getElem?_toArray, Option.bind_some, Bool.true_and, Bool.not_true, Bool.not_false, true_and, ne_eq, not_false_eq_true, reduceCtorEq, Nat.reduceAdd, Nat.reduceEqDiff, Nat.zero_add, Int.toNat_natCast, Ty.td9, Ty.td47, Ty.td49, eq_is, hw, hp, hi3, true_and, h1, h3, h6]
          rw [wrap_in (x := (i : Int) + 1) (by omega) (by omega)]
          refine hK (i + 1, ch) _ ⟨by simp only; omega, he⟩ (by simp only; omega) ?_ rfl (.inl rfl)
          simp only [slot_is, aev, cv, cvc, Weak, isC, bsD, ↓reduceIte, Bool.and_true, Bool.and_self, and_true, and_self, Nat.reduceEqDiff]
          simp
        | false =>
          simp only [resL, h1, h3, h6, Bool.not_false, Bool.not_true, Bool.and_self, Bool.and_true, Bool.and_false, Bool.true_and, Bool.false_and, Bool.false_eq_true, if_true, if_false] at he
          rw [he]
          simp only [awp_reg, awp_seq, awp_cond, awp_ret, seqQ_n, seqQ_r, loopQ_r, blkQ_r, awpOps_nil, awpOps_one, awpOps_if, awpOp_is, awpO_is, putK_is, put_s, slot_is, retA_is, pureOp, apureO, aev, cv, cvc, binK, elO_s, loadA_p, yieldA, guardA_tt, guardA_tf, guardA_ff, condA_t, pickA_t, pickA_f, toD_c, toD_tup, consO_some, toDL_nil, toDL_cons, notExit, resA_nil, resA_tmp, oneA_2, isC, bsD, Int.natCast_nonneg, Bool.false_eq_true, ↓reduceIte, List.getElem?_cons_zero, List.getElem?_cons_succ, List.length_cons, List.length_nil, List.getElem?_toArray, Option.bind_some, Option.map_some, Bool.and_true, Bool.true_and, Bool.and_self, Bool.not_true, Bool.not_false, true_and, and_true, and_self, ne_eq, not_false_eq_true, reduceCtorEq, Nat.reduceAdd, Nat.reduceEqDiff, Nat.zero_add, Int.toNat_natCast, Ty.td9, Ty.td47, Ty.td49, eq_is, hw, hp, hi3, true_and, h1, h3, h6]
    | false =>
      cases h2 : eqD p cB with
      | false =>
        simp only [resL, h1, h2, Bool.not_false, Bool.and_self, if_true] at he
        rw [he]
        simp only [awp_reg, awp_seq, awp_cond, awp_ret, seqQ_n, seqQ_r, loopQ_r, blkQ_r, awpOps_nil, awpOps_one, awpOps_if, awpOp_is, awpO_is, putK_is, put_s, slot_is, retA_is, pureOp, apureO, aev, cv, cvc, binK, yieldA, guardA_no, guardA_tt, guardA_ft, condA_t, pickA_t, toD_c, toD_tup, consO_some, toDL_nil, toDL_cons, notExit, resA_nil, resA_tmp, oneA_2, isC, bsD, ↓reduceIte, List.getElem?_cons_zero, List.getElem?_cons_succ, List.getElem?_toArray, Option.bind_some, Option.map_some, Bool.and_self, Bool.not_false, and_self, Nat.reduceEqDiff, eq_is, hw, hp, hi3, h1, h2]
      | true =>
        cases h3 : eqD w cA with
        | true =>
          cases h4 : eqD ch cE with
          | true =>
            simp only [resL, h1, h2, h3, h4, Bool.not_false, Bool.not_true, Bool.and_self, Bool.and_true, Bool.and_false, Bool.true_and, Bool.false_and, Bool.false_eq_true, if_true, if_false] at he
            simp only [awp_skip, awp_reg, awp_seq, awp_cond, seqQ_n, loopQ_n, blkQ_n, awpOps_nil, awpOps_one, awpOps_if, awpOp_is, awpO_is, putK_is, put_s, slot_is, pureOp, apureO, aev, cv, cvc, binK, elO_s, loadA_p, yieldA, guardA_tt, guardA_tf, guardA_ff, condA_t, condA_f, pickA_t, pickA_f, isC, bsD, Int.natCast_nonneg, Bool.false_eq_true, ↓reduceIte, List.getElem?_cons_zero, List.getElem?_cons_succ, List.length_cons, List.length_nil, List.getElem?_toArray, Option.bind_some, Bool.true_and, Bool.not_true, Bool.not_false, true_and, ne_eq, not_false_eq_true, reduceCtorEq, Nat.reduceAdd, Nat.reduceEqDiff, Nat.zero_add, Int.toNat_natCast, Ty.td9, Ty.td47, Ty.td49, eq_is, hw, hp, hi3, true_and, h1, h2, h3, h4]
            rw [wrap_in (x := (i : Int) + 1) (by omega) (by omega)]
            refine hK (i + 1, p) _ ⟨by simp only; omega, he⟩ (by simp only; omega) ?_ rfl (.inl rfl)
            simp only [slot_is, aev, cv, cvc, Weak, isC, bsD, ↓reduceIte, Bool.and_true, Bool.and_self, and_true, and_self, Nat.reduceEqDiff]
            simp
          | false =>
            cases h5 : eqD ch p with
            | true =>
              simp only [resL, h1, h2, h3, h4, h5, Bool.not_false, Bool.not_true, Bool.and_self, Bool.and_true, Bool.and_false, Bool.true_and, Bool.false_and, Bool.false_eq_true, if_true, if_false] at he
              simp only [awp_skip, awp_reg, awp_seq, awp_cond, seqQ_n, loopQ_n, blkQ_n, awpOps_nil, awpOps_one, awpOps_if, awpOp_is, awpO_is, putK_is, put_s, slot_is, pureOp, apureO, aev, cv, cvc, binK, elO_s, loadA_p, yieldA, guardA_tt, guardA_tf, guardA_ff, condA_t, condA_f, pickA_t, pickA_f, isC, bsD, Int.natCast_nonneg, Bool.false_eq_true, ↓reduceIte, List.getElem?_cons_zero, List.getElem?_cons_succ, List.length_cons, List.length_nil, List.getElem?_toArray, Option.bind_some, Bool.true_and, Bool.not_true, Bool.not_false, true_and, ne_eq, not_false_eq_true, reduceCtorEq, Nat.reduceAdd, Nat.reduceEqDiff, Nat.zero_add, Int.toNat_natCast, Ty.td9, Ty.td47, Ty.td49, eq_is, hw, hp, hi3, true_and, h1, h2, h3, h4, h5]
              rw [wrap_in (x := (i : Int) + 1) (by omega) (by omega)]
              refine hK (i + 1, p) _ ⟨by simp only; omega, he⟩ (by simp only; omega) ?_ rfl (.inl rfl)
              simp only [slot_is, aev, cv, cvc, Weak, isC, bsD, ↓reduceIte, Bool.and_true, Bool.and_self, and_true, and_self, Nat.reduceEqDiff]
              simp
            | false =>
              simp only [resL, h1, h2, h3, h4, h5, Bool.not_false, Bool.not_true, Bool.and_self, Bool.and_true, Bool.and_false, Bool.true_and, Bool.false_and, Bool.false_eq_true, if_true, if_false] at he
              rw [he]
              simp only [awp_skip, awp_reg, awp_seq, awp_cond, awp_ret, seqQ_n, seqQ_r, loopQ_r, blkQ_r, awpOps_nil, awpOps_one, awpOps_if, awpOp_is, awpO_is, putK_is, put_s, slot_is, retA_is, pureOp, apureO, aev, cv, cvc, binK, elO_s, loadA_p, yieldA, guardA_tt, guardA_tf, guardA_ff, condA_t, condA_f, pickA_t, pickA_f, toD_c, toD_tup, consO_some, toDL_nil, toDL_cons, notExit, resA_nil, resA_tmp, oneA_2, isC, bsD, Int.natCast_nonneg, Bool.false_eq_true, ↓reduceIte, List.getElem?_cons_zero, List.getElem?_cons_succ, List.length_cons, List.length_nil, List.getElem?_toArray, Option.bind_some, Option.map_some, Bool.and_true, Bool.true_and, Bool.and_self, Bool.not_true, Bool.not_false, true_and, and_true, and_self, ne_eq, not_false_eq_true, reduceCtorEq, Nat.reduceAdd, Nat.reduceEqDiff, Nat.zero_add, Int.toNat_natCast, Ty.td9, Ty.td47, Ty.td49, eq_is, hw, hp, hi3, true_and, h1, h2, h3, h4, h5]
        | false =>
          cases h6 : eqD w p with
          | true =>
            simp only [resL, h1, h2, h3, h6, Bool.not_false, Bool.not_true, Bool.and_self, Bool.and_true, Bool.and_false, Bool.true_and, Bool.false_and, Bool.false_eq_true, if_true, if_false] at he
            simp only [awp_skip, awp_reg, awp_seq, awp_cond, seqQ_n, loopQ_n, blkQ_n, awpOps_nil, awpOps_one, awpOps_if, awpOp_is, awpO_is, putK_is, put_s, slot_is, pureOp, apureO, aev, cv, cvc, binK, elO_s, loadA_p, yieldA, guardA_tt, guardA_ff, condA_f, pickA_t, pickA_f, isC, bsD, Int.natCast_nonneg, Bool.false_eq_true, ↓reduceIte, List.getElem?_cons_zero, List.getElem?_cons_succ, List.length_cons, List.length_nil, List.getElem?_toArray, Option.bind_some, Bool.true_and, Bool.not_true, Bool.not_false, true_and, ne_eq, not_false_eq_true, reduceCtorEq, Nat.reduceAdd, Nat.reduceEqDiff, Nat.zero_add, Int.toNat_natCast, Ty.td9, Ty.td47, Ty.td49, eq_is, hw, hp, hi3, true_and, h1, h2, h3, h6]
            rw [wrap_in (x := (i : Int) + 1) (by omega) (by omega)]
            refine hK (i + 1, ch) _ ⟨by simp only; omega, he⟩ (by simp only; omega) ?_ rfl (.inl rfl)
            simp only [slot_is, aev, cv, cvc, Weak, isC, bsD, ↓reduceIte, Bool.and_true, Bool.and_self, and_true, and_self, Nat.reduceEqDiff]
            simp
          | false =>
            simp only [resL, h1, h2, h3, h6, Bool.not_false, Bool.not_true, Bool.and_self, Bool.and_true, Bool.and_false, Bool.true_and, Bool.false_and, Bool.false_eq_true, if_true, if_false] at he
            rw [he]
            simp only [awp_reg, awp_seq, awp_cond, awp_ret, seqQ_n, seqQ_r, loopQ_r, blkQ_r, awpOps_nil, awpOps_one, awpOps_if, awpOp_is, awpO_is, putK_is, put_s, slot_is, retA_is, pureOp, apureO, aev, cv, cvc, binK, elO_s, loadA_p, yieldA, guardA_tt, guardA_ff, condA_t, pickA_t, pickA_f, toD_c, toD_tup, consO_some, toDL_nil, toDL_cons, notExit, resA_nil, resA_tmp, oneA_2, isC, bsD, Int.natCast_nonneg, Bool.false_eq_true, ↓reduceIte, List.getElem?_cons_zero, List.getElem?_cons_succ, List.length_cons, List.length_nil, List.getElem?_toArray, Option.bind_some, Option.map_some, Bool.and_true, Bool.true_and, Bool.and_self, Bool.not_true, Bool.not_false, true_and, and_true, and_self, ne_eq, not_false_eq_true, reduceCtorEq, Nat.reduceAdd, Nat.reduceEqDiff, Nat.zero_add, Int.toNat_natCast, Ty.td9, Ty.td47, Ty.td49, eq_is, hw, hp, hi3, true_and, h1, h2, h3, h6]
end Go.Proofs.YtdhpmkaggojgbaaDoor.E3
