/- Scalar primitives: the reference's types, name by name. -/
import Derived.Test.YtdhpmkaggojgbaaDoorE1
namespace Go.Proofs.YtdhpmkaggojgbaaDoor.E2
open Go Go.Proofs.YtdhpmkaggojgbaaDoor.Eng Go.Proofs.YtdhpmkaggojgbaaDoor Go.RowKit Go.Proofs.YtdhpmkaggojgbaaDoor.E0 Go.Proofs.YtdhpmkaggojgbaaDoor.E1
set_option linter.unusedSimpArgs false
set_option linter.unusedVariables false
set_option linter.unusedSectionVars false
set_option maxRecDepth 100000

theorem rt0 : Meets Tryd.prog 13 [S ⟨#[97, 100, 100]⟩] (typesV ⟨#[97, 100, 100]⟩) := by
  have e : typesV ⟨#[97, 100, 100]⟩ = .tup [.sl false 1 [[S ⟨#[105, 110, 116]⟩], [S ⟨#[105, 110, 116]⟩]], S ⟨#[105, 110, 116]⟩, B true] := by kernel_rfl
  rw [e]
  have f0 : ((⟨#[97, 100, 100]⟩ : ByteArray).toList == (⟨#[97, 100, 100]⟩ : ByteArray).toList) = true := (eqS _ _).trans (by kernel_rfl)
  refine meets_of (X := true) Ty.mixed Tryd.func13 (by kernel_rfl) rfl (by kernel_rfl) (by simp) ?_; rw [Tryd.ntmps13, Tryd.results13]
  simp only [awp_skip, awp_reg, awp_seq, awp_cond, awp_block, awp_ret, seqQ_n, seqQ_r, blkQ_r, awpOps_nil, awpOps_one, awpOp_is, isCallV, putK_is, updK_is, put_s, upd_s, slot_is, slot.eq_1, retA_is, pureOp, apureO, astepO, bsEnd_is, killT, aev, cv, cvc, binK, elO_s, cellsA, cellOk, setAll, fillA, condA_t, elemsA, chunk, isD_c, isDL_nil, isDL_cons, toD_c, toD_tup, toD_own, consO_some, toDL_nil, toDL_cons, notExit, resA_nil, resA_tmp, oneA_2, argT, isC, bsD, Bool.false_eq_true, ↓reduceIte, List.getElem?_cons_zero, List.length_cons, List.length_nil, List.map_cons, List.map_nil, List.cons_append, List.nil_append, List.set_cons_zero, List.set_cons_succ, Option.map_some, List.take_succ_cons, List.take_zero, List.drop_succ_cons, List.drop_zero, List.all_cons, List.all_nil, Bool.and_true, Bool.true_and, Bool.and_self, Value.oneCell', true_and, and_true, and_self, reduceCtorEq, Nat.reduceAdd, Nat.reduceMul, Nat.reduceLT, Nat.reduceLeDiff, Nat.reduceEqDiff, Nat.reduceMod, Nat.zero_add, List.range_succ, List.range_zero, Nat.le_refl, List.take_nil, Ty.td9, Ty.td26, f0]
theorem rt1 : Meets Tryd.prog 13 [S ⟨#[115, 117, 98]⟩] (typesV ⟨#[115, 117, 98]⟩) := by
  have e : typesV ⟨#[115, 117, 98]⟩ = .tup [.sl false 1 [[S ⟨#[105, 110, 116]⟩], [S ⟨#[105, 110, 116]⟩]], S ⟨#[105, 110, 116]⟩, B true] := by kernel_rfl
  rw [e]
  have f0 : ((⟨#[115, 117, 98]⟩ : ByteArray).toList == (⟨#[97, 100, 100]⟩ : ByteArray).toList) = false := (eqS _ _).trans (by kernel_rfl)
  have f1 : ((⟨#[115, 117, 98]⟩ : ByteArray).toList == (⟨#[115, 117, 98]⟩ : ByteArray).toList) = true := (eqS _ _).trans (by kernel_rfl)
  refine meets_of (X := true) Ty.mixed Tryd.func13 (by kernel_rfl) rfl (by kernel_rfl) (by simp) ?_; rw [Tryd.ntmps13, Tryd.results13]
  simp only [awp_skip, awp_reg, awp_seq, awp_cond, awp_block, awp_ret, seqQ_n, seqQ_r, blkQ_r, awpOps_nil, awpOps_one, awpOp_is, isCallV, putK_is, updK_is, put_s, upd_s, slot_is, slot.eq_1, retA_is, pureOp, apureO, astepO, bsEnd_is, killT, aev, cv, cvc, binK, elO_s, cellsA, cellOk, setAll, fillA, condA_t, condA_f, elemsA, chunk, isD_c, isDL_nil, isDL_cons, toD_c, toD_tup, toD_own, consO_some, toDL_nil, toDL_cons, notExit, resA_nil, resA_tmp, oneA_2, argT, isC, bsD, Bool.false_eq_true, ↓reduceIte, List.getElem?_cons_zero, List.length_cons, List.length_nil, List.map_cons, List.map_nil, List.cons_append, List.nil_append, List.set_cons_zero, List.set_cons_succ, Option.map_some, List.take_succ_cons, List.take_zero, List.drop_succ_cons, List.drop_zero, List.all_cons, List.all_nil, Bool.and_true, Bool.true_and, Bool.and_self, Value.oneCell', true_and, and_true, and_self, reduceCtorEq, Nat.reduceAdd, Nat.reduceMul, Nat.reduceLT, Nat.reduceLeDiff, Nat.reduceEqDiff, Nat.reduceMod, Nat.zero_add, List.range_succ, List.range_zero, Nat.le_refl, List.take_nil, Ty.td9, Ty.td26, f0, f1]
theorem rt2 : Meets Tryd.prog 13 [S ⟨#[109, 117, 108]⟩] (typesV ⟨#[109, 117, 108]⟩) := by
  have e : typesV ⟨#[109, 117, 108]⟩ = .tup [.sl false 1 [[S ⟨#[105, 110, 116]⟩], [S ⟨#[105, 110, 116]⟩]], S ⟨#[105, 110, 116]⟩, B true] := by kernel_rfl
  rw [e]
  have f0 : ((⟨#[109, 117, 108]⟩ : ByteArray).toList == (⟨#[97, 100, 100]⟩ : ByteArray).toList) = false := (eqS _ _).trans (by kernel_rfl)
  have f1 : ((⟨#[109, 117, 108]⟩ : ByteArray).toList == (⟨#[115, 117, 98]⟩ : ByteArray).toList) = false := (eqS _ _).trans (by kernel_rfl)
  have f2 : ((⟨#[109, 117, 108]⟩ : ByteArray).toList == (⟨#[109, 117, 108]⟩ : ByteArray).toList) = true := (eqS _ _).trans (by kernel_rfl)
  refine meets_of (X := true) Ty.mixed Tryd.func13 (by kernel_rfl) rfl (by kernel_rfl) (by simp) ?_; rw [Tryd.ntmps13, Tryd.results13]
  simp only [awp_skip, awp_reg, awp_seq, awp_cond, awp_block, awp_ret, seqQ_n, seqQ_r, blkQ_r, awpOps_nil, awpOps_one, awpOp_is, isCallV, putK_is, updK_is, put_s, upd_s, slot_is, slot.eq_1, retA_is, pureOp, apureO, astepO, bsEnd_is, killT, aev, cv, cvc, binK, elO_s, cellsA, cellOk, setAll, fillA, condA_t, condA_f, elemsA, chunk, isD_c, isDL_nil, isDL_cons, toD_c, toD_tup, toD_own, consO_some, toDL_nil, toDL_cons, notExit, resA_nil, resA_tmp, oneA_2, argT, isC, bsD, Bool.false_eq_true, ↓reduceIte, List.getElem?_cons_zero, List.length_cons, List.length_nil, List.map_cons, List.map_nil, List.cons_append, List.nil_append, List.set_cons_zero, List.set_cons_succ, Option.map_some, List.take_succ_cons, List.take_zero, List.drop_succ_cons, List.drop_zero, List.all_cons, List.all_nil, Bool.and_true, Bool.true_and, Bool.and_self, Value.oneCell', true_and, and_true, and_self, reduceCtorEq, Nat.reduceAdd, Nat.reduceMul, Nat.reduceLT, Nat.reduceLeDiff, Nat.reduceEqDiff, Nat.reduceMod, Nat.zero_add, List.range_succ, List.range_zero, Nat.le_refl, List.take_nil, Ty.td9, Ty.td26, f0, f1, f2]
theorem rt3 : Meets Tryd.prog 13 [S ⟨#[100, 105, 118]⟩] (typesV ⟨#[100, 105, 118]⟩) := by
  have e : typesV ⟨#[100, 105, 118]⟩ = .tup [.sl false 1 [[S ⟨#[105, 110, 116]⟩], [S ⟨#[105, 110, 116]⟩]], S ⟨#[105, 110, 116]⟩, B true] := by kernel_rfl
  rw [e]
  have f0 : ((⟨#[100, 105, 118]⟩ : ByteArray).toList == (⟨#[97, 100, 100]⟩ : ByteArray).toList) = false := (eqS _ _).trans (by kernel_rfl)
  have f1 : ((⟨#[100, 105, 118]⟩ : ByteArray).toList == (⟨#[115, 117, 98]⟩ : ByteArray).toList) = false := (eqS _ _).trans (by kernel_rfl)
  have f2 : ((⟨#[100, 105, 118]⟩ : ByteArray).toList == (⟨#[109, 117, 108]⟩ : ByteArray).toList) = false := (eqS _ _).trans (by kernel_rfl)
  have f3 : ((⟨#[100, 105, 118]⟩ : ByteArray).toList == (⟨#[100, 105, 118]⟩ : ByteArray).toList) = true := (eqS _ _).trans (by kernel_rfl)
  refine meets_of (X := true) Ty.mixed Tryd.func13 (by kernel_rfl) rfl (by kernel_rfl) (by simp) ?_; rw [Tryd.ntmps13, Tryd.results13]
  simp only [awp_skip, awp_reg, awp_seq, awp_cond, awp_block, awp_ret, seqQ_n, seqQ_r, blkQ_r, awpOps_nil, awpOps_one, awpOp_is, isCallV, putK_is, updK_is, put_s, upd_s, slot_is, slot.eq_1, retA_is, pureOp, apureO, astepO, bsEnd_is, killT, aev, cv, cvc, binK, elO_s, cellsA, cellOk, setAll, fillA, condA_t, condA_f, elemsA, chunk, isD_c, isDL_nil, isDL_cons, toD_c, toD_tup, toD_own, consO_some, toDL_nil, toDL_cons, notExit, resA_nil, resA_tmp, oneA_2, argT, isC, bsD, Bool.false_eq_true, ↓reduceIte, List.getElem?_cons_zero, List.length_cons, List.length_nil, List.map_cons, List.map_nil, List.cons_append, List.nil_append, List.set_cons_zero, List.set_cons_succ, Option.map_some, List.take_succ_cons, List.take_zero, List.drop_succ_cons, List.drop_zero, List.all_cons, List.all_nil, Bool.and_true, Bool.true_and, Bool.and_self, Value.oneCell', true_and, and_true, and_self, reduceCtorEq, Nat.reduceAdd, Nat.reduceMul, Nat.reduceLT, Nat.reduceLeDiff, Nat.reduceEqDiff, Nat.reduceMod, Nat.zero_add, List.range_succ, List.range_zero, Nat.le_refl, List.take_nil, Ty.td9, Ty.td26, f0, f1, f2, f3]
theorem rt4 : Meets Tryd.prog 13 [S ⟨#[109, 111, 100]⟩] (typesV ⟨#[109, 111, 100]⟩) := by
  have e : typesV ⟨#[109, 111, 100]⟩ = .tup [.sl false 1 [[S ⟨#[105, 110, 116]⟩], [S ⟨#[105, 110, 116]⟩]], S ⟨#[105, 110, 116]⟩, B true] := by kernel_rfl
  rw [e]
  have f0 : ((⟨#[109, 111, 100]⟩ : ByteArray).toList == (⟨#[97, 100, 100]⟩ : ByteArray).toList) = false := (eqS _ _).trans (by kernel_rfl)
  have f1 : ((⟨#[109, 111, 100]⟩ : ByteArray).toList == (⟨#[115, 117, 98]⟩ : ByteArray).toList) = false := (eqS _ _).trans (by kernel_rfl)
  have f2 : ((⟨#[109, 111, 100]⟩ : ByteArray).toList == (⟨#[109, 117, 108]⟩ : ByteArray).toList) = false := (eqS _ _).trans (by kernel_rfl)
  have f3 : ((⟨#[109, 111, 100]⟩ : ByteArray).toList == (⟨#[100, 105, 118]⟩ : ByteArray).toList) = false := (eqS _ _).trans (by kernel_rfl)
  have f4 : ((⟨#[109, 111, 100]⟩ : ByteArray).toList == (⟨#[109, 111, 100]⟩ : ByteArray).toList) = true := (eqS _ _).trans (by kernel_rfl)
  refine meets_of (X := true) Ty.mixed Tryd.func13 (by kernel_rfl) rfl (by kernel_rfl) (by simp) ?_; rw [Tryd.ntmps13, Tryd.results13]
  simp only [awp_skip, awp_reg, awp_seq, awp_cond, awp_block, awp_ret, seqQ_n, seqQ_r, blkQ_r, awpOps_nil, awpOps_one, awpOp_is, isCallV, putK_is, updK_is, put_s, upd_s, slot_is, slot.eq_1, retA_is, pureOp, apureO, astepO, bsEnd_is, killT, aev, cv, cvc, binK, elO_s, cellsA, cellOk, setAll, fillA, condA_t, condA_f, elemsA, chunk, isD_c, isDL_nil, isDL_cons, toD_c, toD_tup, toD_own, consO_some, toDL_nil, toDL_cons, notExit, resA_nil, resA_tmp, oneA_2, argT, isC, bsD, Bool.false_eq_true, ↓reduceIte, List.getElem?_cons_zero, List.length_cons, List.length_nil, List.map_cons, List.map_nil, List.cons_append, List.nil_append, List.set_cons_zero, List.set_cons_succ, Option.map_some, List.take_succ_cons, List.take_zero, List.drop_succ_cons, List.drop_zero, List.all_cons, List.all_nil, Bool.and_true, Bool.true_and, Bool.and_self, Value.oneCell', true_and, and_true, and_self, reduceCtorEq, Nat.reduceAdd, Nat.reduceMul, Nat.reduceLT, Nat.reduceLeDiff, Nat.reduceEqDiff, Nat.reduceMod, Nat.zero_add, List.range_succ, List.range_zero, Nat.le_refl, List.take_nil, Ty.td9, Ty.td26, f0, f1, f2, f3, f4]
theorem rt5 : Meets Tryd.prog 13 [S ⟨#[109, 105, 110]⟩] (typesV ⟨#[109, 105, 110]⟩) := by
  have e : typesV ⟨#[109, 105, 110]⟩ = .tup [.sl false 1 [[S ⟨#[105, 110, 116]⟩], [S ⟨#[105, 110, 116]⟩]], S ⟨#[105, 110, 116]⟩, B true] := by kernel_rfl
  rw [e]
  have f0 : ((⟨#[109, 105, 110]⟩ : ByteArray).toList == (⟨#[97, 100, 100]⟩ : ByteArray).toList) = false := (eqS _ _).trans (by kernel_rfl)
  have f1 : ((⟨#[109, 105, 110]⟩ : ByteArray).toList == (⟨#[115, 117, 98]⟩ : ByteArray).toList) = false := (eqS _ _).trans (by kernel_rfl)
  have f2 : ((⟨#[109, 105, 110]⟩ : ByteArray).toList == (⟨#[109, 117, 108]⟩ : ByteArray).toList) = false := (eqS _ _).trans (by kernel_rfl)
  have f3 : ((⟨#[109, 105, 110]⟩ : ByteArray).toList == (⟨#[100, 105, 118]⟩ : ByteArray).toList) = false := (eqS _ _).trans (by kernel_rfl)
  have f4 : ((⟨#[109, 105, 110]⟩ : ByteArray).toList == (⟨#[109, 111, 100]⟩ : ByteArray).toList) = false := (eqS _ _).trans (by kernel_rfl)
  have f5 : ((⟨#[109, 105, 110]⟩ : ByteArray).toList == (⟨#[109, 105, 110]⟩ : ByteArray).toList) = true := (eqS _ _).trans (by kernel_rfl)
  refine meets_of (X := true) Ty.mixed Tryd.func13 (by kernel_rfl) rfl (by kernel_rfl) (by simp) ?_; rw [Tryd.ntmps13, Tryd.results13]
  simp only [awp_skip, awp_reg, awp_seq, awp_cond, awp_block, awp_ret, seqQ_n, seqQ_r, blkQ_r, awpOps_nil, awpOps_one, awpOp_is, isCallV, putK_is, updK_is, put_s, upd_s, slot_is, slot.eq_1, retA_is, pureOp, apureO, astepO, bsEnd_is, killT, aev, cv, cvc, binK, elO_s, cellsA, cellOk, setAll, fillA, condA_t, condA_f, elemsA, chunk, isD_c, isDL_nil, isDL_cons, toD_c, toD_tup, toD_own, consO_some, toDL_nil, toDL_cons, notExit, resA_nil, resA_tmp, oneA_2, argT, isC, bsD, Bool.false_eq_true, ↓reduceIte, List.getElem?_cons_zero, List.length_cons, List.length_nil, List.map_cons, List.map_nil, List.cons_append, List.nil_append, List.set_cons_zero, List.set_cons_succ, Option.map_some, List.take_succ_cons, List.take_zero, List.drop_succ_cons, List.drop_zero, List.all_cons, List.all_nil, Bool.and_true, Bool.true_and, Bool.and_self, Value.oneCell', true_and, and_true, and_self, reduceCtorEq, Nat.reduceAdd, Nat.reduceMul, Nat.reduceLT, Nat.reduceLeDiff, Nat.reduceEqDiff, Nat.reduceMod, Nat.zero_add, List.range_succ, List.range_zero, Nat.le_refl, List.take_nil, Ty.td9, Ty.td26, f0, f1, f2, f3, f4, f5]
theorem rt6 : Meets Tryd.prog 13 [S ⟨#[109, 97, 120]⟩] (typesV ⟨#[109, 97, 120]⟩) := by
  have e : typesV ⟨#[109, 97, 120]⟩ = .tup [.sl false 1 [[S ⟨#[105, 110, 116]⟩], [S ⟨#[105, 110, 116]⟩]], S ⟨#[105, 110, 116]⟩, B true] := by kernel_rfl
  rw [e]
  have f0 : ((⟨#[109, 97, 120]⟩ : ByteArray).toList == (⟨#[97, 100, 100]⟩ : ByteArray).toList) = false := (eqS _ _).trans (by kernel_rfl)
  have f1 : ((⟨#[109, 97, 120]⟩ : ByteArray).toList == (⟨#[115, 117, 98]⟩ : ByteArray).toList) = false := (eqS _ _).trans (by kernel_rfl)
  have f2 : ((⟨#[109, 97, 120]⟩ : ByteArray).toList == (⟨#[109, 117, 108]⟩ : ByteArray).toList) = false := (eqS _ _).trans (by kernel_rfl)
  have f3 : ((⟨#[109, 97, 120]⟩ : ByteArray).toList == (⟨#[100, 105, 118]⟩ : ByteArray).toList) = false := (eqS _ _).trans (by kernel_rfl)
  have f4 : ((⟨#[109, 97, 120]⟩ : ByteArray).toList == (⟨#[109, 111, 100]⟩ : ByteArray).toList) = false := (eqS _ _).trans (by kernel_rfl)
  have f5 : ((⟨#[109, 97, 120]⟩ : ByteArray).toList == (⟨#[109, 105, 110]⟩ : ByteArray).toList) = false := (eqS _ _).trans (by kernel_rfl)
  have f6 : ((⟨#[109, 97, 120]⟩ : ByteArray).toList == (⟨#[109, 97, 120]⟩ : ByteArray).toList) = true := (eqS _ _).trans (by kernel_rfl)
  refine meets_of (X := true) Ty.mixed Tryd.func13 (by kernel_rfl) rfl (by kernel_rfl) (by simp) ?_; rw [Tryd.ntmps13, Tryd.results13]
  simp only [awp_reg, awp_seq, awp_cond, awp_block, awp_ret, seqQ_n, seqQ_r, blkQ_r, awpOps_nil, awpOps_one, awpOp_is, isCallV, putK_is, updK_is, put_s, upd_s, slot_is, slot.eq_1, retA_is, pureOp, apureO, astepO, bsEnd_is, killT, aev, cv, cvc, binK, elO_s, cellsA, cellOk, setAll, fillA, condA_t, condA_f, elemsA, chunk, isD_c, isDL_nil, isDL_cons, toD_c, toD_tup, toD_own, consO_some, toDL_nil, toDL_cons, notExit, resA_nil, resA_tmp, oneA_2, argT, isC, bsD, Bool.false_eq_true, ↓reduceIte, List.getElem?_cons_zero, List.length_cons, List.length_nil, List.map_cons, List.map_nil, List.cons_append, List.nil_append, List.set_cons_zero, List.set_cons_succ, Option.map_some, List.take_succ_cons, List.take_zero, List.drop_succ_cons, List.drop_zero, List.all_cons, List.all_nil, Bool.and_true, Bool.true_and, Bool.and_self, Value.oneCell', true_and, and_true, and_self, reduceCtorEq, Nat.reduceAdd, Nat.reduceMul, Nat.reduceLT, Nat.reduceLeDiff, Nat.reduceEqDiff, Nat.reduceMod, Nat.zero_add, List.range_succ, List.range_zero, Nat.le_refl, List.take_nil, Ty.td9, Ty.td26, f0, f1, f2, f3, f4, f5, f6]
theorem rt7 : Meets Tryd.prog 13 [S ⟨#[110, 101, 103]⟩] (typesV ⟨#[110, 101, 103]⟩) := by
  have e : typesV ⟨#[110, 101, 103]⟩ = .tup [.sl false 1 [[S ⟨#[105, 110, 116]⟩]], S ⟨#[105, 110, 116]⟩, B true] := by kernel_rfl
  rw [e]
  have f0 : ((⟨#[110, 101, 103]⟩ : ByteArray).toList == (⟨#[97, 100, 100]⟩ : ByteArray).toList) = false := (eqS _ _).trans (by kernel_rfl)
  have f1 : ((⟨#[110, 101, 103]⟩ : ByteArray).toList == (⟨#[115, 117, 98]⟩ : ByteArray).toList) = false := (eqS _ _).trans (by kernel_rfl)
  have f2 : ((⟨#[110, 101, 103]⟩ : ByteArray).toList == (⟨#[109, 117, 108]⟩ : ByteArray).toList) = false := (eqS _ _).trans (by kernel_rfl)
  have f3 : ((⟨#[110, 101, 103]⟩ : ByteArray).toList == (⟨#[100, 105, 118]⟩ : ByteArray).toList) = false := (eqS _ _).trans (by kernel_rfl)
  have f4 : ((⟨#[110, 101, 103]⟩ : ByteArray).toList == (⟨#[109, 111, 100]⟩ : ByteArray).toList) = false := (eqS _ _).trans (by kernel_rfl)
  have f5 : ((⟨#[110, 101, 103]⟩ : ByteArray).toList == (⟨#[109, 105, 110]⟩ : ByteArray).toList) = false := (eqS _ _).trans (by kernel_rfl)
  have f6 : ((⟨#[110, 101, 103]⟩ : ByteArray).toList == (⟨#[109, 97, 120]⟩ : ByteArray).toList) = false := (eqS _ _).trans (by kernel_rfl)
  have f7 : ((⟨#[110, 101, 103]⟩ : ByteArray).toList == (⟨#[110, 101, 103]⟩ : ByteArray).toList) = true := (eqS _ _).trans (by kernel_rfl)
  refine meets_of (X := true) Ty.mixed Tryd.func13 (by kernel_rfl) rfl (by kernel_rfl) (by simp) ?_; rw [Tryd.ntmps13, Tryd.results13]
  simp only [awp_skip, awp_reg, awp_seq, awp_cond, awp_block, awp_ret, seqQ_n, seqQ_r, blkQ_r, awpOps_nil, awpOps_one, awpOp_is, isCallV, putK_is, updK_is, put_s, upd_s, slot_is, slot.eq_1, retA_is, pureOp, apureO, astepO, bsEnd_is, killT, aev, cv, cvc, binK, elO_s, cellsA, cellOk, setAll, fillA, condA_t, condA_f, elemsA, chunk, isD_c, isDL_nil, isDL_cons, toD_c, toD_tup, toD_own, consO_some, toDL_nil, toDL_cons, notExit, resA_nil, resA_tmp, oneA_2, argT, isC, bsD, Bool.false_eq_true, ↓reduceIte, List.getElem?_cons_zero, List.length_cons, List.length_nil, List.map_cons, List.map_nil, List.nil_append, List.set_cons_zero, Option.map_some, List.take_succ_cons, List.drop_zero, List.all_cons, List.all_nil, Bool.and_true, Bool.true_and, Bool.and_self, Value.oneCell', true_and, and_true, and_self, reduceCtorEq, Nat.reduceMul, Nat.reduceLT, Nat.reduceLeDiff, Nat.reduceEqDiff, Nat.reduceMod, Nat.zero_add, List.range_succ, List.range_zero, Nat.le_refl, List.take_nil, Ty.td9, Ty.td26, f0, f1, f2, f3, f4, f5, f6, f7]
theorem rt8 : Meets Tryd.prog 13 [S ⟨#[97, 98, 115]⟩] (typesV ⟨#[97, 98, 115]⟩) := by
  have e : typesV ⟨#[97, 98, 115]⟩ = .tup [.sl false 1 [[S ⟨#[105, 110, 116]⟩]], S ⟨#[105, 110, 116]⟩, B true] := by kernel_rfl
  rw [e]
  have f0 : ((⟨#[97, 98, 115]⟩ : ByteArray).toList == (⟨#[97, 100, 100]⟩ : ByteArray).toList) = false := (eqS _ _).trans (by kernel_rfl)
  have f1 : ((⟨#[97, 98, 115]⟩ : ByteArray).toList == (⟨#[115, 117, 98]⟩ : ByteArray).toList) = false := (eqS _ _).trans (by kernel_rfl)
  have f2 : ((⟨#[97, 98, 115]⟩ : ByteArray).toList == (⟨#[109, 117, 108]⟩ : ByteArray).toList) = false := (eqS _ _).trans (by kernel_rfl)
  have f3 : ((⟨#[97, 98, 115]⟩ : ByteArray).toList == (⟨#[100, 105, 118]⟩ : ByteArray).toList) = false := (eqS _ _).trans (by kernel_rfl)
  have f4 : ((⟨#[97, 98, 115]⟩ : ByteArray).toList == (⟨#[109, 111, 100]⟩ : ByteArray).toList) = false := (eqS _ _).trans (by kernel_rfl)
  have f5 : ((⟨#[97, 98, 115]⟩ : ByteArray).toList == (⟨#[109, 105, 110]⟩ : ByteArray).toList) = false := (eqS _ _).trans (by kernel_rfl)
  have f6 : ((⟨#[97, 98, 115]⟩ : ByteArray).toList == (⟨#[109, 97, 120]⟩ : ByteArray).toList) = false := (eqS _ _).trans (by kernel_rfl)
  have f7 : ((⟨#[97, 98, 115]⟩ : ByteArray).toList == (⟨#[110, 101, 103]⟩ : ByteArray).toList) = false := (eqS _ _).trans (by kernel_rfl)
  have f8 : ((⟨#[97, 98, 115]⟩ : ByteArray).toList == (⟨#[97, 98, 115]⟩ : ByteArray).toList) = true := (eqS _ _).trans (by kernel_rfl)
  refine meets_of (X := true) Ty.mixed Tryd.func13 (by kernel_rfl) rfl (by kernel_rfl) (by simp) ?_; rw [Tryd.ntmps13, Tryd.results13]
  simp only [awp_skip, awp_reg, awp_seq, awp_cond, awp_block, awp_ret, seqQ_n, seqQ_r, blkQ_r, awpOps_nil, awpOps_one, awpOp_is, isCallV, putK_is, updK_is, put_s, upd_s, slot_is, slot.eq_1, retA_is, pureOp, apureO, astepO, bsEnd_is, killT, aev, cv, cvc, binK, elO_s, cellsA, cellOk, setAll, fillA, condA_t, condA_f, elemsA, chunk, isD_c, isDL_nil, isDL_cons, toD_c, toD_tup, toD_own, consO_some, toDL_nil, toDL_cons, notExit, resA_nil, resA_tmp, oneA_2, argT, isC, bsD, Bool.false_eq_true, ↓reduceIte, List.getElem?_cons_zero, List.length_cons, List.length_nil, List.map_cons, List.map_nil, List.nil_append, List.set_cons_zero, Option.map_some, List.take_succ_cons, List.drop_zero, List.all_cons, List.all_nil, Bool.and_true, Bool.true_and, Bool.and_self, Value.oneCell', true_and, and_true, and_self, reduceCtorEq, Nat.reduceMul, Nat.reduceLT, Nat.reduceLeDiff, Nat.reduceEqDiff, Nat.reduceMod, Nat.zero_add, List.range_succ, List.range_zero, Nat.le_refl, List.take_nil, Ty.td9, Ty.td26, f0, f1, f2, f3, f4, f5, f6, f7, f8]
theorem rt9 : Meets Tryd.prog 13 [S ⟨#[115, 105, 103, 110]⟩] (typesV ⟨#[115, 105, 103, 110]⟩) := by
  have e : typesV ⟨#[115, 105, 103, 110]⟩ = .tup [.sl false 1 [[S ⟨#[105, 110, 116]⟩]], S ⟨#[105, 110, 116]⟩, B true] := by kernel_rfl
  rw [e]
  have f0 : ((⟨#[115, 105, 103, 110]⟩ : ByteArray).toList == (⟨#[97, 100, 100]⟩ : ByteArray).toList) = false := (eqS _ _).trans (by kernel_rfl)
  have f1 : ((⟨#[115, 105, 103, 110]⟩ : ByteArray).toList == (⟨#[115, 117, 98]⟩ : ByteArray).toList) = false := (eqS _ _).trans (by kernel_rfl)
  have f2 : ((⟨#[115, 105, 103, 110]⟩ : ByteArray).toList == (⟨#[109, 117, 108]⟩ : ByteArray).toList) = false := (eqS _ _).trans (by kernel_rfl)
  have f3 : ((⟨#[115, 105, 103, 110]⟩ : ByteArray).toList == (⟨#[100, 105, 118]⟩ : ByteArray).toList) = false := (eqS _ _).trans (by kernel_rfl)
  have f4 : ((⟨#[115, 105, 103, 110]⟩ : ByteArray).toList == (⟨#[109, 111, 100]⟩ : ByteArray).toList) = false := (eqS _ _).trans (by kernel_rfl)
  have f5 : ((⟨#[115, 105, 103, 110]⟩ : ByteArray).toList == (⟨#[109, 105, 110]⟩ : ByteArray).toList) = false := (eqS _ _).trans (by kernel_rfl)
  have f6 : ((⟨#[115, 105, 103, 110]⟩ : ByteArray).toList == (⟨#[109, 97, 120]⟩ : ByteArray).toList) = false := (eqS _ _).trans (by kernel_rfl)
  have f7 : ((⟨#[115, 105, 103, 110]⟩ : ByteArray).toList == (⟨#[110, 101, 103]⟩ : ByteArray).toList) = false := (eqS _ _).trans (by kernel_rfl)
  have f8 : ((⟨#[115, 105, 103, 110]⟩ : ByteArray).toList == (⟨#[97, 98, 115]⟩ : ByteArray).toList) = false := (eqS _ _).trans (by kernel_rfl)
  have f9 : ((⟨#[115, 105, 103, 110]⟩ : ByteArray).toList == (⟨#[115, 105, 103, 110]⟩ : ByteArray).toList) = true := (eqS _ _).trans (by kernel_rfl)
  refine meets_of (X := true) Ty.mixed Tryd.func13 (by kernel_rfl) rfl (by kernel_rfl) (by simp) ?_; rw [Tryd.ntmps13, Tryd.results13]
  simp only [awp_reg, awp_seq, awp_cond, awp_block, awp_ret, seqQ_n, seqQ_r, blkQ_r, awpOps_nil, awpOps_one, awpOp_is, isCallV, putK_is, updK_is, put_s, upd_s, slot_is, slot.eq_1, retA_is, pureOp, apureO, astepO, bsEnd_is, killT, aev, cv, cvc, binK, elO_s, cellsA, cellOk, setAll, fillA, condA_t, condA_f, elemsA, chunk, isD_c, isDL_nil, isDL_cons, toD_c, toD_tup, toD_own, consO_some, toDL_nil, toDL_cons, notExit, resA_nil, resA_tmp, oneA_2, argT, isC, bsD, Bool.false_eq_true, ↓reduceIte, List.getElem?_cons_zero, List.length_cons, List.length_nil, List.map_cons, List.map_nil, List.nil_append, List.set_cons_zero, Option.map_some, List.take_succ_cons, List.drop_zero, List.all_cons, List.all_nil, Bool.and_true, Bool.true_and, Bool.and_self, Value.oneCell', true_and, and_true, and_self, reduceCtorEq, Nat.reduceMul, Nat.reduceLT, Nat.reduceLeDiff, Nat.reduceEqDiff, Nat.reduceMod, Nat.zero_add, List.range_succ, List.range_zero, Nat.le_refl, List.take_nil, Ty.td9, Ty.td26, f0, f1, f2, f3, f4, f5, f6, f7, f8, f9]
theorem rt10 : Meets Tryd.prog 13 [S ⟨#[108, 116]⟩] (typesV ⟨#[108, 116]⟩) := by
  have e : typesV ⟨#[108, 116]⟩ = .tup [.sl false 1 [[S ⟨#[105, 110, 116]⟩], [S ⟨#[105, 110, 116]⟩]], S ⟨#[98, 111, 111, 108]⟩, B true] := by kernel_rfl
  rw [e]
  have f0 : ((⟨#[108, 116]⟩ : ByteArray).toList == (⟨#[97, 100, 100]⟩ : ByteArray).toList) = false := (eqS _ _).trans (by kernel_rfl)
  have f1 : ((⟨#[108, 116]⟩ : ByteArray).toList == (⟨#[115, 117, 98]⟩ : ByteArray).toList) = false := (eqS _ _).trans (by kernel_rfl)
  have f2 : ((⟨#[108, 116]⟩ : ByteArray).toList == (⟨#[109, 117, 108]⟩ : ByteArray).toList) = false := (eqS _ _).trans (by kernel_rfl)
  have f3 : ((⟨#[108, 116]⟩ : ByteArray).toList == (⟨#[100, 105, 118]⟩ : ByteArray).toList) = false := (eqS _ _).trans (by kernel_rfl)
  have f4 : ((⟨#[108, 116]⟩ : ByteArray).toList == (⟨#[109, 111, 100]⟩ : ByteArray).toList) = false := (eqS _ _).trans (by kernel_rfl)
  have f5 : ((⟨#[108, 116]⟩ : ByteArray).toList == (⟨#[109, 105, 110]⟩ : ByteArray).toList) = false := (eqS _ _).trans (by kernel_rfl)
  have f6 : ((⟨#[108, 116]⟩ : ByteArray).toList == (⟨#[109, 97, 120]⟩ : ByteArray).toList) = false := (eqS _ _).trans (by kernel_rfl)
  have f7 : ((⟨#[108, 116]⟩ : ByteArray).toList == (⟨#[110, 101, 103]⟩ : ByteArray).toList) = false := (eqS _ _).trans (by kernel_rfl)
  have f8 : ((⟨#[108, 116]⟩ : ByteArray).toList == (⟨#[97, 98, 115]⟩ : ByteArray).toList) = false := (eqS _ _).trans (by kernel_rfl)
  have f9 : ((⟨#[108, 116]⟩ : ByteArray).toList == (⟨#[115, 105, 103, 110]⟩ : ByteArray).toList) = false := (eqS _ _).trans (by kernel_rfl)
  have f10 : ((⟨#[108, 116]⟩ : ByteArray).toList == (⟨#[108, 116]⟩ : ByteArray).toList) = true := (eqS _ _).trans (by kernel_rfl)
  refine meets_of (X := true) Ty.mixed Tryd.func13 (by kernel_rfl) rfl (by kernel_rfl) (by simp) ?_; rw [Tryd.ntmps13, Tryd.results13]
  simp only [awp_skip, awp_reg, awp_seq, awp_cond, awp_block, awp_ret, seqQ_n, seqQ_r, blkQ_r, awpOps_nil, awpOps_one, awpOp_is, isCallV, putK_is, updK_is, put_s, upd_s, slot_is, slot.eq_1, retA_is, pureOp, apureO, astepO, bsEnd_is, killT, aev, cv, cvc, binK, elO_s, cellsA, cellOk, setAll, fillA, condA_t, condA_f, elemsA, chunk, isD_c, isDL_nil, isDL_cons, toD_c, toD_tup, toD_own, consO_some, toDL_nil, toDL_cons, notExit, resA_nil, resA_tmp, oneA_2, argT, isC, bsD, Bool.false_eq_true, ↓reduceIte, List.getElem?_cons_zero, List.length_cons, List.length_nil, List.map_cons, List.map_nil, List.cons_append, List.nil_append, List.set_cons_zero, List.set_cons_succ, Option.map_some, List.take_succ_cons, List.take_zero, List.drop_succ_cons, List.drop_zero, List.all_cons, List.all_nil, Bool.and_true, Bool.true_and, Bool.and_self, Value.oneCell', true_and, and_true, and_self, reduceCtorEq, Nat.reduceAdd, Nat.reduceMul, Nat.reduceLT, Nat.reduceLeDiff, Nat.reduceEqDiff, Nat.reduceMod, Nat.zero_add, List.range_succ, List.range_zero, Nat.le_refl, List.take_nil, Ty.td9, Ty.td26, f0, f1, f2, f3, f4, f5, f6, f7, f8, f9, f10]
theorem rt11 : Meets Tryd.prog 13 [S ⟨#[108, 101]⟩] (typesV ⟨#[108, 101]⟩) := by
  have e : typesV ⟨#[108, 101]⟩ = .tup [.sl false 1 [[S ⟨#[105, 110, 116]⟩], [S ⟨#[105, 110, 116]⟩]], S ⟨#[98, 111, 111, 108]⟩, B true] := by kernel_rfl
  rw [e]
  have f0 : ((⟨#[108, 101]⟩ : ByteArray).toList == (⟨#[97, 100, 100]⟩ : ByteArray).toList) = false := (eqS _ _).trans (by kernel_rfl)
  have f1 : ((⟨#[108, 101]⟩ : ByteArray).toList == (⟨#[115, 117, 98]⟩ : ByteArray).toList) = false := (eqS _ _).trans (by kernel_rfl)
  have f2 : ((⟨#[108, 101]⟩ : ByteArray).toList == (⟨#[109, 117, 108]⟩ : ByteArray).toList) = false := (eqS _ _).trans (by kernel_rfl)
  have f3 : ((⟨#[108, 101]⟩ : ByteArray).toList == (⟨#[100, 105, 118]⟩ : ByteArray).toList) = false := (eqS _ _).trans (by kernel_rfl)
  have f4 : ((⟨#[108, 101]⟩ : ByteArray).toList == (⟨#[109, 111, 100]⟩ : ByteArray).toList) = false := (eqS _ _).trans (by kernel_rfl)
  have f5 : ((⟨#[108, 101]⟩ : ByteArray).toList == (⟨#[109, 105, 110]⟩ : ByteArray).toList) = false := (eqS _ _).trans (by kernel_rfl)
  have f6 : ((⟨#[108, 101]⟩ : ByteArray).toList == (⟨#[109, 97, 120]⟩ : ByteArray).toList) = false := (eqS _ _).trans (by kernel_rfl)
  have f7 : ((⟨#[108, 101]⟩ : ByteArray).toList == (⟨#[110, 101, 103]⟩ : ByteArray).toList) = false := (eqS _ _).trans (by kernel_rfl)
  have f8 : ((⟨#[108, 101]⟩ : ByteArray).toList == (⟨#[97, 98, 115]⟩ : ByteArray).toList) = false := (eqS _ _).trans (by kernel_rfl)
  have f9 : ((⟨#[108, 101]⟩ : ByteArray).toList == (⟨#[115, 105, 103, 110]⟩ : ByteArray).toList) = false := (eqS _ _).trans (by kernel_rfl)
  have f10 : ((⟨#[108, 101]⟩ : ByteArray).toList == (⟨#[108, 116]⟩ : ByteArray).toList) = false := (eqS _ _).trans (by kernel_rfl)
  have f11 : ((⟨#[108, 101]⟩ : ByteArray).toList == (⟨#[108, 101]⟩ : ByteArray).toList) = true := (eqS _ _).trans (by kernel_rfl)
  refine meets_of (X := true) Ty.mixed Tryd.func13 (by kernel_rfl) rfl (by kernel_rfl) (by simp) ?_; rw [Tryd.ntmps13, Tryd.results13]
  simp only [awp_skip, awp_reg, awp_seq, awp_cond, awp_block, awp_ret, seqQ_n, seqQ_r, blkQ_r, awpOps_nil, awpOps_one, awpOp_is, isCallV, putK_is, updK_is, put_s, upd_s, slot_is, slot.eq_1, retA_is, pureOp, apureO, astepO, bsEnd_is, killT, aev, cv, cvc, binK, elO_s, cellsA, cellOk, setAll, fillA, condA_t, condA_f, elemsA, chunk, isD_c, isDL_nil, isDL_cons, toD_c, toD_tup, toD_own, consO_some, toDL_nil, toDL_cons, notExit, resA_nil, resA_tmp, oneA_2, argT, isC, bsD, Bool.false_eq_true, ↓reduceIte, List.getElem?_cons_zero, List.length_cons, List.length_nil, List.map_cons, List.map_nil, List.cons_append, List.nil_append, List.set_cons_zero, List.set_cons_succ, Option.map_some, List.take_succ_cons, List.take_zero, List.drop_succ_cons, List.drop_zero, List.all_cons, List.all_nil, Bool.and_true, Bool.true_and, Bool.and_self, Value.oneCell', true_and, and_true, and_self, reduceCtorEq, Nat.reduceAdd, Nat.reduceMul, Nat.reduceLT, Nat.reduceLeDiff, Nat.reduceEqDiff, Nat.reduceMod, Nat.zero_add, List.range_succ, List.range_zero, Nat.le_refl, List.take_nil, Ty.td9, Ty.td26, f0, f1, f2, f3, f4, f5, f6, f7, f8, f9, f10, f11]
theorem rt12 : Meets Tryd.prog 13 [S ⟨#[103, 116]⟩] (typesV ⟨#[103, 116]⟩) := by
  have e : typesV ⟨#[103, 116]⟩ = .tup [.sl false 1 [[S ⟨#[105, 110, 116]⟩], [S ⟨#[105, 110, 116]⟩]], S ⟨#[98, 111, 111, 108]⟩, B true] := by kernel_rfl
  rw [e]
  have f0 : ((⟨#[103, 116]⟩ : ByteArray).toList == (⟨#[97, 100, 100]⟩ : ByteArray).toList) = false := (eqS _ _).trans (by kernel_rfl)
  have f1 : ((⟨#[103, 116]⟩ : ByteArray).toList == (⟨#[115, 117, 98]⟩ : ByteArray).toList) = false := (eqS _ _).trans (by kernel_rfl)
  have f2 : ((⟨#[103, 116]⟩ : ByteArray).toList == (⟨#[109, 117, 108]⟩ : ByteArray).toList) = false := (eqS _ _).trans (by kernel_rfl)
  have f3 : ((⟨#[103, 116]⟩ : ByteArray).toList == (⟨#[100, 105, 118]⟩ : ByteArray).toList) = false := (eqS _ _).trans (by kernel_rfl)
  have f4 : ((⟨#[103, 116]⟩ : ByteArray).toList == (⟨#[109, 111, 100]⟩ : ByteArray).toList) = false := (eqS _ _).trans (by kernel_rfl)
  have f5 : ((⟨#[103, 116]⟩ : ByteArray).toList == (⟨#[109, 105, 110]⟩ : ByteArray).toList) = false := (eqS _ _).trans (by kernel_rfl)
  have f6 : ((⟨#[103, 116]⟩ : ByteArray).toList == (⟨#[109, 97, 120]⟩ : ByteArray).toList) = false := (eqS _ _).trans (by kernel_rfl)
  have f7 : ((⟨#[103, 116]⟩ : ByteArray).toList == (⟨#[110, 101, 103]⟩ : ByteArray).toList) = false := (eqS _ _).trans (by kernel_rfl)
  have f8 : ((⟨#[103, 116]⟩ : ByteArray).toList == (⟨#[97, 98, 115]⟩ : ByteArray).toList) = false := (eqS _ _).trans (by kernel_rfl)
  have f9 : ((⟨#[103, 116]⟩ : ByteArray).toList == (⟨#[115, 105, 103, 110]⟩ : ByteArray).toList) = false := (eqS _ _).trans (by kernel_rfl)
  have f10 : ((⟨#[103, 116]⟩ : ByteArray).toList == (⟨#[108, 116]⟩ : ByteArray).toList) = false := (eqS _ _).trans (by kernel_rfl)
  have f11 : ((⟨#[103, 116]⟩ : ByteArray).toList == (⟨#[108, 101]⟩ : ByteArray).toList) = false := (eqS _ _).trans (by kernel_rfl)
  have f12 : ((⟨#[103, 116]⟩ : ByteArray).toList == (⟨#[103, 116]⟩ : ByteArray).toList) = true := (eqS _ _).trans (by kernel_rfl)
  refine meets_of (X := true) Ty.mixed Tryd.func13 (by kernel_rfl) rfl (by kernel_rfl) (by simp) ?_; rw [Tryd.ntmps13, Tryd.results13]
  simp only [awp_skip, awp_reg, awp_seq, awp_cond, awp_block, awp_ret, seqQ_n, seqQ_r, blkQ_r, awpOps_nil, awpOps_one, awpOp_is, isCallV, putK_is, updK_is, put_s, upd_s, slot_is, slot.eq_1, retA_is, pureOp, apureO, astepO, bsEnd_is, killT, aev, cv, cvc, binK, elO_s, cellsA, cellOk, setAll, fillA, condA_t, condA_f, elemsA, chunk, isD_c, isDL_nil, isDL_cons, toD_c, toD_tup, toD_own, consO_some, toDL_nil, toDL_cons, notExit, resA_nil, resA_tmp, oneA_2, argT, isC, bsD, Bool.false_eq_true, ↓reduceIte, List.getElem?_cons_zero, List.length_cons, List.length_nil, List.map_cons, List.map_nil, List.cons_append, List.nil_append, List.set_cons_zero, List.set_cons_succ, Option.map_some, List.take_succ_cons, List.take_zero, List.drop_succ_cons, List.drop_zero, List.all_cons, List.all_nil, Bool.and_true, Bool.true_and, Bool.and_self, Value.oneCell', true_and, and_true, and_self, reduceCtorEq, Nat.reduceAdd, Nat.reduceMul, Nat.reduceLT, Nat.reduceLeDiff, Nat.reduceEqDiff, Nat.reduceMod, Nat.zero_add, List.range_succ, List.range_zero, Nat.le_refl, List.take_nil, Ty.td9, Ty.td26, f0, f1, f2, f3, f4, f5, f6, f7, f8, f9, f10, f11, f12]
theorem rt13 : Meets Tryd.prog 13 [S ⟨#[103, 101]⟩] (typesV ⟨#[103, 101]⟩) := by
  have e : typesV ⟨#[103, 101]⟩ = .tup [.sl false 1 [[S ⟨#[105, 110, 116]⟩], [S ⟨#[105, 110, 116]⟩]], S ⟨#[98, 111, 111, 108]⟩, B true] := by kernel_rfl
  rw [e]
  have f0 : ((⟨#[103, 101]⟩ : ByteArray).toList == (⟨#[97, 100, 100]⟩ : ByteArray).toList) = false := (eqS _ _).trans (by kernel_rfl)
  have f1 : ((⟨#[103, 101]⟩ : ByteArray).toList == (⟨#[115, 117, 98]⟩ : ByteArray).toList) = false := (eqS _ _).trans (by kernel_rfl)
  have f2 : ((⟨#[103, 101]⟩ : ByteArray).toList == (⟨#[109, 117, 108]⟩ : ByteArray).toList) = false := (eqS _ _).trans (by kernel_rfl)
  have f3 : ((⟨#[103, 101]⟩ : ByteArray).toList == (⟨#[100, 105, 118]⟩ : ByteArray).toList) = false := (eqS _ _).trans (by kernel_rfl)
  have f4 : ((⟨#[103, 101]⟩ : ByteArray).toList == (⟨#[109, 111, 100]⟩ : ByteArray).toList) = false := (eqS _ _).trans (by kernel_rfl)
  have f5 : ((⟨#[103, 101]⟩ : ByteArray).toList == (⟨#[109, 105, 110]⟩ : ByteArray).toList) = false := (eqS _ _).trans (by kernel_rfl)
  have f6 : ((⟨#[103, 101]⟩ : ByteArray).toList == (⟨#[109, 97, 120]⟩ : ByteArray).toList) = false := (eqS _ _).trans (by kernel_rfl)
  have f7 : ((⟨#[103, 101]⟩ : ByteArray).toList == (⟨#[110, 101, 103]⟩ : ByteArray).toList) = false := (eqS _ _).trans (by kernel_rfl)
  have f8 : ((⟨#[103, 101]⟩ : ByteArray).toList == (⟨#[97, 98, 115]⟩ : ByteArray).toList) = false := (eqS _ _).trans (by kernel_rfl)
  have f9 : ((⟨#[103, 101]⟩ : ByteArray).toList == (⟨#[115, 105, 103, 110]⟩ : ByteArray).toList) = false := (eqS _ _).trans (by kernel_rfl)
  have f10 : ((⟨#[103, 101]⟩ : ByteArray).toList == (⟨#[108, 116]⟩ : ByteArray).toList) = false := (eqS _ _).trans (by kernel_rfl)
  have f11 : ((⟨#[103, 101]⟩ : ByteArray).toList == (⟨#[108, 101]⟩ : ByteArray).toList) = false := (eqS _ _).trans (by kernel_rfl)
  have f12 : ((⟨#[103, 101]⟩ : ByteArray).toList == (⟨#[103, 116]⟩ : ByteArray).toList) = false := (eqS _ _).trans (by kernel_rfl)
  have f13 : ((⟨#[103, 101]⟩ : ByteArray).toList == (⟨#[103, 101]⟩ : ByteArray).toList) = true := (eqS _ _).trans (by kernel_rfl)
  refine meets_of (X := true) Ty.mixed Tryd.func13 (by kernel_rfl) rfl (by kernel_rfl) (by simp) ?_; rw [Tryd.ntmps13, Tryd.results13]
  simp only [awp_reg, awp_seq, awp_cond, awp_block, awp_ret, seqQ_n, seqQ_r, blkQ_r, awpOps_nil, awpOps_one, awpOp_is, isCallV, putK_is, updK_is, put_s, upd_s, slot_is, slot.eq_1, retA_is, pureOp, apureO, astepO, bsEnd_is, killT, aev, cv, cvc, binK, elO_s, cellsA, cellOk, setAll, fillA, condA_t, condA_f, elemsA, chunk, isD_c, isDL_nil, isDL_cons, toD_c, toD_tup, toD_own, consO_some, toDL_nil, toDL_cons, notExit, resA_nil, resA_tmp, oneA_2, argT, isC, bsD, Bool.false_eq_true, ↓reduceIte, List.getElem?_cons_zero, List.length_cons, List.length_nil, List.map_cons, List.map_nil, List.cons_append, List.nil_append, List.set_cons_zero, List.set_cons_succ, Option.map_some, List.take_succ_cons, List.take_zero, List.drop_succ_cons, List.drop_zero, List.all_cons, List.all_nil, Bool.and_true, Bool.true_and, Bool.and_self, Value.oneCell', true_and, and_true, and_self, reduceCtorEq, Nat.reduceAdd, Nat.reduceMul, Nat.reduceLT, Nat.reduceLeDiff, Nat.reduceEqDiff, Nat.reduceMod, Nat.zero_add, List.range_succ, List.range_zero, Nat.le_refl, List.take_nil, Ty.td9, Ty.td26, f0, f1, f2, f3, f4, f5, f6, f7, f8, f9, f10, f11, f12, f13]
theorem rt14 : Meets Tryd.prog 13 [S ⟨#[101, 113]⟩] (typesV ⟨#[101, 113]⟩) := by
  have e : typesV ⟨#[101, 113]⟩ = .tup [.sl false 1 [[S ⟨#[65]⟩], [S ⟨#[65]⟩]], S ⟨#[98, 111, 111, 108]⟩, B true] := by kernel_rfl
  rw [e]
  have f0 : ((⟨#[101, 113]⟩ : ByteArray).toList == (⟨#[97, 100, 100]⟩ : ByteArray).toList) = false := (eqS _ _).trans (by kernel_rfl)
  have f1 : ((⟨#[101, 113]⟩ : ByteArray).toList == (⟨#[115, 117, 98]⟩ : ByteArray).toList) = false := (eqS _ _).trans (by kernel_rfl)
  have f2 : ((⟨#[101, 113]⟩ : ByteArray).toList == (⟨#[109, 117, 108]⟩ : ByteArray).toList) = false := (eqS _ _).trans (by kernel_rfl)
  have f3 : ((⟨#[101, 113]⟩ : ByteArray).toList == (⟨#[100, 105, 118]⟩ : ByteArray).toList) = false := (eqS _ _).trans (by kernel_rfl)
  have f4 : ((⟨#[101, 113]⟩ : ByteArray).toList == (⟨#[109, 111, 100]⟩ : ByteArray).toList) = false := (eqS _ _).trans (by kernel_rfl)
  have f5 : ((⟨#[101, 113]⟩ : ByteArray).toList == (⟨#[109, 105, 110]⟩ : ByteArray).toList) = false := (eqS _ _).trans (by kernel_rfl)
  have f6 : ((⟨#[101, 113]⟩ : ByteArray).toList == (⟨#[109, 97, 120]⟩ : ByteArray).toList) = false := (eqS _ _).trans (by kernel_rfl)
  have f7 : ((⟨#[101, 113]⟩ : ByteArray).toList == (⟨#[110, 101, 103]⟩ : ByteArray).toList) = false := (eqS _ _).trans (by kernel_rfl)
  have f8 : ((⟨#[101, 113]⟩ : ByteArray).toList == (⟨#[97, 98, 115]⟩ : ByteArray).toList) = false := (eqS _ _).trans (by kernel_rfl)
  have f9 : ((⟨#[101, 113]⟩ : ByteArray).toList == (⟨#[115, 105, 103, 110]⟩ : ByteArray).toList) = false := (eqS _ _).trans (by kernel_rfl)
  have f10 : ((⟨#[101, 113]⟩ : ByteArray).toList == (⟨#[108, 116]⟩ : ByteArray).toList) = false := (eqS _ _).trans (by kernel_rfl)
  have f11 : ((⟨#[101, 113]⟩ : ByteArray).toList == (⟨#[108, 101]⟩ : ByteArray).toList) = false := (eqS _ _).trans (by kernel_rfl)
  have f12 : ((⟨#[101, 113]⟩ : ByteArray).toList == (⟨#[103, 116]⟩ : ByteArray).toList) = false := (eqS _ _).trans (by kernel_rfl)
  have f13 : ((⟨#[101, 113]⟩ : ByteArray).toList == (⟨#[103, 101]⟩ : ByteArray).toList) = false := (eqS _ _).trans (by kernel_rfl)
  have f14 : ((⟨#[101, 113]⟩ : ByteArray).toList == (⟨#[101, 113]⟩ : ByteArray).toList) = true := (eqS _ _).trans (by kernel_rfl)
  refine meets_of (X := true) Ty.mixed Tryd.func13 (by kernel_rfl) rfl (by kernel_rfl) (by simp) ?_; rw [Tryd.ntmps13, Tryd.results13]
  simp only [awp_skip, awp_reg, awp_seq, awp_cond, awp_block, awp_ret, seqQ_n, seqQ_r, blkQ_r, awpOps_nil, awpOps_one, awpOp_is, isCallV, putK_is, updK_is, put_s, upd_s, slot_is, slot.eq_1, retA_is, pureOp, apureO, astepO, bsEnd_is, killT, aev, cv, cvc, binK, elO_s, cellsA, cellOk, setAll, fillA, condA_t, condA_f, elemsA, chunk, isD_c, isDL_nil, isDL_cons, toD_c, toD_tup, toD_own, consO_some, toDL_nil, toDL_cons, notExit, resA_nil, resA_tmp, oneA_2, argT, isC, bsD, Bool.false_eq_true, ↓reduceIte, List.getElem?_cons_zero, List.length_cons, List.length_nil, List.map_cons, List.map_nil, List.cons_append, List.nil_append, List.set_cons_zero, List.set_cons_succ, Option.map_some, List.take_succ_cons, List.take_zero, List.drop_succ_cons, List.drop_zero, List.all_cons, List.all_nil, Bool.and_true, Bool.true_and, Bool.and_self, Value.oneCell', true_and, and_true, and_self, reduceCtorEq, Nat.reduceAdd, Nat.reduceMul, Nat.reduceLT, Nat.reduceLeDiff, Nat.reduceEqDiff, Nat.reduceMod, Nat.zero_add, List.range_succ, List.range_zero, Nat.le_refl, List.take_nil, Ty.td9, Ty.td26, f0, f1, f2, f3, f4, f5, f6, f7, f8, f9, f10, f11, f12, f13, f14]
theorem rt15 : Meets Tryd.prog 13 [S ⟨#[110, 101]⟩] (typesV ⟨#[110, 101]⟩) := by
  have e : typesV ⟨#[110, 101]⟩ = .tup [.sl false 1 [[S ⟨#[65]⟩], [S ⟨#[65]⟩]], S ⟨#[98, 111, 111, 108]⟩, B true] := by kernel_rfl
  rw [e]
  have f0 : ((⟨#[110, 101]⟩ : ByteArray).toList == (⟨#[97, 100, 100]⟩ : ByteArray).toList) = false := (eqS _ _).trans (by kernel_rfl)
  have f1 : ((⟨#[110, 101]⟩ : ByteArray).toList == (⟨#[115, 117, 98]⟩ : ByteArray).toList) = false := (eqS _ _).trans (by kernel_rfl)
  have f2 : ((⟨#[110, 101]⟩ : ByteArray).toList == (⟨#[109, 117, 108]⟩ : ByteArray).toList) = false := (eqS _ _).trans (by kernel_rfl)
  have f3 : ((⟨#[110, 101]⟩ : ByteArray).toList == (⟨#[100, 105, 118]⟩ : ByteArray).toList) = false := (eqS _ _).trans (by kernel_rfl)
  have f4 : ((⟨#[110, 101]⟩ : ByteArray).toList == (⟨#[109, 111, 100]⟩ : ByteArray).toList) = false := (eqS _ _).trans (by kernel_rfl)
  have f5 : ((⟨#[110, 101]⟩ : ByteArray).toList == (⟨#[109, 105, 110]⟩ : ByteArray).toList) = false := (eqS _ _).trans (by kernel_rfl)
  have f6 : ((⟨#[110, 101]⟩ : ByteArray).toList == (⟨#[109, 97, 120]⟩ : ByteArray).toList) = false := (eqS _ _).trans (by kernel_rfl)
  have f7 : ((⟨#[110, 101]⟩ : ByteArray).toList == (⟨#[110, 101, 103]⟩ : ByteArray).toList) = false := (eqS _ _).trans (by kernel_rfl)
  have f8 : ((⟨#[110, 101]⟩ : ByteArray).toList == (⟨#[97, 98, 115]⟩ : ByteArray).toList) = false := (eqS _ _).trans (by kernel_rfl)
  have f9 : ((⟨#[110, 101]⟩ : ByteArray).toList == (⟨#[115, 105, 103, 110]⟩ : ByteArray).toList) = false := (eqS _ _).trans (by kernel_rfl)
  have f10 : ((⟨#[110, 101]⟩ : ByteArray).toList == (⟨#[108, 116]⟩ : ByteArray).toList) = false := (eqS _ _).trans (by kernel_rfl)
  have f11 : ((⟨#[110, 101]⟩ : ByteArray).toList == (⟨#[108, 101]⟩ : ByteArray).toList) = false := (eqS _ _).trans (by kernel_rfl)
  have f12 : ((⟨#[110, 101]⟩ : ByteArray).toList == (⟨#[103, 116]⟩ : ByteArray).toList) = false := (eqS _ _).trans (by kernel_rfl)
  have f13 : ((⟨#[110, 101]⟩ : ByteArray).toList == (⟨#[103, 101]⟩ : ByteArray).toList) = false := (eqS _ _).trans (by kernel_rfl)
  have f14 : ((⟨#[110, 101]⟩ : ByteArray).toList == (⟨#[101, 113]⟩ : ByteArray).toList) = false := (eqS _ _).trans (by kernel_rfl)
  have f15 : ((⟨#[110, 101]⟩ : ByteArray).toList == (⟨#[110, 101]⟩ : ByteArray).toList) = true := (eqS _ _).trans (by kernel_rfl)
  refine meets_of (X := true) Ty.mixed Tryd.func13 (by kernel_rfl) rfl (by kernel_rfl) (by simp) ?_; rw [Tryd.ntmps13, Tryd.results13]
  simp only [awp_reg, awp_seq, awp_cond, awp_block, awp_ret, seqQ_n, seqQ_r, blkQ_r, awpOps_nil, awpOps_one, awpOp_is, isCallV, putK_is, updK_is, put_s, upd_s, slot_is, slot.eq_1, retA_is, pureOp, apureO, astepO, bsEnd_is, killT, aev, cv, cvc, binK, elO_s, cellsA, cellOk, setAll, fillA, condA_t, condA_f, elemsA, chunk, isD_c, isDL_nil, isDL_cons, toD_c, toD_tup, toD_own, consO_some, toDL_nil, toDL_cons, notExit, resA_nil, resA_tmp, oneA_2, argT, isC, bsD, Bool.false_eq_true, ↓reduceIte, List.getElem?_cons_zero, List.length_cons, List.length_nil, List.map_cons, List.map_nil, List.cons_append, List.nil_append, List.set_cons_zero, List.set_cons_succ, Option.map_some, List.take_succ_cons, List.take_zero, List.drop_succ_cons, List.drop_zero, List.all_cons, List.all_nil, Bool.and_true, Bool.true_and, Bool.and_self, Value.oneCell', true_and, and_true, and_self, reduceCtorEq, Nat.reduceAdd, Nat.reduceMul, Nat.reduceLT, Nat.reduceLeDiff, Nat.reduceEqDiff, Nat.reduceMod, Nat.zero_add, List.range_succ, List.range_zero, Nat.le_refl, List.take_nil, Ty.td9, Ty.td26, f0, f1, f2, f3, f4, f5, f6, f7, f8, f9, f10, f11, f12, f13, f14, f15]
theorem rt16 : Meets Tryd.prog 13 [S ⟨#[97, 110, 100]⟩] (typesV ⟨#[97, 110, 100]⟩) := by
  have e : typesV ⟨#[97, 110, 100]⟩ = .tup [.sl false 1 [[S ⟨#[98, 111, 111, 108]⟩], [S ⟨#[98, 111, 111, 108]⟩]], S ⟨#[98, 111, 111, 108]⟩, B true] := by kernel_rfl
  rw [e]
  have f0 : ((⟨#[97, 110, 100]⟩ : ByteArray).toList == (⟨#[97, 100, 100]⟩ : ByteArray).toList) = false := (eqS _ _).trans (by kernel_rfl)
  have f1 : ((⟨#[97, 110, 100]⟩ : ByteArray).toList == (⟨#[115, 117, 98]⟩ : ByteArray).toList) = false := (eqS _ _).trans (by kernel_rfl)
  have f2 : ((⟨#[97, 110, 100]⟩ : ByteArray).toList == (⟨#[109, 117, 108]⟩ : ByteArray).toList) = false := (eqS _ _).trans (by kernel_rfl)
  have f3 : ((⟨#[97, 110, 100]⟩ : ByteArray).toList == (⟨#[100, 105, 118]⟩ : ByteArray).toList) = false := (eqS _ _).trans (by kernel_rfl)
  have f4 : ((⟨#[97, 110, 100]⟩ : ByteArray).toList == (⟨#[109, 111, 100]⟩ : ByteArray).toList) = false := (eqS _ _).trans (by kernel_rfl)
  have f5 : ((⟨#[97, 110, 100]⟩ : ByteArray).toList == (⟨#[109, 105, 110]⟩ : ByteArray).toList) = false := (eqS _ _).trans (by kernel_rfl)
  have f6 : ((⟨#[97, 110, 100]⟩ : ByteArray).toList == (⟨#[109, 97, 120]⟩ : ByteArray).toList) = false := (eqS _ _).trans (by kernel_rfl)
  have f7 : ((⟨#[97, 110, 100]⟩ : ByteArray).toList == (⟨#[110, 101, 103]⟩ : ByteArray).toList) = false := (eqS _ _).trans (by kernel_rfl)
  have f8 : ((⟨#[97, 110, 100]⟩ : ByteArray).toList == (⟨#[97, 98, 115]⟩ : ByteArray).toList) = false := (eqS _ _).trans (by kernel_rfl)
  have f9 : ((⟨#[97, 110, 100]⟩ : ByteArray).toList == (⟨#[115, 105, 103, 110]⟩ : ByteArray).toList) = false := (eqS _ _).trans (by kernel_rfl)
  have f10 : ((⟨#[97, 110, 100]⟩ : ByteArray).toList == (⟨#[108, 116]⟩ : ByteArray).toList) = false := (eqS _ _).trans (by kernel_rfl)
  have f11 : ((⟨#[97, 110, 100]⟩ : ByteArray).toList == (⟨#[108, 101]⟩ : ByteArray).toList) = false := (eqS _ _).trans (by kernel_rfl)
  have f12 : ((⟨#[97, 110, 100]⟩ : ByteArray).toList == (⟨#[103, 116]⟩ : ByteArray).toList) = false := (eqS _ _).trans (by kernel_rfl)
  have f13 : ((⟨#[97, 110, 100]⟩ : ByteArray).toList == (⟨#[103, 101]⟩ : ByteArray).toList) = false := (eqS _ _).trans (by kernel_rfl)
  have f14 : ((⟨#[97, 110, 100]⟩ : ByteArray).toList == (⟨#[101, 113]⟩ : ByteArray).toList) = false := (eqS _ _).trans (by kernel_rfl)
  have f15 : ((⟨#[97, 110, 100]⟩ : ByteArray).toList == (⟨#[110, 101]⟩ : ByteArray).toList) = false := (eqS _ _).trans (by kernel_rfl)
  have f16 : ((⟨#[97, 110, 100]⟩ : ByteArray).toList == (⟨#[97, 110, 100]⟩ : ByteArray).toList) = true := (eqS _ _).trans (by kernel_rfl)
  refine meets_of (X := true) Ty.mixed Tryd.func13 (by kernel_rfl) rfl (by kernel_rfl) (by simp) ?_; rw [Tryd.ntmps13, Tryd.results13]
  simp only [awp_skip, awp_reg, awp_seq, awp_cond, awp_block, awp_ret, seqQ_n, seqQ_r, blkQ_r, awpOps_nil, awpOps_one, awpOp_is, isCallV, putK_is, updK_is, put_s, upd_s, slot_is, slot.eq_1, retA_is, pureOp, apureO, astepO, bsEnd_is, killT, aev, cv, cvc, binK, elO_s, cellsA, cellOk, setAll, fillA, condA_t, condA_f, elemsA, chunk, isD_c, isDL_nil, isDL_cons, toD_c, toD_tup, toD_own, consO_some, toDL_nil, toDL_cons, notExit, resA_nil, resA_tmp, oneA_2, argT, isC, bsD, Bool.false_eq_true, ↓reduceIte, List.getElem?_cons_zero, List.length_cons, List.length_nil, List.map_cons, List.map_nil, List.cons_append, List.nil_append, List.set_cons_zero, List.set_cons_succ, Option.map_some, List.take_succ_cons, List.take_zero, List.drop_succ_cons, List.drop_zero, List.all_cons, List.all_nil, Bool.and_true, Bool.true_and, Bool.and_self, Value.oneCell', true_and, and_true, and_self, reduceCtorEq, Nat.reduceAdd, Nat.reduceMul, Nat.reduceLT, Nat.reduceLeDiff, Nat.reduceEqDiff, Nat.reduceMod, Nat.zero_add, List.range_succ, List.range_zero, Nat.le_refl, List.take_nil, Ty.td9, Ty.td26, f0, f1, f2, f3, f4, f5, f6, f7, f8, f9, f10, f11, f12, f13, f14, f15, f16]
theorem rt17 : Meets Tryd.prog 13 [S ⟨#[111, 114]⟩] (typesV ⟨#[111, 114]⟩) := by
  have e : typesV ⟨#[111, 114]⟩ = .tup [.sl false 1 [[S ⟨#[98, 111, 111, 108]⟩], [S ⟨#[98, 111, 111, 108]⟩]], S ⟨#[98, 111, 111, 108]⟩, B true] := by kernel_rfl
  rw [e]
  have f0 : ((⟨#[111, 114]⟩ : ByteArray).toList == (⟨#[97, 100, 100]⟩ : ByteArray).toList) = false := (eqS _ _).trans (by kernel_rfl)
  have f1 : ((⟨#[111, 114]⟩ : ByteArray).toList == (⟨#[115, 117, 98]⟩ : ByteArray).toList) = false := (eqS _ _).trans (by kernel_rfl)
  have f2 : ((⟨#[111, 114]⟩ : ByteArray).toList == (⟨#[109, 117, 108]⟩ : ByteArray).toList) = false := (eqS _ _).trans (by kernel_rfl)
  have f3 : ((⟨#[111, 114]⟩ : ByteArray).toList == (⟨#[100, 105, 118]⟩ : ByteArray).toList) = false := (eqS _ _).trans (by kernel_rfl)
  have f4 : ((⟨#[111, 114]⟩ : ByteArray).toList == (⟨#[109, 111, 100]⟩ : ByteArray).toList) = false := (eqS _ _).trans (by kernel_rfl)
  have f5 : ((⟨#[111, 114]⟩ : ByteArray).toList == (⟨#[109, 105, 110]⟩ : ByteArray).toList) = false := (eqS _ _).trans (by kernel_rfl)
  have f6 : ((⟨#[111, 114]⟩ : ByteArray).toList == (⟨#[109, 97, 120]⟩ : ByteArray).toList) = false := (eqS _ _).trans (by kernel_rfl)
  have f7 : ((⟨#[111, 114]⟩ : ByteArray).toList == (⟨#[110, 101, 103]⟩ : ByteArray).toList) = false := (eqS _ _).trans (by kernel_rfl)
  have f8 : ((⟨#[111, 114]⟩ : ByteArray).toList == (⟨#[97, 98, 115]⟩ : ByteArray).toList) = false := (eqS _ _).trans (by kernel_rfl)
  have f9 : ((⟨#[111, 114]⟩ : ByteArray).toList == (⟨#[115, 105, 103, 110]⟩ : ByteArray).toList) = false := (eqS _ _).trans (by kernel_rfl)
  have f10 : ((⟨#[111, 114]⟩ : ByteArray).toList == (⟨#[108, 116]⟩ : ByteArray).toList) = false := (eqS _ _).trans (by kernel_rfl)
  have f11 : ((⟨#[111, 114]⟩ : ByteArray).toList == (⟨#[108, 101]⟩ : ByteArray).toList) = false := (eqS _ _).trans (by kernel_rfl)
  have f12 : ((⟨#[111, 114]⟩ : ByteArray).toList == (⟨#[103, 116]⟩ : ByteArray).toList) = false := (eqS _ _).trans (by kernel_rfl)
  have f13 : ((⟨#[111, 114]⟩ : ByteArray).toList == (⟨#[103, 101]⟩ : ByteArray).toList) = false := (eqS _ _).trans (by kernel_rfl)
  have f14 : ((⟨#[111, 114]⟩ : ByteArray).toList == (⟨#[101, 113]⟩ : ByteArray).toList) = false := (eqS _ _).trans (by kernel_rfl)
  have f15 : ((⟨#[111, 114]⟩ : ByteArray).toList == (⟨#[110, 101]⟩ : ByteArray).toList) = false := (eqS _ _).trans (by kernel_rfl)
  have f16 : ((⟨#[111, 114]⟩ : ByteArray).toList == (⟨#[97, 110, 100]⟩ : ByteArray).toList) = false := (eqS _ _).trans (by kernel_rfl)
  have f17 : ((⟨#[111, 114]⟩ : ByteArray).toList == (⟨#[111, 114]⟩ : ByteArray).toList) = true := (eqS _ _).trans (by kernel_rfl)
  refine meets_of (X := true) Ty.mixed Tryd.func13 (by kernel_rfl) rfl (by kernel_rfl) (by simp) ?_; rw [Tryd.ntmps13, Tryd.results13]
  simp only [awp_skip, awp_reg, awp_seq, awp_cond, awp_block, awp_ret, seqQ_n, seqQ_r, blkQ_r, awpOps_nil, awpOps_one, awpOp_is, isCallV, putK_is, updK_is, put_s, upd_s, slot_is, slot.eq_1, retA_is, pureOp, apureO, astepO, bsEnd_is, killT, aev, cv, cvc, binK, elO_s, cellsA, cellOk, setAll, fillA, condA_t, condA_f, elemsA, chunk, isD_c, isDL_nil, isDL_cons, toD_c, toD_tup, toD_own, consO_some, toDL_nil, toDL_cons, notExit, resA_nil, resA_tmp, oneA_2, argT, isC, bsD, Bool.false_eq_true, ↓reduceIte, List.getElem?_cons_zero, List.length_cons, List.length_nil, List.map_cons, List.map_nil, List.cons_append, List.nil_append, List.set_cons_zero, List.set_cons_succ, Option.map_some, List.take_succ_cons, List.take_zero, List.drop_succ_cons, List.drop_zero, List.all_cons, List.all_nil, Bool.and_true, Bool.true_and, Bool.and_self, Value.oneCell', true_and, and_true, and_self, reduceCtorEq, Nat.reduceAdd, Nat.reduceMul, Nat.reduceLT, Nat.reduceLeDiff, Nat.reduceEqDiff, Nat.reduceMod, Nat.zero_add, List.range_succ, List.range_zero, Nat.le_refl, List.take_nil, Ty.td9, Ty.td26, f0, f1, f2, f3, f4, f5, f6, f7, f8, f9, f10, f11, f12, f13, f14, f15, f16, f17]
theorem rt18 : Meets Tryd.prog 13 [S ⟨#[120, 111, 114]⟩] (typesV ⟨#[120, 111, 114]⟩) := by
  have e : typesV ⟨#[120, 111, 114]⟩ = .tup [.sl false 1 [[S ⟨#[98, 111, 111, 108]⟩], [S ⟨#[98, 111, 111, 108]⟩]], S ⟨#[98, 111, 111, 108]⟩, B true] := by kernel_rfl
  rw [e]
  have f0 : ((⟨#[120, 111, 114]⟩ : ByteArray).toList == (⟨#[97, 100, 100]⟩ : ByteArray).toList) = false := (eqS _ _).trans (by kernel_rfl)
  have f1 : ((⟨#[120, 111, 114]⟩ : ByteArray).toList == (⟨#[115, 117, 98]⟩ : ByteArray).toList) = false := (eqS _ _).trans (by kernel_rfl)
  have f2 : ((⟨#[120, 111, 114]⟩ : ByteArray).toList == (⟨#[109, 117, 108]⟩ : ByteArray).toList) = false := (eqS _ _).trans (by kernel_rfl)
  have f3 : ((⟨#[120, 111, 114]⟩ : ByteArray).toList == (⟨#[100, 105, 118]⟩ : ByteArray).toList) = false := (eqS _ _).trans (by kernel_rfl)
  have f4 : ((⟨#[120, 111, 114]⟩ : ByteArray).toList == (⟨#[109, 111, 100]⟩ : ByteArray).toList) = false := (eqS _ _).trans (by kernel_rfl)
  have f5 : ((⟨#[120, 111, 114]⟩ : ByteArray).toList == (⟨#[109, 105, 110]⟩ : ByteArray).toList) = false := (eqS _ _).trans (by kernel_rfl)
  have f6 : ((⟨#[120, 111, 114]⟩ : ByteArray).toList == (⟨#[109, 97, 120]⟩ : ByteArray).toList) = false := (eqS _ _).trans (by kernel_rfl)
  have f7 : ((⟨#[120, 111, 114]⟩ : ByteArray).toList == (⟨#[110, 101, 103]⟩ : ByteArray).toList) = false := (eqS _ _).trans (by kernel_rfl)
  have f8 : ((⟨#[120, 111, 114]⟩ : ByteArray).toList == (⟨#[97, 98, 115]⟩ : ByteArray).toList) = false := (eqS _ _).trans (by kernel_rfl)
  have f9 : ((⟨#[120, 111, 114]⟩ : ByteArray).toList == (⟨#[115, 105, 103, 110]⟩ : ByteArray).toList) = false := (eqS _ _).trans (by kernel_rfl)
  have f10 : ((⟨#[120, 111, 114]⟩ : ByteArray).toList == (⟨#[108, 116]⟩ : ByteArray).toList) = false := (eqS _ _).trans (by kernel_rfl)
  have f11 : ((⟨#[120, 111, 114]⟩ : ByteArray).toList == (⟨#[108, 101]⟩ : ByteArray).toList) = false := (eqS _ _).trans (by kernel_rfl)
  have f12 : ((⟨#[120, 111, 114]⟩ : ByteArray).toList == (⟨#[103, 116]⟩ : ByteArray).toList) = false := (eqS _ _).trans (by kernel_rfl)
  have f13 : ((⟨#[120, 111, 114]⟩ : ByteArray).toList == (⟨#[103, 101]⟩ : ByteArray).toList) = false := (eqS _ _).trans (by kernel_rfl)
  have f14 : ((⟨#[120, 111, 114]⟩ : ByteArray).toList == (⟨#[101, 113]⟩ : ByteArray).toList) = false := (eqS _ _).trans (by kernel_rfl)
  have f15 : ((⟨#[120, 111, 114]⟩ : ByteArray).toList == (⟨#[110, 101]⟩ : ByteArray).toList) = false := (eqS _ _).trans (by kernel_rfl)
  have f16 : ((⟨#[120, 111, 114]⟩ : ByteArray).toList == (⟨#[97, 110, 100]⟩ : ByteArray).toList) = false := (eqS _ _).trans (by kernel_rfl)
  have f17 : ((⟨#[120, 111, 114]⟩ : ByteArray).toList == (⟨#[111, 114]⟩ : ByteArray).toList) = false := (eqS _ _).trans (by kernel_rfl)
  have f18 : ((⟨#[120, 111, 114]⟩ : ByteArray).toList == (⟨#[120, 111, 114]⟩ : ByteArray).toList) = true := (eqS _ _).trans (by kernel_rfl)
  refine meets_of (X := true) Ty.mixed Tryd.func13 (by kernel_rfl) rfl (by kernel_rfl) (by simp) ?_; rw [Tryd.ntmps13, Tryd.results13]
  simp only [awp_reg, awp_seq, awp_cond, awp_block, awp_ret, seqQ_n, seqQ_r, blkQ_r, awpOps_nil, awpOps_one, awpOp_is, isCallV, putK_is, updK_is, put_s, upd_s, slot_is, slot.eq_1, retA_is, pureOp, apureO, astepO, bsEnd_is, killT, aev, cv, cvc, binK, elO_s, cellsA, cellOk, setAll, fillA, condA_t, condA_f, elemsA, chunk, isD_c, isDL_nil, isDL_cons, toD_c, toD_tup, toD_own, consO_some, toDL_nil, toDL_cons, notExit, resA_nil, resA_tmp, oneA_2, argT, isC, bsD, Bool.false_eq_true, ↓reduceIte, List.getElem?_cons_zero, List.length_cons, List.length_nil, List.map_cons, List.map_nil, List.cons_append, List.nil_append, List.set_cons_zero, List.set_cons_succ, Option.map_some, List.take_succ_cons, List.take_zero, List.drop_succ_cons, List.drop_zero, List.all_cons, List.all_nil, Bool.and_true, Bool.true_and, Bool.and_self, Value.oneCell', true_and, and_true, and_self, reduceCtorEq, Nat.reduceAdd, Nat.reduceMul, Nat.reduceLT, Nat.reduceLeDiff, Nat.reduceEqDiff, Nat.reduceMod, Nat.zero_add, List.range_succ, List.range_zero, Nat.le_refl, List.take_nil, Ty.td9, Ty.td26, f0, f1, f2, f3, f4, f5, f6, f7, f8, f9, f10, f11, f12, f13, f14, f15, f16, f17, f18]
theorem rt19 : Meets Tryd.prog 13 [S ⟨#[110, 111, 116]⟩] (typesV ⟨#[110, 111, 116]⟩) := by
  have e : typesV ⟨#[110, 111, 116]⟩ = .tup [.sl false 1 [[S ⟨#[98, 111, 111, 108]⟩]], S ⟨#[98, 111, 111, 108]⟩, B true] := by kernel_rfl
  rw [e]
  have f0 : ((⟨#[110, 111, 116]⟩ : ByteArray).toList == (⟨#[97, 100, 100]⟩ : ByteArray).toList) = false := (eqS _ _).trans (by kernel_rfl)
  have f1 : ((⟨#[110, 111, 116]⟩ : ByteArray).toList == (⟨#[115, 117, 98]⟩ : ByteArray).toList) = false := (eqS _ _).trans (by kernel_rfl)
  have f2 : ((⟨#[110, 111, 116]⟩ : ByteArray).toList == (⟨#[109, 117, 108]⟩ : ByteArray).toList) = false := (eqS _ _).trans (by kernel_rfl)
  have f3 : ((⟨#[110, 111, 116]⟩ : ByteArray).toList == (⟨#[100, 105, 118]⟩ : ByteArray).toList) = false := (eqS _ _).trans (by kernel_rfl)
  have f4 : ((⟨#[110, 111, 116]⟩ : ByteArray).toList == (⟨#[109, 111, 100]⟩ : ByteArray).toList) = false := (eqS _ _).trans (by kernel_rfl)
  have f5 : ((⟨#[110, 111, 116]⟩ : ByteArray).toList == (⟨#[109, 105, 110]⟩ : ByteArray).toList) = false := (eqS _ _).trans (by kernel_rfl)
  have f6 : ((⟨#[110, 111, 116]⟩ : ByteArray).toList == (⟨#[109, 97, 120]⟩ : ByteArray).toList) = false := (eqS _ _).trans (by kernel_rfl)
  have f7 : ((⟨#[110, 111, 116]⟩ : ByteArray).toList == (⟨#[110, 101, 103]⟩ : ByteArray).toList) = false := (eqS _ _).trans (by kernel_rfl)
  have f8 : ((⟨#[110, 111, 116]⟩ : ByteArray).toList == (⟨#[97, 98, 115]⟩ : ByteArray).toList) = false := (eqS _ _).trans (by kernel_rfl)
  have f9 : ((⟨#[110, 111, 116]⟩ : ByteArray).toList == (⟨#[115, 105, 103, 110]⟩ : ByteArray).toList) = false := (eqS _ _).trans (by kernel_rfl)
  have f10 : ((⟨#[110, 111, 116]⟩ : ByteArray).toList == (⟨#[108, 116]⟩ : ByteArray).toList) = false := (eqS _ _).trans (by kernel_rfl)
  have f11 : ((⟨#[110, 111, 116]⟩ : ByteArray).toList == (⟨#[108, 101]⟩ : ByteArray).toList) = false := (eqS _ _).trans (by kernel_rfl)
  have f12 : ((⟨#[110, 111, 116]⟩ : ByteArray).toList == (⟨#[103, 116]⟩ : ByteArray).toList) = false := (eqS _ _).trans (by kernel_rfl)
  have f13 : ((⟨#[110, 111, 116]⟩ : ByteArray).toList == (⟨#[103, 101]⟩ : ByteArray).toList) = false := (eqS _ _).trans (by kernel_rfl)
  have f14 : ((⟨#[110, 111, 116]⟩ : ByteArray).toList == (⟨#[101, 113]⟩ : ByteArray).toList) = false := (eqS _ _).trans (by kernel_rfl)
  have f15 : ((⟨#[110, 111, 116]⟩ : ByteArray).toList == (⟨#[110, 101]⟩ : ByteArray).toList) = false := (eqS _ _).trans (by kernel_rfl)
  have f16 : ((⟨#[110, 111, 116]⟩ : ByteArray).toList == (⟨#[97, 110, 100]⟩ : ByteArray).toList) = false := (eqS _ _).trans (by kernel_rfl)
  have f17 : ((⟨#[110, 111, 116]⟩ : ByteArray).toList == (⟨#[111, 114]⟩ : ByteArray).toList) = false := (eqS _ _).trans (by kernel_rfl)
  have f18 : ((⟨#[110, 111, 116]⟩ : ByteArray).toList == (⟨#[120, 111, 114]⟩ : ByteArray).toList) = false := (eqS _ _).trans (by kernel_rfl)
  have f19 : ((⟨#[110, 111, 116]⟩ : ByteArray).toList == (⟨#[110, 111, 116]⟩ : ByteArray).toList) = true := (eqS _ _).trans (by kernel_rfl)
  refine meets_of (X := true) Ty.mixed Tryd.func13 (by kernel_rfl) rfl (by kernel_rfl) (by simp) ?_; rw [Tryd.ntmps13, Tryd.results13]
  simp only [awp_reg, awp_seq, awp_cond, awp_block, awp_ret, seqQ_n, seqQ_r, blkQ_r, awpOps_nil, awpOps_one, awpOp_is, isCallV, putK_is, updK_is, put_s, upd_s, slot_is, slot.eq_1, retA_is, pureOp, apureO, astepO, bsEnd_is, killT, aev, cv, cvc, binK, elO_s, cellsA, cellOk, setAll, fillA, condA_t, condA_f, elemsA, chunk, isD_c, isDL_nil, isDL_cons, toD_c, toD_tup, toD_own, consO_some, toDL_nil, toDL_cons, notExit, resA_nil, resA_tmp, oneA_2, argT, isC, bsD, Bool.false_eq_true, ↓reduceIte, List.getElem?_cons_zero, List.length_cons, List.length_nil, List.map_cons, List.map_nil, List.nil_append, List.set_cons_zero, Option.map_some, List.take_succ_cons, List.drop_zero, List.all_cons, List.all_nil, Bool.and_true, Bool.true_and, Bool.and_self, Value.oneCell', true_and, and_true, and_self, reduceCtorEq, Nat.reduceMul, Nat.reduceLT, Nat.reduceLeDiff, Nat.reduceEqDiff, Nat.reduceMod, Nat.zero_add, List.range_succ, List.range_zero, Nat.le_refl, List.take_nil, Ty.td9, Ty.td26, f0, f1, f2, f3, f4, f5, f6, f7, f8, f9, f10, f11, f12, f13, f14, f15, f16, f17, f18, f19]
theorem rt20 : Meets Tryd.prog 13 [S ⟨#[115, 101, 108, 101, 99, 116]⟩] (typesV ⟨#[115, 101, 108, 101, 99, 116]⟩) := by
  have e : typesV ⟨#[115, 101, 108, 101, 99, 116]⟩ = .tup [.sl false 1 [[S ⟨#[98, 111, 111, 108]⟩], [S ⟨#[65]⟩], [S ⟨#[65]⟩]], S ⟨#[65]⟩, B true] := by kernel_rfl
  rw [e]
  have f0 : ((⟨#[115, 101, 108, 101, 99, 116]⟩ : ByteArray).toList == (⟨#[97, 100, 100]⟩ : ByteArray).toList) = false := (eqS _ _).trans (by kernel_rfl)
  have f1 : ((⟨#[115, 101, 108, 101, 99, 116]⟩ : ByteArray).toList == (⟨#[115, 117, 98]⟩ : ByteArray).toList) = false := (eqS _ _).trans (by kernel_rfl)
  have f2 : ((⟨#[115, 101, 108, 101, 99, 116]⟩ : ByteArray).toList == (⟨#[109, 117, 108]⟩ : ByteArray).toList) = false := (eqS _ _).trans (by kernel_rfl)
  have f3 : ((⟨#[115, 101, 108, 101, 99, 116]⟩ : ByteArray).toList == (⟨#[100, 105, 118]⟩ : ByteArray).toList) = false := (eqS _ _).trans (by kernel_rfl)
  have f4 : ((⟨#[115, 101, 108, 101, 99, 116]⟩ : ByteArray).toList == (⟨#[109, 111, 100]⟩ : ByteArray).toList) = false := (eqS _ _).trans (by kernel_rfl)
  have f5 : ((⟨#[115, 101, 108, 101, 99, 116]⟩ : ByteArray).toList == (⟨#[109, 105, 110]⟩ : ByteArray).toList) = false := (eqS _ _).trans (by kernel_rfl)
  have f6 : ((⟨#[115, 101, 108, 101, 99, 116]⟩ : ByteArray).toList == (⟨#[109, 97, 120]⟩ : ByteArray).toList) = false := (eqS _ _).trans (by kernel_rfl)
  have f7 : ((⟨#[115, 101, 108, 101, 99, 116]⟩ : ByteArray).toList == (⟨#[110, 101, 103]⟩ : ByteArray).toList) = false := (eqS _ _).trans (by kernel_rfl)
  have f8 : ((⟨#[115, 101, 108, 101, 99, 116]⟩ : ByteArray).toList == (⟨#[97, 98, 115]⟩ : ByteArray).toList) = false := (eqS _ _).trans (by kernel_rfl)
  have f9 : ((⟨#[115, 101, 108, 101, 99, 116]⟩ : ByteArray).toList == (⟨#[115, 105, 103, 110]⟩ : ByteArray).toList) = false := (eqS _ _).trans (by kernel_rfl)
  have f10 : ((⟨#[115, 101, 108, 101, 99, 116]⟩ : ByteArray).toList == (⟨#[108, 116]⟩ : ByteArray).toList) = false := (eqS _ _).trans (by kernel_rfl)
  have f11 : ((⟨#[115, 101, 108, 101, 99, 116]⟩ : ByteArray).toList == (⟨#[108, 101]⟩ : ByteArray).toList) = false := (eqS _ _).trans (by kernel_rfl)
  have f12 : ((⟨#[115, 101, 108, 101, 99, 116]⟩ : ByteArray).toList == (⟨#[103, 116]⟩ : ByteArray).toList) = false := (eqS _ _).trans (by kernel_rfl)
  have f13 : ((⟨#[115, 101, 108, 101, 99, 116]⟩ : ByteArray).toList == (⟨#[103, 101]⟩ : ByteArray).toList) = false := (eqS _ _).trans (by kernel_rfl)
  have f14 : ((⟨#[115, 101, 108, 101, 99, 116]⟩ : ByteArray).toList == (⟨#[101, 113]⟩ : ByteArray).toList) = false := (eqS _ _).trans (by kernel_rfl)
  have f15 : ((⟨#[115, 101, 108, 101, 99, 116]⟩ : ByteArray).toList == (⟨#[110, 101]⟩ : ByteArray).toList) = false := (eqS _ _).trans (by kernel_rfl)
  have f16 : ((⟨#[115, 101, 108, 101, 99, 116]⟩ : ByteArray).toList == (⟨#[97, 110, 100]⟩ : ByteArray).toList) = false := (eqS _ _).trans (by kernel_rfl)
  have f17 : ((⟨#[115, 101, 108, 101, 99, 116]⟩ : ByteArray).toList == (⟨#[111, 114]⟩ : ByteArray).toList) = false := (eqS _ _).trans (by kernel_rfl)
  have f18 : ((⟨#[115, 101, 108, 101, 99, 116]⟩ : ByteArray).toList == (⟨#[120, 111, 114]⟩ : ByteArray).toList) = false := (eqS _ _).trans (by kernel_rfl)
  have f19 : ((⟨#[115, 101, 108, 101, 99, 116]⟩ : ByteArray).toList == (⟨#[110, 111, 116]⟩ : ByteArray).toList) = false := (eqS _ _).trans (by kernel_rfl)
  have f20 : ((⟨#[115, 101, 108, 101, 99, 116]⟩ : ByteArray).toList == (⟨#[115, 101, 108, 101, 99, 116]⟩ : ByteArray).toList) = true := (eqS _ _).trans (by kernel_rfl)
  refine meets_of (X := true) Ty.mixed Tryd.func13 (by kernel_rfl) rfl (by kernel_rfl) (by simp) ?_; rw [Tryd.ntmps13, Tryd.results13]
  simp only [awp_reg, awp_seq, awp_cond, awp_block, awp_ret, seqQ_n, seqQ_r, blkQ_r, awpOps_nil, awpOps_one, awpOp_is, isCallV, putK_is, updK_is, put_s, upd_s, slot_is, slot.eq_1, retA_is, pureOp, apureO, astepO, bsEnd_is, killT, aev, cv, cvc, binK, elO_s, cellsA, cellOk, setAll, fillA, condA_t, condA_f, elemsA, chunk, isD_c, isDL_nil, isDL_cons, toD_c, toD_tup, toD_own, consO_some, toDL_nil, toDL_cons, notExit, resA_nil, resA_tmp, oneA_2, argT, isC, bsD, Bool.false_eq_true, ↓reduceIte, List.getElem?_cons_zero, List.length_cons, List.length_nil, List.map_cons, List.map_nil, List.cons_append, List.nil_append, List.set_cons_zero, List.set_cons_succ, Option.map_some, List.take_succ_cons, List.take_zero, List.drop_succ_cons, List.drop_zero, List.all_cons, List.all_nil, Bool.and_true, Bool.true_and, Bool.and_self, Value.oneCell', true_and, and_true, and_self, reduceCtorEq, Nat.reduceAdd, Nat.reduceMul, Nat.reduceLT, Nat.reduceLeDiff, Nat.reduceEqDiff, Nat.reduceMod, Nat.zero_add, List.range_succ, List.range_zero, Nat.le_refl, List.take_nil, Ty.td9, Ty.td26, f0, f1, f2, f3, f4, f5, f6, f7, f8, f9, f10, f11, f12, f13, f14, f15, f16, f17, f18, f19, f20]
theorem rt21 : Meets Tryd.prog 13 [S ⟨#[116, 111, 105, 110, 116]⟩] (typesV ⟨#[116, 111, 105, 110, 116]⟩) := by
  have e : typesV ⟨#[116, 111, 105, 110, 116]⟩ = .tup [.sl false 1 [[S ⟨#[98, 111, 111, 108]⟩]], S ⟨#[105, 110, 116]⟩, B true] := by kernel_rfl
  rw [e]
  have f0 : ((⟨#[116, 111, 105, 110, 116]⟩ : ByteArray).toList == (⟨#[97, 100, 100]⟩ : ByteArray).toList) = false := (eqS _ _).trans (by kernel_rfl)
  have f1 : ((⟨#[116, 111, 105, 110, 116]⟩ : ByteArray).toList == (⟨#[115, 117, 98]⟩ : ByteArray).toList) = false := (eqS _ _).trans (by kernel_rfl)
  have f2 : ((⟨#[116, 111, 105, 110, 116]⟩ : ByteArray).toList == (⟨#[109, 117, 108]⟩ : ByteArray).toList) = false := (eqS _ _).trans (by kernel_rfl)
  have f3 : ((⟨#[116, 111, 105, 110, 116]⟩ : ByteArray).toList == (⟨#[100, 105, 118]⟩ : ByteArray).toList) = false := (eqS _ _).trans (by kernel_rfl)
  have f4 : ((⟨#[116, 111, 105, 110, 116]⟩ : ByteArray).toList == (⟨#[109, 111, 100]⟩ : ByteArray).toList) = false := (eqS _ _).trans (by kernel_rfl)
  have f5 : ((⟨#[116, 111, 105, 110, 116]⟩ : ByteArray).toList == (⟨#[109, 105, 110]⟩ : ByteArray).toList) = false := (eqS _ _).trans (by kernel_rfl)
  have f6 : ((⟨#[116, 111, 105, 110, 116]⟩ : ByteArray).toList == (⟨#[109, 97, 120]⟩ : ByteArray).toList) = false := (eqS _ _).trans (by kernel_rfl)
  have f7 : ((⟨#[116, 111, 105, 110, 116]⟩ : ByteArray).toList == (⟨#[110, 101, 103]⟩ : ByteArray).toList) = false := (eqS _ _).trans (by kernel_rfl)
  have f8 : ((⟨#[116, 111, 105, 110, 116]⟩ : ByteArray).toList == (⟨#[97, 98, 115]⟩ : ByteArray).toList) = false := (eqS _ _).trans (by kernel_rfl)
  have f9 : ((⟨#[116, 111, 105, 110, 116]⟩ : ByteArray).toList == (⟨#[115, 105, 103, 110]⟩ : ByteArray).toList) = false := (eqS _ _).trans (by kernel_rfl)
  have f10 : ((⟨#[116, 111, 105, 110, 116]⟩ : ByteArray).toList == (⟨#[108, 116]⟩ : ByteArray).toList) = false := (eqS _ _).trans (by kernel_rfl)
  have f11 : ((⟨#[116, 111, 105, 110, 116]⟩ : ByteArray).toList == (⟨#[108, 101]⟩ : ByteArray).toList) = false := (eqS _ _).trans (by kernel_rfl)
  have f12 : ((⟨#[116, 111, 105, 110, 116]⟩ : ByteArray).toList == (⟨#[103, 116]⟩ : ByteArray).toList) = false := (eqS _ _).trans (by kernel_rfl)
  have f13 : ((⟨#[116, 111, 105, 110, 116]⟩ : ByteArray).toList == (⟨#[103, 101]⟩ : ByteArray).toList) = false := (eqS _ _).trans (by kernel_rfl)
  have f14 : ((⟨#[116, 111, 105, 110, 116]⟩ : ByteArray).toList == (⟨#[101, 113]⟩ : ByteArray).toList) = false := (eqS _ _).trans (by kernel_rfl)
  have f15 : ((⟨#[116, 111, 105, 110, 116]⟩ : ByteArray).toList == (⟨#[110, 101]⟩ : ByteArray).toList) = false := (eqS _ _).trans (by kernel_rfl)
  have f16 : ((⟨#[116, 111, 105, 110, 116]⟩ : ByteArray).toList == (⟨#[97, 110, 100]⟩ : ByteArray).toList) = false := (eqS _ _).trans (by kernel_rfl)
  have f17 : ((⟨#[116, 111, 105, 110, 116]⟩ : ByteArray).toList == (⟨#[111, 114]⟩ : ByteArray).toList) = false := (eqS _ _).trans (by kernel_rfl)
  have f18 : ((⟨#[116, 111, 105, 110, 116]⟩ : ByteArray).toList == (⟨#[120, 111, 114]⟩ : ByteArray).toList) = false := (eqS _ _).trans (by kernel_rfl)
  have f19 : ((⟨#[116, 111, 105, 110, 116]⟩ : ByteArray).toList == (⟨#[110, 111, 116]⟩ : ByteArray).toList) = false := (eqS _ _).trans (by kernel_rfl)
  have f20 : ((⟨#[116, 111, 105, 110, 116]⟩ : ByteArray).toList == (⟨#[115, 101, 108, 101, 99, 116]⟩ : ByteArray).toList) = false := (eqS _ _).trans (by kernel_rfl)
  have f21 : ((⟨#[116, 111, 105, 110, 116]⟩ : ByteArray).toList == (⟨#[116, 111, 105, 110, 116]⟩ : ByteArray).toList) = true := (eqS _ _).trans (by kernel_rfl)
  refine meets_of (X := true) Ty.mixed Tryd.func13 (by kernel_rfl) rfl (by kernel_rfl) (by simp) ?_; rw [Tryd.ntmps13, Tryd.results13]
  simp only [awp_reg, awp_seq, awp_cond, awp_block, awp_ret, seqQ_n, seqQ_r, blkQ_r, awpOps_nil, awpOps_one, awpOp_is, isCallV, putK_is, updK_is, put_s, upd_s, slot_is, slot.eq_1, retA_is, pureOp, apureO, astepO, bsEnd_is, killT, aev, cv, cvc, binK, elO_s, cellsA, cellOk, setAll, fillA, condA_t, condA_f, elemsA, chunk, isD_c, isDL_nil, isDL_cons, toD_c, toD_tup, toD_own, consO_some, toDL_nil, toDL_cons, notExit, resA_nil, resA_tmp, oneA_2, argT, isC, bsD, Bool.false_eq_true, ↓reduceIte, List.getElem?_cons_zero, List.length_cons, List.length_nil, List.map_cons, List.map_nil, List.nil_append, List.set_cons_zero, Option.map_some, List.take_succ_cons, List.drop_zero, List.all_cons, List.all_nil, Bool.and_true, Bool.true_and, Bool.and_self, Value.oneCell', true_and, and_true, and_self, reduceCtorEq, Nat.reduceMul, Nat.reduceLT, Nat.reduceLeDiff, Nat.reduceEqDiff, Nat.reduceMod, Nat.zero_add, List.range_succ, List.range_zero, Nat.le_refl, List.take_nil, Ty.td9, Ty.td26, f0, f1, f2, f3, f4, f5, f6, f7, f8, f9, f10, f11, f12, f13, f14, f15, f16, f17, f18, f19, f20, f21]
theorem rt_no {op : ByteArray} (h : ∀ r ∈ rws, hitE op r = false) : Meets Tryd.prog 13 [S op] (typesV op) := by
  rw [types_no h]
  refine Meets.weak (r0 := .tup [.nils, S ⟨#[]⟩, B false]) ?_ fun ok w v h => tup_imp (fun us h => cons_imp (fun _ h => nil_imp h) (fun _ h => h) h) h
  have f0 : (op.toList == (⟨#[97, 100, 100]⟩ : ByteArray).toList) = false := no_at h (r := rwOf [⟨#[97, 100, 100]⟩, ⟨#[105, 110, 116]⟩, ⟨#[105, 110, 116]⟩, ⟨#[]⟩, ⟨#[105, 110, 116]⟩]) (k := 0) (by kernel_rfl)
  have f1 : (op.toList == (⟨#[115, 117, 98]⟩ : ByteArray).toList) = false := no_at h (r := rwOf [⟨#[115, 117, 98]⟩, ⟨#[105, 110, 116]⟩, ⟨#[105, 110, 116]⟩, ⟨#[]⟩, ⟨#[105, 110, 116]⟩]) (k := 1) (by kernel_rfl)
  have f2 : (op.toList == (⟨#[109, 117, 108]⟩ : ByteArray).toList) = false := no_at h (r := rwOf [⟨#[109, 117, 108]⟩, ⟨#[105, 110, 116]⟩, ⟨#[105, 110, 116]⟩, ⟨#[]⟩, ⟨#[105, 110, 116]⟩]) (k := 2) (by kernel_rfl)
  have f3 : (op.toList == (⟨#[100, 105, 118]⟩ : ByteArray).toList) = false := no_at h (r := rwOf [⟨#[100, 105, 118]⟩, ⟨#[105, 110, 116]⟩, ⟨#[105, 110, 116]⟩, ⟨#[]⟩, ⟨#[105, 110, 116]⟩]) (k := 3) (by kernel_rfl)
  have f4 : (op.toList == (⟨#[109, 111, 100]⟩ : ByteArray).toList) = false := no_at h (r := rwOf [⟨#[109, 111, 100]⟩, ⟨#[105, 110, 116]⟩, ⟨#[105, 110, 116]⟩, ⟨#[]⟩, ⟨#[105, 110, 116]⟩]) (k := 4) (by kernel_rfl)
  have f5 : (op.toList == (⟨#[109, 105, 110]⟩ : ByteArray).toList) = false := no_at h (r := rwOf [⟨#[109, 105, 110]⟩, ⟨#[105, 110, 116]⟩, ⟨#[105, 110, 116]⟩, ⟨#[]⟩, ⟨#[105, 110, 116]⟩]) (k := 5) (by kernel_rfl)
  have f6 : (op.toList == (⟨#[109, 97, 120]⟩ : ByteArray).toList) = false := no_at h (r := rwOf [⟨#[109, 97, 120]⟩, ⟨#[105, 110, 116]⟩, ⟨#[105, 110, 116]⟩, ⟨#[]⟩, ⟨#[105, 110, 116]⟩]) (k := 6) (by kernel_rfl)
  have f7 : (op.toList == (⟨#[110, 101, 103]⟩ : ByteArray).toList) = false := no_at h (r := rwOf [⟨#[110, 101, 103]⟩, ⟨#[105, 110, 116]⟩, ⟨#[]⟩, ⟨#[]⟩, ⟨#[105, 110, 116]⟩]) (k := 7) (by kernel_rfl)
  have f8 : (op.toList == (⟨#[97, 98, 115]⟩ : ByteArray).toList) = false := no_at h (r := rwOf [⟨#[97, 98, 115]⟩, ⟨#[105, 110, 116]⟩, ⟨#[]⟩, ⟨#[]⟩, ⟨#[105, 110, 116]⟩]) (k := 8) (by kernel_rfl)
  have f9 : (op.toList == (⟨#[115, 105, 103, 110]⟩ : ByteArray).toList) = false := no_at h (r := rwOf [⟨#[115, 105, 103, 110]⟩, ⟨#[105, 110, 116]⟩, ⟨#[]⟩, ⟨#[]⟩, ⟨#[105, 110, 116]⟩]) (k := 9) (by kernel_rfl)
  have f10 : (op.toList == (⟨#[108, 116]⟩ : ByteArray).toList) = false := no_at h (r := rwOf [⟨#[108, 116]⟩, ⟨#[105, 110, 116]⟩, ⟨#[105, 110, 116]⟩, ⟨#[]⟩, ⟨#[98, 111, 111, 108]⟩]) (k := 10) (by kernel_rfl)
  have f11 : (op.toList == (⟨#[108, 101]⟩ : ByteArray).toList) = false := no_at h (r := rwOf [⟨#[108, 101]⟩, ⟨#[105, 110, 116]⟩, ⟨#[105, 110, 116]⟩, ⟨#[]⟩, ⟨#[98, 111, 111, 108]⟩]) (k := 11) (by kernel_rfl)
  have f12 : (op.toList == (⟨#[103, 116]⟩ : ByteArray).toList) = false := no_at h (r := rwOf [⟨#[103, 116]⟩, ⟨#[105, 110, 116]⟩, ⟨#[105, 110, 116]⟩, ⟨#[]⟩, ⟨#[98, 111, 111, 108]⟩]) (k := 12) (by kernel_rfl)
  have f13 : (op.toList == (⟨#[103, 101]⟩ : ByteArray).toList) = false := no_at h (r := rwOf [⟨#[103, 101]⟩, ⟨#[105, 110, 116]⟩, ⟨#[105, 110, 116]⟩, ⟨#[]⟩, ⟨#[98, 111, 111, 108]⟩]) (k := 13) (by kernel_rfl)
  have f14 : (op.toList == (⟨#[101, 113]⟩ : ByteArray).toList) = false := no_at h (r := rwOf [⟨#[101, 113]⟩, ⟨#[65]⟩, ⟨#[65]⟩, ⟨#[]⟩, ⟨#[98, 111, 111, 108]⟩]) (k := 14) (by kernel_rfl)
  have f15 : (op.toList == (⟨#[110, 101]⟩ : ByteArray).toList) = false := no_at h (r := rwOf [⟨#[110, 101]⟩, ⟨#[65]⟩, ⟨#[65]⟩, ⟨#[]⟩, ⟨#[98, 111, 111, 108]⟩]) (k := 15) (by kernel_rfl)
  have f16 : (op.toList == (⟨#[97, 110, 100]⟩ : ByteArray).toList) = false := no_at h (r := rwOf [⟨#[97, 110, 100]⟩, ⟨#[98, 111, 111, 108]⟩, ⟨#[98, 111, 111, 108]⟩, ⟨#[]⟩, ⟨#[98, 111, 111, 108]⟩]) (k := 16) (by kernel_rfl)
  have f17 : (op.toList == (⟨#[111, 114]⟩ : ByteArray).toList) = false := no_at h (r := rwOf [⟨#[111, 114]⟩, ⟨#[98, 111, 111, 108]⟩, ⟨#[98, 111, 111, 108]⟩, ⟨#[]⟩, ⟨#[98, 111, 111, 108]⟩]) (k := 17) (by kernel_rfl)
  have f18 : (op.toList == (⟨#[120, 111, 114]⟩ : ByteArray).toList) = false := no_at h (r := rwOf [⟨#[120, 111, 114]⟩, ⟨#[98, 111, 111, 108]⟩, ⟨#[98, 111, 111, 108]⟩, ⟨#[]⟩, ⟨#[98, 111, 111, 108]⟩]) (k := 18) (by kernel_rfl)
  have f19 : (op.toList == (⟨#[110, 111, 116]⟩ : ByteArray).toList) = false := no_at h (r := rwOf [⟨#[110, 111, 116]⟩, ⟨#[98, 111, 111, 108]⟩, ⟨#[]⟩, ⟨#[]⟩, ⟨#[98, 111, 111, 108]⟩]) (k := 19) (by kernel_rfl)
  have f20 : (op.toList == (⟨#[115, 101, 108, 101, 99, 116]⟩ : ByteArray).toList) = false := no_at h (r := rwOf [⟨#[115, 101, 108, 101, 99, 116]⟩, ⟨#[98, 111, 111, 108]⟩, ⟨#[65]⟩, ⟨#[65]⟩, ⟨#[65]⟩]) (k := 20) (by kernel_rfl)
  have f21 : (op.toList == (⟨#[116, 111, 105, 110, 116]⟩ : ByteArray).toList) = false := no_at h (r := rwOf [⟨#[116, 111, 105, 110, 116]⟩, ⟨#[98, 111, 111, 108]⟩, ⟨#[]⟩, ⟨#[]⟩, ⟨#[105, 110, 116]⟩]) (k := 21) (by kernel_rfl)
  refine meets_of (X := true) Ty.mixed Tryd.func13 (by kernel_rfl) rfl (by kernel_rfl) (by simp) ?_; rw [Tryd.ntmps13, Tryd.results13]
  simp only [awp_skip, awp_reg, awp_seq, awp_cond, awp_block, awp_ret, seqQ_n, blkQ_n, awpOps_nil, awpOps_one, awpOp_is, putK_is, put_s, slot_is, retA_is, pureOp, apureO, aev, cv, cvc, binK, condA_f, toD_c, toD_nils, toD_tup, consO_some, toDL_nil, toDL_cons, notExit, resA_nil, resA_tmp, oneA_2, argT, isC, bsD, ↓reduceIte, Option.map_some, Bool.and_self, and_self, reduceCtorEq, Nat.reduceEqDiff, f0, f1, f2, f3, f4, f5, f6, f7, f8, f9, f10, f11, f12, f13, f14, f15, f16, f17, f18, f19, f20, f21]
theorem rtypes (op : ByteArray) : Meets Tryd.prog 13 [S op] (typesV op) := by
  rcases op_cases op with h | h
  · exact rt_no h
  · rcases h with rfl | rfl | rfl | rfl | rfl | rfl | rfl | rfl | rfl | rfl | rfl | rfl | rfl | rfl | rfl | rfl | rfl | rfl | rfl | rfl | rfl | rfl
    · exact rt0
    · exact rt1
    · exact rt2
    · exact rt3
    · exact rt4
    · exact rt5
    · exact rt6
    · exact rt7
    · exact rt8
    · exact rt9
    · exact rt10
    · exact rt11
    · exact rt12
    · exact rt13
    · exact rt14
    · exact rt15
    · exact rt16
    · exact rt17
    · exact rt18
    · exact rt19
    · exact rt20
    · exact rt21

end Go.Proofs.YtdhpmkaggojgbaaDoor.E2
