/- Structure: the table of primitives. -/
import Derived.Test.YtbmmemglkjeogaaA5
namespace Go.Proofs.Ytbmmemglkjeogaa.S1
open Go Go.Proofs.Ytbmmemglkjeogaa.Eng Go.Proofs.Ytbmmemglkjeogaa Go.RowKit Go.Proofs.Ytbmmemglkjeogaa.A1 Go.Proofs.Ytbmmemglkjeogaa.A2 Go.Proofs.Ytbmmemglkjeogaa.A3
set_option linter.unusedSimpArgs false
set_option linter.unusedVariables false
set_option linter.unusedSectionVars false
set_option maxRecDepth 100000

abbrev is_iota (e : ByteArray) : Bool := e.toList == ByteArray.toList ⟨#[105, 111, 116, 97]⟩
abbrev is_fill (e : ByteArray) : Bool := e.toList == ByteArray.toList ⟨#[102, 105, 108, 108]⟩
abbrev is_take (e : ByteArray) : Bool := e.toList == ByteArray.toList ⟨#[116, 97, 107, 101]⟩
abbrev is_drop (e : ByteArray) : Bool := e.toList == ByteArray.toList ⟨#[100, 114, 111, 112]⟩
abbrev is_reverse (e : ByteArray) : Bool := e.toList == ByteArray.toList ⟨#[114, 101, 118, 101, 114, 115, 101]⟩
abbrev is_append (e : ByteArray) : Bool := e.toList == ByteArray.toList ⟨#[97, 112, 112, 101, 110, 100]⟩
abbrev is_transpose (e : ByteArray) : Bool := e.toList == ByteArray.toList ⟨#[116, 114, 97, 110, 115, 112, 111, 115, 101]⟩
abbrev is_diagonal (e : ByteArray) : Bool := e.toList == ByteArray.toList ⟨#[100, 105, 97, 103, 111, 110, 97, 108]⟩
abbrev is_windows (e : ByteArray) : Bool := e.toList == ByteArray.toList ⟨#[119, 105, 110, 100, 111, 119, 115]⟩
abbrev is_chunk (e : ByteArray) : Bool := e.toList == ByteArray.toList ⟨#[99, 104, 117, 110, 107]⟩
abbrev is_index (e : ByteArray) : Bool := e.toList == ByteArray.toList ⟨#[105, 110, 100, 101, 120]⟩
abbrev is_update (e : ByteArray) : Bool := e.toList == ByteArray.toList ⟨#[117, 112, 100, 97, 116, 101]⟩
abbrev is_pack (e : ByteArray) : Bool := e.toList == ByteArray.toList ⟨#[112, 97, 99, 107]⟩

theorem fixed (k : Int) : Meets Try.prog 64 [I k] (.fn 93 [.dptr [I k]]) := by
  refine meets_of (X := false) Ty.mixed Try.func64 (by kernel_rfl) rfl (by kernel_rfl) (by simp) ?_; rw [Try.ntmps64, Try.results64]
  simp only [awp_reg, awp_seq, awp_ret, seqQ_n, awpOps_nil, awpOps_one, awpOp_is, isCallV, putK_is, updK_is, put_s, upd_s, slot_is, retA_is, pureOp, apureO, astepO, killT, aev, cv, cvc, cellsA, cellOk, isD_c, isDL_nil, isDL_cons, toD_fn, toD_ptr, consO_some, toDL_nil, toDL_cons, notExit, resA_nil, resA_tmp, oneA_1, argT, Bool.false_eq_true, ↓reduceIte, List.getElem?_cons_zero, List.length_nil, List.map_cons, List.map_nil, List.nil_append, Option.map_some, List.drop_zero, Bool.and_self, Value.oneCell', and_self, Nat.reduceEqDiff, List.size_toArray]

/-- The row of a primitive: ranks, number of sizes, dimensions, element. -/
def findE (e : ByteArray) : AV :=
  if is_iota e then .tup [.agg [.nils, I 1, .fn 57 [], .fn 58 []], B true] else
  if is_fill e then .tup [.agg [ints [0], I 1, .fn 57 [], .fn 59 []], B true] else
  if is_take e then .tup [.agg [ints [1], I 1, .fn 60 [], .fn 55 []], B true] else
  if is_drop e then .tup [.agg [ints [1], I 1, .fn 62 [], .fn 63 []], B true] else
  if is_reverse e then .tup [.agg [ints [1], I 0, .fn 93 [.dptr [I 1]], .fn 65 []], B true] else
  if is_append e then .tup [.agg [ints [1, 1], I 0, .fn 67 [], .fn 68 []], B true] else
  if is_transpose e then .tup [.agg [ints [2], I 0, .fn 69 [], .fn 70 []], B true] else
  if is_diagonal e then .tup [.agg [ints [2], I 0, .fn 71 [], .fn 72 []], B true] else
  if is_windows e then .tup [.agg [ints [1], I 1, .fn 73 [], .fn 74 []], B true] else
  if is_chunk e then .tup [.agg [ints [1], I 0, .fn 75 [], .fn 76 []], B true] else
  if is_index e then .tup [.agg [ints [1, 0], I 0, .fn 93 [.dptr [I 0]], .fn 77 []], B true] else
  if is_update e then .tup [.agg [ints [1, 0, 0], I 0, .fn 93 [.dptr [I 1]], .fn 78 []], B true] else
  if is_pack e then .tup [.agg [.nils, I 0, .fn 57 [], .fn 79 []], B true] else
  .tup [.agg [.nils, I 0, .c Value.nilFunc, .c Value.nilFunc], B false]

set_option maxHeartbeats 4000000 in
theorem find (e : ByteArray) : Meets Try.prog 37 [S e] (findE e) := by
  have f0 := fixed 0
  have f1 := fixed 1
  unfold findE
  cases h_iota : is_iota e with
  | true =>
    rw [if_pos rfl]
    refine meets_of (X := true) Ty.mixed Try.func37 (by kernel_rfl) rfl (by kernel_rfl) (by simp) ?_; rw [Try.ntmps37, Try.results37]
    simp only [awp_reg, awp_seq, awp_cond, awp_block, awp_ret, seqQ_n, seqQ_r, blkQ_r, awpOps_nil, awpOps_one, awpOp_is, isCallV, putK_is, updK_is, put_s, upd_n, upd_s, slot_is, slot.eq_1, retA_is, pureOp, apureO, astepO, killT, aev, cv, cvc, binK, elO_s, loadA_p, storeA, cellsA, cellOk, setAll, fillA, placeT, placesA, condA_t, toD_c, toD_nils, toD_tup, toD_agg, toD_fn, consO_some, toDL_nil, toDL_cons, notExit, resA_nil, resA_tmp, resA_cell, oneA_2, argT, Bool.false_eq_true, ↓reduceIte, List.getElem?_cons_zero, List.getElem?_cons_succ, List.length_cons, List.length_nil, List.map_cons, List.map_nil, List.nil_append, List.set_cons_zero, List.set_cons_succ, Option.map_some, List.take_succ_cons, List.drop_zero, List.all_cons, List.all_nil, Bool.true_and, Bool.and_self, Value.oneCell', true_and, and_self, ne_eq, not_false_eq_true, reduceCtorEq, Nat.reduceAdd, Nat.reduceLeDiff, Nat.reduceEqDiff, Nat.zero_add, Nat.le_refl, List.take_nil, Ty.td3, Ty.td22, Ty.td60, Ty.td61, Ty.td63, h_iota]
  | false =>
  rw [if_neg (by simp)]
  cases h_fill : is_fill e with
  | true =>
    rw [if_pos rfl]
    refine meets_of (X := true) Ty.mixed Try.func37 (by kernel_rfl) rfl (by kernel_rfl) (by simp) ?_; rw [Try.ntmps37, Try.results37]
    simp only [awp_reg, awp_seq, awp_cond, awp_block, awp_ret, seqQ_n, seqQ_r, blkQ_r, awpOps_nil, awpOps_one, awpOp_is, isCallV, putK_is, updK_is, put_s, upd_n, upd_s, slot_is, slot.eq_1, retA_is, pureOp, apureO, astepO, bsEnd_is, killT, aev, cv, cvc, binK, elO_s, loadA_p, storeA, cellsA, cellOk, setAll, fillA, placeT, placesA, condA_t, condA_f, elemsA, chunk, isD_c, isDL_nil, isDL_cons, toD_c, toD_tup, toD_agg, toD_own, toD_fn, consO_some, toDL_nil, toDL_cons, notExit, resA_nil, resA_tmp, resA_cell, oneA_2, argT, Bool.false_eq_true, ↓reduceIte, List.getElem?_cons_zero, List.getElem?_cons_succ, List.length_cons, List.length_nil, List.map_cons, List.map_nil, List.cons_append, List.nil_append, List.set_cons_zero, List.set_cons_succ, Option.map_some, List.take_succ_cons, List.drop_zero, List.all_cons, List.all_nil, Bool.true_and, Bool.and_self, Value.oneCell', true_and, and_self, ne_eq, not_false_eq_true, reduceCtorEq, Nat.reduceAdd, Nat.reduceMul, Nat.reduceLT, Nat.reduceLeDiff, Nat.reduceEqDiff, Nat.reduceMod, Nat.zero_add, List.range_succ, List.range_zero, Nat.le_refl, List.take_nil, Ty.td3, Ty.td22, Ty.td60, Ty.td61, Ty.td63, h_iota, h_fill]
    rfl
  | false =>
  rw [if_neg (by simp)]
  cases h_take : is_take e with
  | true =>
    rw [if_pos rfl]
    refine meets_of (X := true) Ty.mixed Try.func37 (by kernel_rfl) rfl (by kernel_rfl) (by simp) ?_; rw [Try.ntmps37, Try.results37]
    simp only [awp_reg, awp_seq, awp_cond, awp_block, awp_ret, seqQ_n, seqQ_r, blkQ_r, awpOps_nil, awpOps_one, awpOp_is, isCallV, putK_is, updK_is, put_s, upd_n, upd_s, slot_is, slot.eq_1, retA_is, pureOp, apureO, astepO, bsEnd_is, killT, aev, cv, cvc, binK, elO_s, loadA_p, storeA, cellsA, cellOk, setAll, fillA, placeT, placesA, condA_t, condA_f, elemsA, chunk, isD_c, isDL_nil, isDL_cons, toD_c, toD_tup, toD_agg, toD_own, toD_fn, consO_some, toDL_nil, toDL_cons, notExit, resA_nil, resA_tmp, resA_cell, oneA_2, argT, Bool.false_eq_true, ↓reduceIte, List.getElem?_cons_zero, List.getElem?_cons_succ, List.length_cons, List.length_nil, List.map_cons, List.map_nil, List.cons_append, List.nil_append, List.set_cons_zero, List.set_cons_succ, Option.map_some, List.take_succ_cons, List.drop_zero, List.all_cons, List.all_nil, Bool.true_and, Bool.and_self, Value.oneCell', true_and, and_self, ne_eq, not_false_eq_true, reduceCtorEq, Nat.reduceAdd, Nat.reduceMul, Nat.reduceLT, Nat.reduceLeDiff, Nat.reduceEqDiff, Nat.reduceMod, Nat.zero_add, List.range_succ, List.range_zero, Nat.le_refl, List.take_nil, Ty.td3, Ty.td22, Ty.td60, Ty.td61, Ty.td63, h_iota, h_fill, h_take]
    rfl
  | false =>
  rw [if_neg (by simp)]
  cases h_drop : is_drop e with
  | true =>
    rw [if_pos rfl]
    refine meets_of (X := true) Ty.mixed Try.func37 (by kernel_rfl) rfl (by kernel_rfl) (by simp) ?_; rw [Try.ntmps37, Try.results37]
    simp only [awp_reg, awp_seq, awp_cond, awp_block, awp_ret, seqQ_n, seqQ_r, blkQ_r, awpOps_nil, awpOps_one, awpOp_is, isCallV, putK_is, updK_is, put_s, upd_n, upd_s, slot_is, slot.eq_1, retA_is, pureOp, apureO, astepO, bsEnd_is, killT, aev, cv, cvc, binK, elO_s, loadA_p, storeA, cellsA, cellOk, setAll, fillA, placeT, placesA, condA_t, condA_f, elemsA, chunk, isD_c, isDL_nil, isDL_cons, toD_c, toD_tup, toD_agg, toD_own, toD_fn, consO_some, toDL_nil, toDL_cons, notExit, resA_nil, resA_tmp, resA_cell, oneA_2, argT, Bool.false_eq_true, ↓reduceIte, List.getElem?_cons_zero, List.getElem?_cons_succ, List.length_cons, List.length_nil, List.map_cons, List.map_nil, List.cons_append, List.nil_append, List.set_cons_zero, List.set_cons_succ, Option.map_some, List.take_succ_cons, List.drop_zero, List.all_cons, List.all_nil, Bool.true_and, Bool.and_self, Value.oneCell', true_and, and_self, ne_eq, not_false_eq_true, reduceCtorEq, Nat.reduceAdd, Nat.reduceMul, Nat.reduceLT, Nat.reduceLeDiff, Nat.reduceEqDiff, Nat.reduceMod, Nat.zero_add, List.range_succ, List.range_zero, Nat.le_refl, List.take_nil, Ty.td3, Ty.td22, Ty.td60, Ty.td61, Ty.td63, h_iota, h_fill, h_take, h_drop]
    rfl
  | false =>
  rw [if_neg (by simp)]
  cases h_reverse : is_reverse e with
  | true =>
    rw [if_pos rfl]
    refine meets_of (X := true) Ty.mixed Try.func37 (by kernel_rfl) rfl (by kernel_rfl) (by simp) ?_; rw [Try.ntmps37, Try.results37]
    simp only [awp_reg, awp_seq, awp_cond, awp_block, seqQ_n, awpOps_nil, awpOps_one, awpOp_is, isCallV, callW_is, callV_is, putK_is, updK_is, put_s, upd_s, slot_is, slot.eq_1, pureOp, apureO, astepO, bsEnd_is, killT, aev, cv, cvc, binK, elO_s, cellsA, cellOk, setAll, fillA, condA_t, condA_f, chunk, isD_c, isDL_nil, isDL_cons, argT, Bool.false_eq_true, ↓reduceIte, List.length_cons, List.length_nil, List.map_cons, List.map_nil, List.cons_append, List.nil_append, List.append_nil, List.set_cons_zero, List.take_succ_cons, List.drop_zero, List.all_cons, List.all_nil, Bool.true_and, Bool.and_self, Value.oneCell', true_and, and_self, reduceCtorEq, Nat.reduceMul, Nat.reduceLT, Nat.reduceLeDiff, Nat.reduceEqDiff, Nat.reduceMod, Nat.zero_add, List.range_succ, List.range_zero, Nat.le_refl, List.take_nil, Ty.td3, Ty.td22, Ty.td63, h_iota, h_fill, h_take, h_drop, h_reverse]
    refine call_meets (f1) (by simp only [aev, cv, cvc, toD_c, consO_some, toDL_nil, toDL_cons] <;> rfl) ?_; simp only [awp_ret, seqQ_n, seqQ_r, blkQ_r, awpOps_nil, awpOps_one, awpOp_is, isCallV, putK_is, updK_is, put_s, upd_n, upd_s, slot_is, slot.eq_1, retA_is, pureOp, apureO, astepO, killT, aev, cv, cvc, elO_s, loadA_p, storeA, cellsA, cellOk, setAll, fillA, placeT, placesA, elemsA, flat_fn, ownsV_c, ownsL_nil, ownsL_cons, toD_c, toD_tup, toD_agg, toD_own, toD_fn, toD_dptr, consO_some, toDL_nil, toDL_cons, notExit, resA_nil, resA_tmp, resA_cell, oneA_2, Bool.false_eq_true, ↓reduceIte, List.getElem?_cons_zero, List.getElem?_cons_succ, List.length_cons, List.length_nil, List.map_cons, List.map_nil, List.append_nil, List.set_cons_zero, List.set_cons_succ, Option.map_some, List.take_succ_cons, List.drop_zero, List.all_cons, List.all_nil, Bool.true_and, Bool.and_self, Bool.or_true, Value.oneCell', true_and, and_self, ne_eq, not_false_eq_true, reduceCtorEq, Nat.reduceAdd, Nat.reduceLeDiff, Nat.reduceEqDiff, Nat.zero_add, List.isEmpty_nil, Nat.le_refl, List.take_nil, Ty.td3, Ty.td22, Ty.td60, Ty.td61, Ty.td63]
    rfl
  | false =>
  rw [if_neg (by simp)]
  cases h_append : is_append e with
  | true =>
    rw [if_pos rfl]
    refine meets_of (X := true) Ty.mixed Try.func37 (by kernel_rfl) rfl (by kernel_rfl) (by simp) ?_; rw [Try.ntmps37, Try.results37]
    simp only [awp_reg, awp_seq, awp_cond, awp_block, awp_ret, seqQ_n, seqQ_r, blkQ_r, awpOps_nil, awpOps_one, awpOp_is, isCallV, putK_is, updK_is, put_s, upd_n, upd_s, slot_is, slot.eq_1, retA_is, pureOp, apureO, astepO, bsEnd_is, killT, aev, cv, cvc, binK, elO_s, loadA_p, storeA, cellsA, cellOk, setAll, fillA, placeT, placesA, condA_t, condA_f, elemsA, chunk, isD_c, isDL_nil, isDL_cons, toD_c, toD_tup, toD_agg, toD_own, toD_fn, consO_some, toDL_nil, toDL_cons, notExit, resA_nil, resA_tmp, resA_cell, oneA_2, argT, Bool.false_eq_true, ↓reduceIte, List.getElem?_cons_zero, List.getElem?_cons_succ, List.length_cons, List.length_nil, List.map_cons, List.map_nil, List.cons_append, List.nil_append, List.set_cons_zero, List.set_cons_succ, Option.map_some, List.take_succ_cons, List.take_zero, List.drop_succ_cons, List.drop_zero, List.all_cons, List.all_nil, Bool.true_and, Bool.and_self, Value.oneCell', true_and, and_self, ne_eq, not_false_eq_true, reduceCtorEq, Nat.reduceAdd, Nat.reduceMul, Nat.reduceLT, Nat.reduceLeDiff, Nat.reduceEqDiff, Nat.reduceMod, Nat.zero_add, List.range_succ, List.range_zero, Nat.le_refl, List.take_nil, Ty.td3, Ty.td22, Ty.td60, Ty.td61, Ty.td63, h_iota, h_fill, h_take, h_drop, h_reverse, h_append]
    rfl
  | false =>
  rw [if_neg (by simp)]
  cases h_transpose : is_transpose e with
  | true =>
    rw [if_pos rfl]
    refine meets_of (X := true) Ty.mixed Try.func37 (by kernel_rfl) rfl (by kernel_rfl) (by simp) ?_; rw [Try.ntmps37, Try.results37]
    simp only [awp_reg, awp_seq, awp_cond, awp_block, awp_ret, seqQ_n, seqQ_r, blkQ_r, awpOps_nil, awpOps_one, awpOp_is, isCallV, putK_is, updK_is, put_s, upd_n, upd_s, slot_is, slot.eq_1, retA_is, pureOp, apureO, astepO, bsEnd_is, killT, aev, cv, cvc, binK, elO_s, loadA_p, storeA, cellsA, cellOk, setAll, fillA, placeT, placesA, condA_t, condA_f, elemsA, chunk, isD_c, isDL_nil, isDL_cons, toD_c, toD_tup, toD_agg, toD_own, toD_fn, consO_some, toDL_nil, toDL_cons, notExit, resA_nil, resA_tmp, resA_cell, oneA_2, argT, Bool.false_eq_true, ↓reduceIte, List.getElem?_cons_zero, List.getElem?_cons_succ, List.length_cons, List.length_nil, List.map_cons, List.map_nil, List.cons_append, List.nil_append, List.set_cons_zero, List.set_cons_succ, Option.map_some, List.take_succ_cons, List.drop_zero, List.all_cons, List.all_nil, Bool.true_and, Bool.and_self, Value.oneCell', true_and, and_self, ne_eq, not_false_eq_true, reduceCtorEq, Nat.reduceAdd, Nat.reduceMul, Nat.reduceLT, Nat.reduceLeDiff, Nat.reduceEqDiff, Nat.reduceMod, Nat.zero_add, List.range_succ, List.range_zero, Nat.le_refl, List.take_nil, Ty.td3, Ty.td22, Ty.td60, Ty.td61, Ty.td63, h_iota, h_fill, h_take, h_drop, h_reverse, h_append, h_transpose]
    rfl
  | false =>
  rw [if_neg (by simp)]
  cases h_diagonal : is_diagonal e with
  | true =>
    rw [if_pos rfl]
    refine meets_of (X := true) Ty.mixed Try.func37 (by kernel_rfl) rfl (by kernel_rfl) (by simp) ?_; rw [Try.ntmps37, Try.results37]
    simp only [awp_reg, awp_seq, awp_cond, awp_block, awp_ret, seqQ_n, seqQ_r, blkQ_r, awpOps_nil, awpOps_one, awpOp_is, isCallV, putK_is, updK_is, put_s, upd_n, upd_s, slot_is, slot.eq_1, retA_is, pureOp, apureO, astepO, bsEnd_is, killT, aev, cv, cvc, binK, elO_s, loadA_p, storeA, cellsA, cellOk, setAll, fillA, placeT, placesA, condA_t, condA_f, elemsA, chunk, isD_c, isDL_nil, isDL_cons, toD_c, toD_tup, toD_agg, toD_own, toD_fn, consO_some, toDL_nil, toDL_cons, notExit, resA_nil, resA_tmp, resA_cell, oneA_2, argT, Bool.false_eq_true, ↓reduceIte, List.getElem?_cons_zero, List.getElem?_cons_succ, List.length_cons, List.length_nil, List.map_cons, List.map_nil, List.cons_append, List.nil_append, List.set_cons_zero, List.set_cons_succ, Option.map_some, List.take_succ_cons, List.drop_zero, List.all_cons, List.all_nil, Bool.true_and, Bool.and_self, Value.oneCell', true_and, and_self, ne_eq, not_false_eq_true, reduceCtorEq, Nat.reduceAdd, Nat.reduceMul, Nat.reduceLT, Nat.reduceLeDiff, Nat.reduceEqDiff, Nat.reduceMod, Nat.zero_add, List.range_succ, List.range_zero, Nat.le_refl, List.take_nil, Ty.td3, Ty.td22, Ty.td60, Ty.td61, Ty.td63, h_iota, h_fill, h_take, h_drop, h_reverse, h_append, h_transpose, h_diagonal]
    rfl
  | false =>
  rw [if_neg (by simp)]
  cases h_windows : is_windows e with
  | true =>
    rw [if_pos rfl]
    refine meets_of (X := true) Ty.mixed Try.func37 (by kernel_rfl) rfl (by kernel_rfl) (by simp) ?_; rw [Try.ntmps37, Try.results37]
    simp only [awp_reg, awp_seq, awp_cond, awp_block, awp_ret, seqQ_n, seqQ_r, blkQ_r, awpOps_nil, awpOps_one, awpOp_is, isCallV, putK_is, updK_is, put_s, upd_n, upd_s, slot_is, slot.eq_1, retA_is, pureOp, apureO, astepO, bsEnd_is, killT, aev, cv, cvc, binK, elO_s, loadA_p, storeA, cellsA, cellOk, setAll, fillA, placeT, placesA, condA_t, condA_f, elemsA, chunk, isD_c, isDL_nil, isDL_cons, toD_c, toD_tup, toD_agg, toD_own, toD_fn, consO_some, toDL_nil, toDL_cons, notExit, resA_nil, resA_tmp, resA_cell, oneA_2, argT, Bool.false_eq_true, ↓reduceIte, List.getElem?_cons_zero, List.getElem?_cons_succ, List.length_cons, List.length_nil, List.map_cons, List.map_nil, List.cons_append, List.nil_append, List.set_cons_zero, List.set_cons_succ, Option.map_some, List.take_succ_cons, List.drop_zero, List.all_cons, List.all_nil, Bool.true_and, Bool.and_self, Value.oneCell', true_and, and_self, ne_eq, not_false_eq_true, reduceCtorEq, Nat.reduceAdd, Nat.reduceMul, Nat.reduceLT, Nat.reduceLeDiff, Nat.reduceEqDiff, Nat.reduceMod, Nat.zero_add, List.range_succ, List.range_zero, Nat.le_refl, List.take_nil, Ty.td3, Ty.td22, Ty.td60, Ty.td61, Ty.td63, h_iota, h_fill, h_take, h_drop, h_reverse, h_append, h_transpose, h_diagonal, h_windows]
    rfl
  | false =>
  rw [if_neg (by simp)]
  cases h_chunk : is_chunk e with
  | true =>
    rw [if_pos rfl]
    refine meets_of (X := true) Ty.mixed Try.func37 (by kernel_rfl) rfl (by kernel_rfl) (by simp) ?_; rw [Try.ntmps37, Try.results37]
    simp only [awp_reg, awp_seq, awp_cond, awp_block, awp_ret, seqQ_n, seqQ_r, blkQ_r, awpOps_nil, awpOps_one, awpOp_is, isCallV, putK_is, updK_is, put_s, upd_n, upd_s, slot_is, slot.eq_1, retA_is, pureOp, apureO, astepO, bsEnd_is, killT, aev, cv, cvc, binK, elO_s, loadA_p, storeA, cellsA, cellOk, setAll, fillA, placeT, placesA, condA_t, condA_f, elemsA, chunk, isD_c, isDL_nil, isDL_cons, toD_c, toD_tup, toD_agg, toD_own, toD_fn, consO_some, toDL_nil, toDL_cons, notExit, resA_nil, resA_tmp, resA_cell, oneA_2, argT, Bool.false_eq_true, ↓reduceIte, List.getElem?_cons_zero, List.getElem?_cons_succ, List.length_cons, List.length_nil, List.map_cons, List.map_nil, List.cons_append, List.nil_append, List.set_cons_zero, List.set_cons_succ, Option.map_some, List.take_succ_cons, List.drop_zero, List.all_cons, List.all_nil, Bool.true_and, Bool.and_self, Value.oneCell', true_and, and_self, ne_eq, not_false_eq_true, reduceCtorEq, Nat.reduceAdd, Nat.reduceMul, Nat.reduceLT, Nat.reduceLeDiff, Nat.reduceEqDiff, Nat.reduceMod, Nat.zero_add, List.range_succ, List.range_zero, Nat.le_refl, List.take_nil, Ty.td3, Ty.td22, Ty.td60, Ty.td61, Ty.td63, h_iota, h_fill, h_take, h_drop, h_reverse, h_append, h_transpose, h_diagonal, h_windows, h_chunk]
    rfl
  | false =>
  rw [if_neg (by simp)]
  cases h_index : is_index e with
  | true =>
    rw [if_pos rfl]
    refine meets_of (X := true) Ty.mixed Try.func37 (by kernel_rfl) rfl (by kernel_rfl) (by simp) ?_; rw [Try.ntmps37, Try.results37]
    simp only [awp_reg, awp_seq, awp_cond, awp_block, seqQ_n, awpOps_nil, awpOps_one, awpOp_is, isCallV, callW_is, callV_is, putK_is, updK_is, put_s, upd_s, slot_is, slot.eq_1, pureOp, apureO, astepO, bsEnd_is, killT, aev, cv, cvc, binK, elO_s, cellsA, cellOk, setAll, fillA, condA_t, condA_f, chunk, isD_c, isDL_nil, isDL_cons, argT, Bool.false_eq_true, ↓reduceIte, List.length_cons, List.length_nil, List.map_cons, List.map_nil, List.cons_append, List.nil_append, List.append_nil, List.set_cons_zero, List.set_cons_succ, List.take_succ_cons, List.take_zero, List.drop_succ_cons, List.drop_zero, List.all_cons, List.all_nil, Bool.true_and, Bool.and_self, Value.oneCell', true_and, and_self, reduceCtorEq, Nat.reduceAdd, Nat.reduceMul, Nat.reduceLT, Nat.reduceLeDiff, Nat.reduceEqDiff, Nat.reduceMod, Nat.zero_add, List.range_succ, List.range_zero, Nat.le_refl, List.take_nil, Ty.td3, Ty.td22, Ty.td63, h_iota, h_fill, h_take, h_drop, h_reverse, h_append, h_transpose, h_diagonal, h_windows, h_chunk, h_index]
    refine call_meets (f0) (by simp only [aev, cv, cvc, toD_c, consO_some, toDL_nil, toDL_cons] <;> rfl) ?_; simp only [awp_ret, seqQ_n, seqQ_r, blkQ_r, awpOps_nil, awpOps_one, awpOp_is, isCallV, putK_is, updK_is, put_s, upd_n, upd_s, slot_is, slot.eq_1, retA_is, pureOp, apureO, astepO, killT, aev, cv, cvc, elO_s, loadA_p, storeA, cellsA, cellOk, setAll, fillA, placeT, placesA, elemsA, flat_fn, ownsV_c, ownsL_nil, ownsL_cons, toD_c, toD_tup, toD_agg, toD_own, toD_fn, toD_dptr, consO_some, toDL_nil, toDL_cons, notExit, resA_nil, resA_tmp, resA_cell, oneA_2, Bool.false_eq_true, ↓reduceIte, List.getElem?_cons_zero, List.getElem?_cons_succ, List.length_cons, List.length_nil, List.map_cons, List.map_nil, List.append_nil, List.set_cons_zero, List.set_cons_succ, Option.map_some, List.take_succ_cons, List.drop_zero, List.all_cons, List.all_nil, Bool.true_and, Bool.and_self, Bool.or_true, Value.oneCell', true_and, and_self, ne_eq, not_false_eq_true, reduceCtorEq, Nat.reduceAdd, Nat.reduceLeDiff, Nat.reduceEqDiff, Nat.zero_add, List.isEmpty_nil, Nat.le_refl, List.take_nil, Ty.td3, Ty.td22, Ty.td60, Ty.td61, Ty.td63]
    rfl
  | false =>
  rw [if_neg (by simp)]
  cases h_update : is_update e with
  | true =>
    rw [if_pos rfl]
    refine meets_of (X := true) Ty.mixed Try.func37 (by kernel_rfl) rfl (by kernel_rfl) (by simp) ?_; rw [Try.ntmps37, Try.results37]
    simp only [awp_reg, awp_seq, awp_cond, awp_block, seqQ_n, awpOps_nil, awpOps_one, awpOp_is, isCallV, callW_is, callV_is, putK_is, updK_is, put_s, upd_s, slot_is, slot.eq_1, pureOp, apureO, astepO, bsEnd_is, killT, aev, cv, cvc, binK, elO_s, cellsA, cellOk, setAll, fillA, condA_t, condA_f, chunk, isD_c, isDL_nil, isDL_cons, argT, Bool.false_eq_true, ↓reduceIte, List.length_cons, List.length_nil, List.map_cons, List.map_nil, List.cons_append, List.nil_append, List.append_nil, List.set_cons_zero, List.set_cons_succ, List.take_succ_cons, List.take_zero, List.drop_succ_cons, List.drop_zero, List.all_cons, List.all_nil, Bool.true_and, Bool.and_self, Value.oneCell', true_and, and_self, reduceCtorEq, Nat.reduceAdd, Nat.reduceMul, Nat.reduceLT, Nat.reduceLeDiff, Nat.reduceEqDiff, Nat.reduceMod, Nat.zero_add, List.range_succ, List.range_zero, Nat.le_refl, List.take_nil, Ty.td3, Ty.td22, Ty.td63, h_iota, h_fill, h_take, h_drop, h_reverse, h_append, h_transpose, h_diagonal, h_windows, h_chunk, h_index, h_update]
    refine call_meets (f1) (by simp only [aev, cv, cvc, toD_c, consO_some, toDL_nil, toDL_cons] <;> rfl) ?_; simp only [awp_ret, seqQ_n, seqQ_r, blkQ_r, awpOps_nil, awpOps_one, awpOp_is, isCallV, putK_is, updK_is, put_s, upd_n, upd_s, slot_is, slot.eq_1, retA_is, pureOp, apureO, astepO, killT, aev, cv, cvc, elO_s, loadA_p, storeA, cellsA, cellOk, setAll, fillA, placeT, placesA, elemsA, flat_fn, ownsV_c, ownsL_nil, ownsL_cons, toD_c, toD_tup, toD_agg, toD_own, toD_fn, toD_dptr, consO_some, toDL_nil, toDL_cons, notExit, resA_nil, resA_tmp, resA_cell, oneA_2, Bool.false_eq_true, ↓reduceIte, List.getElem?_cons_zero, List.getElem?_cons_succ, List.length_cons, List.length_nil, List.map_cons, List.map_nil, List.append_nil, List.set_cons_zero, List.set_cons_succ, Option.map_some, List.take_succ_cons, List.drop_zero, List.all_cons, List.all_nil, Bool.true_and, Bool.and_self, Bool.or_true, Value.oneCell', true_and, and_self, ne_eq, not_false_eq_true, reduceCtorEq, Nat.reduceAdd, Nat.reduceLeDiff, Nat.reduceEqDiff, Nat.zero_add, List.isEmpty_nil, Nat.le_refl, List.take_nil, Ty.td3, Ty.td22, Ty.td60, Ty.td61, Ty.td63]
    rfl
  | false =>
  rw [if_neg (by simp)]
  cases h_pack : is_pack e with
  | true =>
    rw [if_pos rfl]
    refine meets_of (X := true) Ty.mixed Try.func37 (by kernel_rfl) rfl (by kernel_rfl) (by simp) ?_; rw [Try.ntmps37, Try.results37]
    simp only [awp_reg, awp_seq, awp_cond, awp_block, awp_ret, seqQ_n, seqQ_r, blkQ_r, awpOps_nil, awpOps_one, awpOp_is, isCallV, putK_is, updK_is, put_s, upd_n, upd_s, slot_is, slot.eq_1, retA_is, pureOp, apureO, astepO, killT, aev, cv, cvc, binK, elO_s, loadA_p, storeA, cellsA, cellOk, setAll, fillA, placeT, placesA, condA_t, condA_f, toD_c, toD_nils, toD_tup, toD_agg, toD_fn, consO_some, toDL_nil, toDL_cons, notExit, resA_nil, resA_tmp, resA_cell, oneA_2, argT, Bool.false_eq_true, ↓reduceIte, List.getElem?_cons_zero, List.getElem?_cons_succ, List.length_cons, List.length_nil, List.map_cons, List.map_nil, List.nil_append, List.set_cons_zero, List.set_cons_succ, Option.map_some, List.take_succ_cons, List.drop_zero, List.all_cons, List.all_nil, Bool.true_and, Bool.and_self, Value.oneCell', true_and, and_self, ne_eq, not_false_eq_true, reduceCtorEq, Nat.reduceAdd, Nat.reduceLeDiff, Nat.reduceEqDiff, Nat.zero_add, Nat.le_refl, List.take_nil, Ty.td3, Ty.td22, Ty.td60, Ty.td61, Ty.td63, h_iota, h_fill, h_take, h_drop, h_reverse, h_append, h_transpose, h_diagonal, h_windows, h_chunk, h_index, h_update, h_pack]
  | false =>
  rw [if_neg (by simp)]
  refine meets_of (X := true) Ty.mixed Try.func37 (by kernel_rfl) rfl (by kernel_rfl) (by simp) ?_; rw [Try.ntmps37, Try.results37]
  simp only [awp_skip, awp_reg, awp_seq, awp_cond, awp_block, awp_ret, seqQ_n, blkQ_n, awpOps_nil, awpOps_one, awpOp_is, isCallV, putK_is, updK_is, put_s, upd_n, upd_s, slot_is, slot.eq_1, retA_is, pureOp, apureO, astepO, killT, aev, cv, cvc, binK, elO_s, loadA_p, storeA, cellsA, cellOk, setAll, fillA, placeT, placesA, condA_f, toD_c, toD_nils, toD_tup, toD_agg, consO_some, toDL_nil, toDL_cons, notExit, resA_nil, resA_tmp, resA_cell, oneA_2, argT, Bool.false_eq_true, ↓reduceIte, List.getElem?_cons_zero, List.length_cons, List.length_nil, List.map_cons, List.map_nil, List.nil_append, List.set_cons_zero, List.set_cons_succ, Option.map_some, List.take_succ_cons, List.drop_zero, List.all_cons, List.all_nil, Bool.true_and, Bool.and_self, Value.oneCell', true_and, and_self, ne_eq, not_false_eq_true, reduceCtorEq, Nat.reduceAdd, Nat.reduceEqDiff, Nat.zero_add, Nat.le_refl, List.take_nil, Ty.td3, Ty.td22, Ty.td60, Ty.td61, Ty.td63, h_iota, h_fill, h_take, h_drop, h_reverse, h_append, h_transpose, h_diagonal, h_windows, h_chunk, h_index, h_update, h_pack]

/-! The dimensions of the results. -/
theorem within (k n : Int) (ds : List Int) : Meets Try.prog 61 [I k, I n, ints ds] (.tup [ints (if k < 0 ∨ n < k then [] else ds), I (if k < 0 ∨ n < k then 2 else 0)]) := by
  by_cases h1 : k < 0
  · rw [if_pos (Or.inl h1), if_pos (Or.inl h1)]
    refine Meets.weak (r0 := .tup [.nils, I 2]) ?_ fun ok w v h => tup_imp (fun _ => cons_imp (fun _ => nil_imp) fun _ h => h) h
    refine meets_of (X := true) Ty.mixed Try.func61 (by kernel_rfl) rfl (by kernel_rfl) (by simp) ?_; rw [Try.ntmps61, Try.results61]
    simp only [awp_reg, awp_seq, awp_cond, awp_ret, seqQ_n, seqQ_r, awpOps_nil, awpOps_one, awpOps_if, awpOp_is, putK_is, put_s, slot_is, retA_is, pureOp, apureO, aev, cv, cvc, binK, yieldA, guardA_ft, condA_t, pickA_t, toD_c, toD_nils, toD_tup, consO_some, toDL_nil, toDL_cons, notExit, resA_nil, resA_tmp, oneA_2, argT, ↓reduceIte, List.getElem?_cons_zero, List.getElem?_cons_succ, List.getElem?_toArray, Option.bind_some, Option.map_some, Bool.and_self, and_self, reduceCtorEq, Nat.reduceAdd, Nat.reduceEqDiff, Nat.zero_add, decide_true, h1]
  by_cases h2 : n < k
  · rw [if_pos (Or.inr h2), if_pos (Or.inr h2)]
    refine Meets.weak (r0 := .tup [.nils, I 2]) ?_ fun ok w v h => tup_imp (fun _ => cons_imp (fun _ => nil_imp) fun _ h => h) h
    refine meets_of (X := true) Ty.mixed Try.func61 (by kernel_rfl) rfl (by kernel_rfl) (by simp) ?_; rw [Try.ntmps61, Try.results61]
    simp only [awp_reg, awp_seq, awp_cond, awp_ret, seqQ_n, seqQ_r, awpOps_nil, awpOps_one, awpOps_if, awpOp_is, awpO_is, putK_is, put_s, slot_is, retA_is, pureOp, apureO, aev, cv, cvc, binK, yieldA, guardA_ff, condA_t, pickA_f, toD_c, toD_nils, toD_tup, consO_some, toDL_nil, toDL_cons, notExit, resA_nil, resA_tmp, oneA_2, argT, ↓reduceIte, List.getElem?_cons_zero, List.getElem?_cons_succ, List.getElem?_toArray, Option.bind_some, Option.map_some, Bool.and_self, and_self, reduceCtorEq, Nat.reduceAdd, Nat.reduceEqDiff, Nat.zero_add, decide_true, decide_false, h1, h2]
  rw [if_neg (by omega), if_neg (by omega)]
  refine meets_of (X := true) Ty.mixed Try.func61 (by kernel_rfl) rfl (by kernel_rfl) (by simp) ?_; rw [Try.ntmps61, Try.results61]
  simp only [awp_skip, awp_reg, awp_seq, awp_cond, awp_ret, seqQ_n, awpOps_nil, awpOps_one, awpOps_if, awpOp_is, awpO_is, putK_is, put_s, slot_is, retA_is, pureOp, apureO, aev, cv, cvc, binK, yieldA, guardA_ff, condA_f, pickA_f, toD_c, toD_tup, toD_sl, consO_some, toDL_nil, toDL_cons, notExit, resA_nil, resA_tmp, oneA_2, argT, ↓reduceIte, List.getElem?_cons_zero, List.getElem?_cons_succ, List.getElem?_toArray, Option.bind_some, Option.map_some, Bool.and_self, and_self, reduceCtorEq, Nat.reduceAdd, Nat.reduceEqDiff, Nat.zero_add, decide_false, h1, h2]
end Go.Proofs.Ytbmmemglkjeogaa.S1
