/- Cells: what is few, the start, and the law of Frame. -/
import Derived.Test.YtoobaeebgnbpjaaB3
namespace Go.Proofs.Ytoobaeebgnbpjaa.B4
open Go Go.Proofs.Ytoobaeebgnbpjaa.Eng Go.Proofs.Ytoobaeebgnbpjaa Go.RowKit Go.Proofs.Ytoobaeebgnbpjaa.A1 Go.Proofs.Ytoobaeebgnbpjaa.A2 Go.Proofs.Ytoobaeebgnbpjaa.A3 Go.Proofs.Ytoobaeebgnbpjaa.A4 Go.Proofs.Ytoobaeebgnbpjaa.A5 Go.Proofs.Ytoobaeebgnbpjaa.B1 Go.Proofs.Ytoobaeebgnbpjaa.B2 Go.Proofs.Ytoobaeebgnbpjaa.B3
set_option linter.unusedSimpArgs false
set_option linter.unusedVariables false
set_option maxRecDepth 100000

abbrev fewA (a : Ar) : Bool := fewE a.1 a.2.1 a.2.2 100
def fewL (l : List Ar) : Bool := l.all fewA && decide ((l.length : Int) ≤ 4)

theorem fewList (l : List Ar) (hl : l.length ≤ maxLen) : Meets Try.prog 10 [arrs l] (B (fewL l)) := by
  have hm : l.length ≤ 9223372036854775807 := by unfold maxLen at hl; omega
  unfold fewL
  refine meets_of (X := false) Ty.mixed Try.func10 (by kernel_rfl) rfl (by kernel_rfl) (by simp) ?_; rw [Try.ntmps10, Try.results10]
  simp only [awp_reg, awp_seq, awp_block, awp_loop, seqQ_n, awpOps_nil, awpOps_one, awpOp_is, putK_is, put_s, pureOp, apureO, aev, cv, cvc, argT, ↓reduceIte]
  refine loop_k (fun k : Nat => k ≤ l.length ∧ l.all fewA = (l.drop k).all fewA) (fun k => ⟨19, [(3, I k), (0, arrs l)], []⟩) (fun k => l.length - k) 0 ⟨Nat.zero_le _, rfl⟩ (by simp only [slot_is, aev, cv, cvc, Weak, ↓reduceIte, Bool.and_true, Bool.and_self, and_true, and_self, reduceCtorEq]; simp) rfl rfl ?_
  rintro k ⟨hk, hi⟩ K hK
  simp only at hK
  simp only [awp_reg, awp_seq, awp_cond, seqQ_n, awpOps_nil, awpOps_one, awpOp_is, putK_is, put_s, slot_is, pureOp, apureO, aev, cv, cvc, binK, elO_s, lenA, lenK, ↓reduceIte, Bool.true_and, true_and, reduceCtorEq, Nat.reduceEqDiff, Option.isSome_some, Ty.td27, List.length_map]
  refine condA_dec (fun hlt => ?_) (fun hge => ?_)
  · have hlt' : k < l.length := by omega
    have hx : l[k]? = some l[k] := List.getElem?_eq_getElem hlt'
    rw [List.drop_eq_getElem_cons hlt', List.all_cons] at hi
    generalize l[k] = a at *
    obtain ⟨e, ds, xs⟩ := a
    have hf := few e ds xs 100
    simp only [fewA] at hi
    generalize fewE e ds xs 100 = q at *
    simp only [awp_skip, awp_reg, awp_seq, awp_block, seqQ_n, awpOps_one, awpOp_is, isCallV, callW_is, callV_is, putK_is, put_s, slot_is, pureOp, apureO, aev, cv, cvc, elO_s, loadA_d, Int.natCast_nonneg, Bool.false_eq_true, ↓reduceIte, List.length_cons, List.length_nil, List.map_cons, List.map_nil, List.append_nil, Option.map_some, List.take_succ_cons, Bool.true_and, true_and, reduceCtorEq, Nat.reduceAdd, Nat.reduceEqDiff, Nat.zero_add, Int.toNat_natCast, Nat.le_refl, List.take_nil, Ty.td24, Ty.td27, List.getElem?_map, hx]
    cases q with
    | false =>
      refine call_meets (hf) (by simp only [aev, cv, cvc, toD_c, toD_agg, toD_sl, consO_some, toDL_nil, toDL_cons, Option.map_some, hi]) ?_; simp only [awp_reg, awp_seq, awp_cond, awp_ret, seqQ_n, seqQ_r, loopQ_r, blkQ_r, awpOps_nil, awpOps_one, awpOp_is, putK_is, put_s, upd_s, slot_is, retA_is, pureOp, apureO, killT, aev, cv, cvc, condA_t, flat_c, ownsV_c, ownsV_agg, ownsV_sl, ownsL_nil, ownsL_cons, toD_c, notExit, resA_nil, resA_tmp, oneA_1, ↓reduceIte, List.append_nil, Bool.false_and, Bool.and_self, Bool.or_true, Bool.not_false, and_self, List.isEmpty_nil, hi]
    | true =>
      refine call_meets (hf) (by simp only [aev, cv, cvc, toD_c, toD_agg, toD_sl, consO_some, toDL_nil, toDL_cons, Option.map_some, wrap_in (x := (k : Int) + 1) (by omega) (by omega)]) ?_; simp only [awp_skip, awp_reg, awp_cond, seqQ_n, loopQ_n, blkQ_n, awpOps_nil, awpOps_one, awpOp_is, putK_is, put_s, upd_s, slot_is, pureOp, apureO, killT, aev, cv, cvc, binK, condA_f, flat_c, ownsV_c, ownsV_agg, ownsV_sl, ownsL_nil, ownsL_cons, ↓reduceIte, List.append_nil, Bool.true_and, Bool.or_true, Bool.not_true, true_and, Nat.reduceEqDiff, List.isEmpty_nil, wrap_in (x := (k : Int) + 1) (by omega) (by omega)]
      refine hK (k + 1) _ ⟨hlt', by simpa using hi⟩ (by omega) ?_ rfl rfl
      simp only [slot_is, aev, cv, cvc, Weak, ↓reduceIte, Bool.and_true, Bool.and_self, and_true, and_self, reduceCtorEq]
      simp
  · have hk' : k = l.length := by omega
    subst hk'
    rw [List.drop_length] at hi
    simp only [awp_reg, awp_seq, awp_exit, awp_ret, seqQ_n, seqQ_e, loopQ_e, blkQ_e, awpOps_nil, awpOps_one, awpOp_is, putK_is, put_s, slot_is, retA_is, pureOp, apureO, aev, cv, cvc, binK, elO_s, lenA, lenK, toD_c, notExit, resA_nil, resA_tmp, oneA_1, ↓reduceIte, List.all_nil, Bool.and_true, Bool.true_and, true_and, and_true, reduceCtorEq, Option.isSome_some, Ty.td27, hi, List.length_map]

theorem zerosOf (ds : List Int) (E : ByteArray) (D X : List Int) (k : Int) (hd : ds.length ≤ 1000000) (h : zerosE ⟨#[105, 110, 116]⟩ ds = .tup [arr E D X, I k]) : Meets Try.prog 31 [ints ds] (arr E D X) := by
  have hz := refZeros ⟨#[105, 110, 116]⟩ ds hd
  rw [h] at hz
  refine meets_of (X := false) Ty.mixed Try.func31 (by kernel_rfl) rfl (by kernel_rfl) (by simp) ?_; rw [Try.ntmps31, Try.results31]
  simp only [awp_reg, awp_seq, seqQ_n, awpOps_nil, awpOps_one, awpOp_is, isCallV, callW_is, callV_is, putK_is, updK_is, put_s, upd_s, slot_is, pureOp, apureO, astepO, killT, aev, cv, cvc, elO_s, argT, Bool.false_eq_true, ↓reduceIte, List.length_nil, List.map_cons, List.map_nil, List.nil_append, List.append_nil, List.all_cons, List.all_nil, Bool.true_and, Bool.and_self, Value.oneCell', true_and, and_self, reduceCtorEq, Ty.td24]
  refine call_meets (hz) (by simp only [aev, cv, cvc, toD_c, toD_sl, consO_some, toDL_nil, toDL_cons]) ?_; simp only [awp_reg, awp_seq, awp_ret, seqQ_n, awpOps_nil, awpOps_one, awpOp_is, isCallV, putK_is, updK_is, put_s, upd_n, upd_s, slot_is, retA_is, pureOp, apureO, astepO, killT, aev, cv, cvc, elO_s, loadA_p, storeA, cellsA, cellOk, setAll, flat_c, flat_tup, flat_agg, flat_sl, flatL_nil, flatL_cons, ownsV_c, ownsV_sl, ownsL_nil, ownsL_cons, toD_c, toD_agg, toD_sl, consO_some, toDL_nil, toDL_cons, notExit, resA_nil, resA_cell, oneA_1, Bool.false_eq_true, ↓reduceIte, List.getElem?_cons_zero, List.getElem?_cons_succ, List.length_cons, List.length_nil, List.map_cons, List.map_nil, List.cons_append, List.nil_append, List.append_nil, List.set_cons_zero, List.set_cons_succ, Option.map_some, List.take_succ_cons, List.drop_zero, List.all_cons, List.all_nil, Bool.and_true, Bool.true_and, Bool.and_false, Bool.and_self, Bool.or_true, Value.oneCell', true_and, and_true, and_self, Nat.reduceAdd, Nat.reduceEqDiff, Nat.zero_add, List.isEmpty_nil, Nat.le_refl, List.take_nil, Ty.td24]

theorem awake : Meets Try.prog 9 [] (B true) := by
  have z1 := zerosOf [2, 3, 4] ⟨#[105, 110, 116]⟩ [2, 3, 4] (List.replicate 24 0) 0 (by simp) (by kernel_rfl)
  have z2 := zerosOf [2, 3] ⟨#[105, 110, 116]⟩ [2, 3] (List.replicate 6 0) 0 (by simp) (by kernel_rfl)
  have z3 := zerosOf [3] ⟨#[105, 110, 116]⟩ [3] (List.replicate 3 0) 0 (by simp) (by kernel_rfl)
  have hs := split ⟨#[105, 110, 116]⟩ [2, 3, 4] (List.replicate 24 0) 2 (by simp) (by simp) (by omega)
  rw [show splitE (⟨#[105, 110, 116]⟩, [2, 3, 4], List.replicate 24 0) 2 = (([2], [3, 4]), 0) by kernel_rfl] at hs
  have hb : ∀ a ∈ [((⟨#[105, 110, 116]⟩, [2, 3], List.replicate 6 0) : Ar), (⟨#[105, 110, 116]⟩, [3], List.replicate 3 0)], a.2.1.length ≤ 1000000 ∧ a.2.2.length ≤ 1000000 := by
    intro a ha
    simp only [List.mem_cons, List.not_mem_nil, or_false] at ha
    rcases ha with rfl | rfl <;> simp
  have f1 := frame [(⟨#[105, 110, 116]⟩, [2, 3], List.replicate 6 0), (⟨#[105, 110, 116]⟩, [3], List.replicate 3 0)] [1, 1] (by simp) (by simp) hb (by simp)
  rw [show frameA [(⟨#[105, 110, 116]⟩, [2, 3], List.replicate 6 0), (⟨#[105, 110, 116]⟩, [3], List.replicate 3 0)] [1, 1] = (([2], [true, false]), 0) by kernel_rfl] at f1
  have f2 := frame [(⟨#[105, 110, 116]⟩, [2, 3], List.replicate 6 0), (⟨#[105, 110, 116]⟩, [3], List.replicate 3 0)] [0, 0] (by simp) (by simp) hb (by simp)
  rw [show frameA [(⟨#[105, 110, 116]⟩, [2, 3], List.replicate 6 0), (⟨#[105, 110, 116]⟩, [3], List.replicate 3 0)] [0, 0] = (([], []), 13) by kernel_rfl] at f2
  have e1 := sameInts [2] [2] (by simp) (by simp)
  have e2 := sameInts [3, 4] [3, 4] (by simp) (by simp)
  rw [beq_self_eq_true] at e1 e2
  simp only [arr, ints, arrs, encA, fr3, three, bools, List.map_cons, List.map_nil] at z1 z2 z3 hs f1 f2 e1 e2
  refine meets_of (X := false) Ty.mixed Try.func9 (by kernel_rfl) rfl (by kernel_rfl) (by simp) ?_; rw [Try.ntmps9, Try.results9]
  simp only [awp_reg, awp_seq, seqQ_n, awpOps_nil, awpOps_one, awpOp_is, isCallV, callW_is, callV_is, putK_is, updK_is, put_s, upd_s, slot_is, slot.eq_1, pureOp, apureO, astepO, bsEnd_is, killT, aev, cv, cvc, elO_s, cellsA, cellOk, setAll, fillA, chunk, isD_c, isDL_nil, isDL_cons, argT, Bool.false_eq_true, ↓reduceIte, List.length_cons, List.length_nil, List.map_cons, List.map_nil, List.cons_append, List.nil_append, List.append_nil, List.set_cons_zero, List.set_cons_succ, List.take_succ_cons, List.take_zero, List.drop_succ_cons, List.drop_zero, List.all_cons, List.all_nil, Bool.true_and, Bool.and_self, Value.oneCell', true_and, and_self, Nat.reduceAdd, Nat.reduceMul, Nat.reduceLT, Nat.reduceLeDiff, Nat.reduceMod, Nat.zero_add, List.range_succ, List.range_zero, Nat.le_refl, List.take_nil, Ty.td3, Ty.td22]
  refine call_meets (z1) (by simp only [aev, cv, cvc, elemsA, toD_own, consO_some, toDL_nil, toDL_cons, ↓reduceIte, List.getElem?_cons_zero, List.length_cons, List.length_nil, Option.map_some, List.take_succ_cons, Bool.and_self, and_self, Nat.reduceAdd, Nat.zero_add, Nat.le_refl, List.take_nil]) ?_; simp only [awpOps_one, awpOp_is, isCallV, callW_is, callV_is, upd_s, slot_is, pureOp, killT, killH, aev, cv, cvc, elemsA, dropL, flat_c, flat_agg, flat_sl, flatL_nil, flatL_cons, ownsV_own, ownsL_nil, ownsL_cons, killV_c, killV_own, Bool.false_eq_true, ↓reduceIte, List.getElem?_cons_zero, List.length_cons, List.length_nil, List.map_cons, List.map_nil, List.append_nil, Option.map_none, List.take_succ_cons, Bool.and_true, Bool.and_false, Bool.and_self, Bool.or_false, and_true, and_self, Nat.reduceAdd, Nat.zero_add, List.isEmpty_cons, List.mem_cons, List.not_mem_nil, or_false, List.zipIdx_cons, List.zipIdx_nil, Nat.le_refl, List.take_nil]
  refine call_meets (hs) (by simp only [aev, cv, cvc, toD_c, toD_agg, toD_sl, consO_some, toDL_nil, toDL_cons, Option.map_some]) ?_; simp only [awp_reg, awp_seq, seqQ_n, awpOps_nil, awpOps_one, awpOp_is, isCallV, callW_is, callV_is, putK_is, updK_is, put_s, upd_s, slot_is, slot.eq_1, pureOp, apureO, astepO, bsEnd_is, killT, aev, cv, cvc, elO_s, cellsA, cellOk, setAll, fillA, chunk, flat_c, flat_tup, flat_sl, flatL_nil, flatL_cons, isD_c, isDL_nil, isDL_cons, ownsV_c, ownsV_agg, ownsV_sl, ownsL_nil, ownsL_cons, Bool.false_eq_true, ↓reduceIte, List.getElem?_cons_zero, List.getElem?_cons_succ, List.length_cons, List.length_nil, List.map_cons, List.map_nil, List.cons_append, List.nil_append, List.append_nil, List.set_cons_zero, List.set_cons_succ, List.take_succ_cons, List.take_zero, List.drop_succ_cons, List.drop_zero, List.all_cons, List.all_nil, Bool.and_true, Bool.true_and, Bool.and_self, Bool.or_true, Value.oneCell', true_and, and_true, and_self, Nat.reduceAdd, Nat.reduceMul, Nat.reduceLT, Nat.reduceLeDiff, Nat.reduceEqDiff, Nat.reduceMod, Nat.zero_add, List.isEmpty_nil, List.range_succ, List.range_zero, Nat.le_refl, List.take_nil, Ty.td3, Ty.td22]
  refine call_meets (z2) (by simp only [aev, cv, cvc, elemsA, toD_own, consO_some, toDL_nil, toDL_cons, ↓reduceIte, List.getElem?_cons_zero, List.getElem?_cons_succ, List.length_cons, List.length_nil, Option.map_some, List.take_succ_cons, Bool.and_self, and_self, Nat.reduceAdd, Nat.zero_add, Nat.le_refl, List.take_nil]) ?_; simp only [awpOps_one, awpOp_is, isCallV, callW_is, callV_is, updK_is, upd_s, slot_is, slot.eq_1, pureOp, astepO, bsEnd_is, killT, killH, aev, cv, cvc, elO_s, cellsA, cellOk, setAll, fillA, elemsA, chunk, dropL, flat_c, flat_agg, flat_sl, flatL_nil, flatL_cons, isD_c, isDL_nil, isDL_cons, ownsV_own, ownsL_nil, ownsL_cons, killV_c, killV_tup, killV_agg, killV_sl, killV_own, killL_nil, killL_cons, Bool.false_eq_true, ↓reduceIte, List.getElem?_cons_zero, List.getElem?_cons_succ, List.length_cons, List.length_nil, List.map_cons, List.map_nil, List.cons_append, List.nil_append, List.append_nil, List.set_cons_zero, Option.map_none, List.take_succ_cons, List.drop_zero, List.all_cons, List.all_nil, Bool.and_true, Bool.true_and, Bool.and_false, Bool.and_self, Bool.or_false, Value.oneCell', true_and, and_true, and_self, reduceCtorEq, Nat.reduceAdd, Nat.reduceMul, Nat.reduceLT, Nat.reduceLeDiff, Nat.reduceMod, Nat.zero_add, List.isEmpty_cons, List.mem_cons, List.not_mem_nil, or_false, List.range_succ, List.range_zero, List.zipIdx_cons, List.zipIdx_nil, Nat.le_refl, List.take_nil, Ty.td3, Ty.td22]
  refine call_meets (z3) (by simp only [aev, cv, cvc, elemsA, toD_own, consO_some, toDL_nil, toDL_cons, ↓reduceIte, List.getElem?_cons_zero, List.getElem?_cons_succ, List.length_cons, List.length_nil, Option.map_some, List.take_succ_cons, Bool.and_self, and_self, Nat.zero_add, Nat.le_refl, List.take_nil]) ?_; simp only [awpOps_one, awpOp_is, isCallV, callW_is, callV_is, updK_is, upd_s, slot_is, slot.eq_1, pureOp, astepO, bsEnd_is, killT, killH, aev, cv, cvc, elO_s, cellsA, cellOk, setAll, fillA, elemsA, chunk, dropL, flat_c, flat_agg, flat_sl, flatL_nil, flatL_cons, isD_c, isD_sl, isDL_nil, isDL_cons, ownsV_own, ownsL_nil, ownsL_cons, killV_c, killV_tup, killV_agg, killV_sl, killV_own, killL_nil, killL_cons, Bool.false_eq_true, ↓reduceIte, List.getElem?_cons_zero, List.getElem?_cons_succ, List.length_cons, List.length_nil, List.map_cons, List.map_nil, List.cons_append, List.nil_append, List.append_nil, List.set_cons_zero, List.set_cons_succ, Option.map_none, List.take_succ_cons, List.take_zero, List.drop_succ_cons, List.drop_zero, List.all_cons, List.all_nil, Bool.and_true, Bool.true_and, Bool.and_false, Bool.and_self, Bool.or_false, Value.oneCell', true_and, and_true, and_self, reduceCtorEq, Nat.reduceAdd, Nat.reduceMul, Nat.reduceLT, Nat.reduceLeDiff, Nat.reduceEqDiff, Nat.reduceMod, Nat.zero_add, List.isEmpty_cons, List.mem_cons, List.not_mem_nil, or_false, List.range_succ, List.range_zero, List.zipIdx_cons, List.zipIdx_nil, Nat.le_refl, List.take_nil, Ty.td3, Ty.td22, Ty.td24, Ty.td27]
  refine call_meets (f1) (by simp only [aev, cv, cvc, elemsA, toD_own, consO_some, toDL_nil, toDL_cons, ↓reduceIte, List.getElem?_cons_zero, List.getElem?_cons_succ, List.length_cons, List.length_nil, Option.map_some, List.take_succ_cons, Bool.and_self, and_self, Nat.reduceAdd, Nat.zero_add, Nat.le_refl, List.take_nil]) ?_; simp only [awp_reg, awp_seq, seqQ_n, awpOps_nil, awpOps_one, awpOp_is, isCallV, callW_is, callV_is, putK_is, updK_is, put_s, upd_s, slot_is, slot.eq_1, pureOp, apureO, astepO, bsEnd_is, killT, killH, aev, cv, cvc, elO_s, cellsA, cellOk, setAll, fillA, elemsA, chunk, dropL, flat_c, flat_tup, flat_sl, flatL_nil, flatL_cons, isD_c, isDL_nil, isDL_cons, ownsV_own, ownsL_nil, ownsL_cons, killV_c, killV_tup, killV_agg, killV_sl, killV_own, killL_nil, killL_cons, Bool.false_eq_true, ↓reduceIte, List.getElem?_cons_zero, List.getElem?_cons_succ, List.length_cons, List.length_nil, List.map_cons, List.map_nil, List.cons_append, List.nil_append, List.append_nil, List.set_cons_zero, List.set_cons_succ, Option.map_none, List.take_succ_cons, List.take_zero, List.drop_succ_cons, List.drop_zero, List.all_cons, List.all_nil, Bool.and_true, Bool.true_and, Bool.and_self, Bool.false_or, Bool.or_false, Value.oneCell', true_and, and_true, and_self, reduceCtorEq, Nat.reduceAdd, Nat.reduceMul, Nat.reduceLT, Nat.reduceLeDiff, Nat.reduceEqDiff, Nat.reduceMod, Nat.zero_add, List.isEmpty_cons, List.mem_cons, List.not_mem_nil, or_false, false_or, List.range_succ, List.range_zero, List.zipIdx_cons, List.zipIdx_nil, Nat.le_refl, List.take_nil, Ty.td3, Ty.td22]
  refine call_meets (z2) (by simp only [aev, cv, cvc, elemsA, toD_own, consO_some, toDL_nil, toDL_cons, ↓reduceIte, List.getElem?_cons_zero, List.getElem?_cons_succ, List.length_cons, List.length_nil, Option.map_some, List.take_succ_cons, Bool.and_self, and_self, Nat.reduceAdd, Nat.zero_add, Nat.le_refl, List.take_nil]) ?_; simp only [awpOps_one, awpOp_is, isCallV, callW_is, callV_is, updK_is, upd_s, slot_is, slot.eq_1, pureOp, astepO, bsEnd_is, killT, killH, aev, cv, cvc, elO_s, cellsA, cellOk, setAll, fillA, elemsA, chunk, dropL, flat_c, flat_agg, flat_sl, flatL_nil, flatL_cons, isD_c, isDL_nil, isDL_cons, ownsV_own, ownsL_nil, ownsL_cons, killV_c, killV_tup, killV_agg, killV_sl, killV_own, killL_nil, killL_cons, Bool.false_eq_true, ↓reduceIte, List.getElem?_cons_zero, List.getElem?_cons_succ, List.length_cons, List.length_nil, List.map_cons, List.map_nil, List.cons_append, List.nil_append, List.append_nil, List.set_cons_zero, Option.map_none, List.take_succ_cons, List.drop_zero, List.all_cons, List.all_nil, Bool.and_true, Bool.true_and, Bool.and_false, Bool.and_self, Bool.or_false, Value.oneCell', true_and, and_true, and_self, reduceCtorEq, Nat.reduceAdd, Nat.reduceMul, Nat.reduceLT, Nat.reduceLeDiff, Nat.reduceEqDiff, Nat.reduceMod, Nat.zero_add, List.isEmpty_cons, List.mem_cons, List.not_mem_nil, or_false, List.range_succ, List.range_zero, List.zipIdx_cons, List.zipIdx_nil, Nat.le_refl, List.take_nil, Ty.td3, Ty.td22]
  refine call_meets (z3) (by simp only [aev, cv, cvc, elemsA, toD_own, consO_some, toDL_nil, toDL_cons, ↓reduceIte, List.getElem?_cons_zero, List.getElem?_cons_succ, List.length_cons, List.length_nil, Option.map_some, List.take_succ_cons, Bool.and_self, and_self, Nat.zero_add, Nat.le_refl, List.take_nil]) ?_; simp only [awpOps_one, awpOp_is, isCallV, callW_is, callV_is, updK_is, upd_s, slot_is, slot.eq_1, pureOp, astepO, bsEnd_is, killT, killH, aev, cv, cvc, elO_s, cellsA, cellOk, setAll, fillA, elemsA, chunk, dropL, flat_c, flat_agg, flat_sl, flatL_nil, flatL_cons, isD_c, isD_sl, isDL_nil, isDL_cons, ownsV_own, ownsL_nil, ownsL_cons, killV_c, killV_tup, killV_agg, killV_sl, killV_own, killL_nil, killL_cons, Bool.false_eq_true, ↓reduceIte, List.getElem?_cons_zero, List.getElem?_cons_succ, List.length_cons, List.length_nil, List.map_cons, List.map_nil, List.cons_append, List.nil_append, List.append_nil, List.set_cons_zero, List.set_cons_succ, Option.map_none, List.take_succ_cons, List.take_zero, List.drop_succ_cons, List.drop_zero, List.all_cons, List.all_nil, Bool.and_true, Bool.true_and, Bool.and_false, Bool.and_self, Bool.or_false, Value.oneCell', true_and, and_true, and_self, reduceCtorEq, Nat.reduceAdd, Nat.reduceMul, Nat.reduceLT, Nat.reduceLeDiff, Nat.reduceEqDiff, Nat.reduceMod, Nat.zero_add, List.isEmpty_cons, List.mem_cons, List.not_mem_nil, or_false, List.range_succ, List.range_zero, List.zipIdx_cons, List.zipIdx_nil, Nat.le_refl, List.take_nil, Ty.td3, Ty.td22, Ty.td24, Ty.td27]
  refine call_meets (f2) (by simp only [aev, cv, cvc, elemsA, toD_own, consO_some, toDL_nil, toDL_cons, ↓reduceIte, List.getElem?_cons_zero, List.getElem?_cons_succ, List.length_cons, List.length_nil, Option.map_some, List.take_succ_cons, Bool.and_self, and_self, Nat.reduceAdd, Nat.zero_add, Nat.le_refl, List.take_nil]) ?_; simp only [awp_reg, awp_seq, seqQ_n, awpOps_nil, awpOps_one, awpOps_if, awpOp_is, isCallV, callW_is, callV_is, awpO_is, putK_is, updK_is, put_s, upd_s, slot_is, slot.eq_1, pureOp, apureO, astepO, bsEnd_is, killT, killH, aev, cv, cvc, binK, elO_s, cellsA, cellOk, setAll, fillA, yieldA, guardA_tt, pickA_t, elemsA, chunk, dropL, flat_c, flat_tup, flat_sl, flatL_nil, flatL_cons, isD_c, isDL_nil, isDL_cons, ownsV_own, ownsL_nil, ownsL_cons, killV_c, killV_tup, killV_agg, killV_sl, killV_own, killL_nil, killL_cons, Bool.false_eq_true, ↓reduceIte, List.getElem?_cons_zero, List.getElem?_cons_succ, List.length_cons, List.length_nil, List.map_cons, List.map_nil, List.cons_append, List.nil_append, List.append_nil, List.set_cons_zero, List.getElem?_toArray, Option.bind_some, Option.map_none, List.take_succ_cons, List.drop_zero, List.all_cons, List.all_nil, Bool.and_true, Bool.true_and, Bool.and_self, Bool.false_or, Bool.or_false, Value.oneCell', true_and, and_true, and_self, reduceCtorEq, Nat.reduceAdd, Nat.reduceMul, Nat.reduceLT, Nat.reduceLeDiff, Nat.reduceEqDiff, Nat.reduceMod, Nat.zero_add, List.isEmpty_cons, List.mem_cons, List.not_mem_nil, or_false, false_or, List.range_succ, List.range_zero, List.zipIdx_cons, List.zipIdx_nil, Nat.le_refl, List.take_nil, Ty.td3, Ty.td22, beq_self_eq_true]
  refine call_meets (e1) (by simp only [aev, cv, cvc, elemsA, toD_sl, toD_own, consO_some, toDL_nil, toDL_cons, ↓reduceIte, List.getElem?_cons_zero, List.getElem?_cons_succ, List.length_cons, List.length_nil, Option.map_some, List.take_succ_cons, Bool.and_self, and_self, Nat.zero_add, Nat.le_refl, List.take_nil]) ?_; simp only [awpOps_one, awpOps_if, awpOp_is, isCallV, callW_is, callV_is, awpO_is, putK_is, updK_is, put_s, upd_s, slot_is, slot.eq_1, pureOp, apureO, astepO, bsEnd_is, killT, aev, cv, cvc, elO_s, cellsA, cellOk, setAll, fillA, yieldA, guardA_tt, pickA_t, chunk, flat_c, isD_c, isDL_nil, isDL_cons, ownsV_sl, ownsV_own, ownsL_nil, ownsL_cons, Bool.false_eq_true, ↓reduceIte, List.getElem?_cons_zero, List.getElem?_cons_succ, List.length_cons, List.length_nil, List.map_cons, List.map_nil, List.cons_append, List.nil_append, List.append_nil, List.set_cons_zero, List.set_cons_succ, List.getElem?_toArray, Option.bind_some, List.take_succ_cons, List.take_zero, List.drop_succ_cons, List.drop_zero, List.all_cons, List.all_nil, Bool.true_and, Bool.and_self, Bool.or_false, Value.oneCell', true_and, and_self, Nat.reduceAdd, Nat.reduceMul, Nat.reduceLT, Nat.reduceLeDiff, Nat.reduceEqDiff, Nat.reduceMod, Nat.zero_add, List.isEmpty_cons, or_false, List.range_succ, List.range_zero, Nat.le_refl, List.take_nil, Ty.td3, Ty.td22]
  refine call_meets (e2) (by simp only [aev, cv, cvc, elemsA, toD_sl, toD_own, consO_some, toDL_nil, toDL_cons, ↓reduceIte, List.getElem?_cons_zero, List.getElem?_cons_succ, List.length_cons, List.length_nil, Option.map_some, List.take_succ_cons, Bool.and_self, and_self, Nat.reduceAdd, Nat.zero_add, Nat.le_refl, List.take_nil]) ?_; simp only [awpOps_one, awpOps_if, awpOp_is, isCallV, callW_is, callV_is, awpO_is, putK_is, updK_is, put_s, upd_s, slot_is, slot.eq_1, pureOp, apureO, astepO, bsEnd_is, killT, aev, cv, cvc, elO_s, cellsA, cellOk, setAll, fillA, yieldA, guardA_tt, pickA_t, chunk, flat_c, isD_c, isDL_nil, isDL_cons, ownsV_sl, ownsV_own, ownsL_nil, ownsL_cons, Bool.false_eq_true, ↓reduceIte, List.getElem?_cons_zero, List.getElem?_cons_succ, List.length_cons, List.length_nil, List.map_cons, List.map_nil, List.cons_append, List.nil_append, List.append_nil, List.set_cons_zero, List.getElem?_toArray, Option.bind_some, List.take_succ_cons, List.drop_zero, List.all_cons, List.all_nil, Bool.true_and, Bool.and_self, Bool.or_false, Value.oneCell', true_and, and_self, Nat.reduceAdd, Nat.reduceMul, Nat.reduceLT, Nat.reduceLeDiff, Nat.reduceEqDiff, Nat.reduceMod, Nat.zero_add, List.isEmpty_cons, or_false, List.range_succ, List.range_zero, Nat.le_refl, List.take_nil, Ty.td3, Ty.td22]
  refine call_meets (e1) (by simp only [aev, cv, cvc, elemsA, toD_sl, toD_own, consO_some, toDL_nil, toDL_cons, ↓reduceIte, List.getElem?_cons_zero, List.getElem?_cons_succ, List.length_cons, List.length_nil, Option.map_some, List.take_succ_cons, Bool.and_self, and_self, Nat.zero_add, Nat.le_refl, List.take_nil, show (((2 : Nat) : Int) == 2) = true from rfl]) ?_; simp only [awp_ret, seqQ_n, awpOps_nil, awpOps_one, awpOps_if, awpOp_is, awpO_is, putK_is, put_s, upd_s, slot_is, retA_is, pureOp, apureO, killT, aev, cv, cvc, binK, elO_s, lenA, lenK, loadA_d, yieldA, guardA_tt, pickA_t, flat_c, ownsV_sl, ownsV_own, ownsL_nil, ownsL_cons, toD_c, notExit, resA_nil, resA_tmp, oneA_1, Bool.false_eq_true, ↓reduceIte, List.getElem?_cons_zero, List.getElem?_cons_succ, List.length_cons, List.length_nil, List.nil_append, List.append_nil, List.getElem?_toArray, Option.bind_some, Bool.and_true, Bool.true_and, Bool.and_self, Bool.or_false, Bool.not_false, true_and, and_true, and_self, Nat.reduceAdd, Nat.reduceEqDiff, Nat.zero_add, List.isEmpty_cons, or_false, Int.reduceToNat, Option.isSome_some, Int.le_refl, Ty.td4, Ty.td36, show (((2 : Nat) : Int) == 2) = true from rfl]
  omega

theorem frameE_len (N : Nat) : ∀ (l : List Ar) (rs fr : List Int) (bs : List Bool), (∀ a ∈ l, a.2.1.length ≤ N) → fr.length ≤ N → (frameE l rs fr bs).1.1.length ≤ N ∧ (frameE l rs fr bs).1.2.length ≤ bs.length + l.length
  | [], rs, fr, bs, _, h => by
    rw [show frameE [] rs fr bs = ((fr, bs), 0) from by cases rs <;> rfl]
    exact ⟨h, by simp⟩
  | a :: l, [], fr, bs, _, h => ⟨h, by show bs.length ≤ _; omega⟩
  | a :: l, r :: rs, fr, bs, ha, h => by
    have h1 := splitE_len a r
    have h2 := ha a (by simp)
    have h3 : ∀ b ∈ l, b.2.1.length ≤ N := fun b hb => ha b (by simp [hb])
    rw [frameE]
    split
    · simp
    split
    · have := frameE_len N l rs fr (bs ++ [false]) h3 h
      simp only [List.length_append, List.length_cons, List.length_nil] at this ⊢
      omega
    split
    · have := frameE_len N l rs (splitE a r).1.1 (bs ++ [true]) h3 (by omega)
      simp only [List.length_append, List.length_cons, List.length_nil] at this ⊢
      omega
    split
    · simp
    split
    · simp
    · have := frameE_len N l rs fr (bs ++ [true]) h3 h
      simp only [List.length_append, List.length_cons, List.length_nil] at this ⊢
      omega

theorem fewL_ex {l : List Ar} (h : fewL l = true) : l.length ≤ 4 ∧ ∀ a ∈ l, a.2.1.length ≤ 1000000 ∧ a.2.2.length ≤ 1000000 := by
  simp only [fewL, Bool.and_eq_true, decide_eq_true_eq] at h
  refine ⟨by omega, fun a ha => ?_⟩
  have := List.all_eq_true.1 h.1 a ha
  simp only [fewA, fewE, Bool.and_eq_true, decide_eq_true_eq] at this
  omega

theorem law (l : List Ar) (rs : List Int) (hl : l.length ≤ maxLen) (hr : rs.length ≤ maxLen) (hq : ∀ r ∈ rs, r ≤ 9223372036854775807) : Meets Try.prog 4 [arrs l, ints rs] (B true) := by
  have ha := awake
  have hf := fewList l hl
  refine meets_of (X := false) Ty.mixed Try.func4 (by kernel_rfl) rfl (by kernel_rfl) (by simp) ?_; rw [Try.ntmps4, Try.results4]
  simp only [awp_reg, awp_seq, seqQ_n, awpOps_nil, awpOps_one, awpOp_is, isCallV, callW_is, callV_is, putK_is, put_s, pureOp, apureO, aev, cv, cvc, argT, Bool.false_eq_true, ↓reduceIte, List.map_nil, List.append_nil, Nat.zero_add]
  refine call_meets (ha) (by simp only [aev, cv, cvc, toDL_nil]) ?_; simp only [awp_skip, awp_reg, awp_seq, awp_cond, seqQ_n, awpOps_nil, awpOps_one, awpOp_is, isCallV, callW_is, callV_is, putK_is, put_s, upd_s, slot_is, pureOp, apureO, killT, aev, cv, cvc, condA_f, flat_c, ownsL_nil, Bool.false_eq_true, ↓reduceIte, List.map_cons, List.map_nil, List.append_nil, Bool.or_true, Bool.not_true, reduceCtorEq, List.isEmpty_nil]
  cases hfl : fewL l with
  | false =>
    rw [hfl] at hf
    refine call_meets (hf) (by simp only [aev, cv, cvc, toD_sl, consO_some, toDL_nil, toDL_cons]) ?_; simp only [awp_reg, awp_seq, awp_cond, awp_ret, seqQ_n, seqQ_r, awpOps_nil, awpOps_one, awpOps_if, awpOp_is, putK_is, put_s, upd_s, slot_is, retA_is, pureOp, apureO, killT, aev, cv, cvc, yieldA, guardA_ft, condA_t, pickA_t, flat_c, ownsV_sl, ownsL_nil, ownsL_cons, toD_c, notExit, resA_nil, resA_tmp, oneA_1, ↓reduceIte, List.getElem?_cons_zero, List.getElem?_cons_succ, List.append_nil, List.getElem?_toArray, Option.bind_some, Bool.and_self, Bool.or_true, Bool.not_false, and_self, Nat.reduceEqDiff, List.isEmpty_nil]
  | true =>
  rw [hfl] at hf
  by_cases h8 : (8 : Int) < rs.length
  · refine call_meets (hf) (by simp only [aev, cv, cvc, toD_sl, consO_some, toDL_nil, toDL_cons, h8]) ?_; simp only [awp_reg, awp_seq, awp_cond, awp_ret, seqQ_n, seqQ_r, awpOps_nil, awpOps_one, awpOps_if, awpOp_is, awpO_is, putK_is, put_s, upd_s, slot_is, retA_is, pureOp, apureO, killT, aev, cv, cvc, binK, elO_s, lenA, lenK, yieldA, guardA_ff, condA_t, pickA_f, flat_c, ownsV_sl, ownsL_nil, ownsL_cons, toD_c, notExit, resA_nil, resA_tmp, oneA_1, ↓reduceIte, List.getElem?_cons_zero, List.getElem?_cons_succ, List.append_nil, List.getElem?_toArray, Option.bind_some, Bool.and_true, Bool.true_and, Bool.and_self, Bool.or_true, Bool.not_true, true_and, and_true, and_self, reduceCtorEq, Nat.reduceEqDiff, List.isEmpty_nil, Option.isSome_some, decide_true, Ty.td22, List.length_map, h8]
  refine call_meets (hf) (by simp only [aev, cv, cvc, toD_sl, consO_some, toDL_nil, toDL_cons, h8]) ?_; simp only [awp_skip, awp_reg, awp_seq, awp_cond, seqQ_n, awpOps_nil, awpOps_one, awpOps_if, awpOp_is, isCallV, callW_is, callV_is, awpO_is, putK_is, put_s, upd_s, slot_is, pureOp, apureO, killT, aev, cv, cvc, binK, elO_s, lenA, lenK, yieldA, guardA_ff, condA_f, pickA_f, flat_c, ownsV_sl, ownsL_nil, ownsL_cons, Bool.false_eq_true, ↓reduceIte, List.getElem?_cons_zero, List.getElem?_cons_succ, List.map_cons, List.map_nil, List.append_nil, List.getElem?_toArray, Option.bind_some, Bool.true_and, Bool.or_true, Bool.not_true, true_and, reduceCtorEq, Nat.reduceEqDiff, List.isEmpty_nil, Option.isSome_some, decide_false, Ty.td22, List.length_map, h8]
  obtain ⟨l1, l2⟩ := fewL_ex hfl
  have g1 := frame l rs (by omega) (by omega) l2 hq
  have g2 := refFrame l rs (by omega) (by omega) l2 hq
  have hlen : (frameA l rs).1.1.length ≤ 1000000 ∧ (frameA l rs).1.2.length ≤ l.length := by
    unfold frameA
    split
    · simp
    · have := frameE_len 1000000 l rs [] [] (fun a ha => (l2 a ha).1) (by simp)
      simpa using this
  generalize frameA l rs = x at *
  obtain ⟨⟨fr, bs⟩, er⟩ := x
  simp only at hlen
  have s1 := sameInts fr fr hlen.1 hlen.1
  rw [beq_self_eq_true] at s1
  refine call_meets (g1) (by simp only [aev, cv, cvc, toD_sl, consO_some, toDL_nil, toDL_cons]) ?_; simp only [awp_reg, awp_seq, seqQ_n, awpOps_nil, awpOps_one, awpOp_is, isCallV, callW_is, callV_is, putK_is, put_s, upd_s, slot_is, pureOp, apureO, killT, aev, cv, cvc, elO_s, flat_c, flat_tup, flat_sl, flatL_nil, flatL_cons, ownsV_sl, ownsL_nil, ownsL_cons, Bool.false_eq_true, ↓reduceIte, List.getElem?_cons_zero, List.getElem?_cons_succ, List.map_cons, List.map_nil, List.append_nil, Bool.and_true, Bool.and_self, Bool.or_true, and_true, and_self, reduceCtorEq, Nat.reduceEqDiff, List.isEmpty_nil]
  refine call_meets (g2) (by simp only [aev, cv, cvc, toD_sl, consO_some, toDL_nil, toDL_cons]) ?_; simp only [awp_reg, awp_seq, seqQ_n, awpOps_nil, awpOps_one, awpOp_is, isCallV, callW_is, callV_is, putK_is, put_s, upd_s, slot_is, pureOp, apureO, killT, aev, cv, cvc, elO_s, flat_c, flat_tup, flat_sl, flatL_nil, flatL_cons, ownsV_sl, ownsL_nil, ownsL_cons, Bool.false_eq_true, ↓reduceIte, List.getElem?_cons_zero, List.getElem?_cons_succ, List.map_cons, List.map_nil, List.append_nil, Bool.and_true, Bool.and_self, Bool.or_true, and_true, and_self, Nat.reduceEqDiff, List.isEmpty_nil]
  refine call_meets (s1) (by simp only [aev, cv, cvc, toD_sl, consO_some, toDL_nil, toDL_cons]) ?_; simp only [awp_skip, awp_reg, awp_seq, awp_cond, awp_block, awp_loop, seqQ_n, awpOps_nil, awpOps_one, awpOps_if, awpOp_is, awpO_is, putK_is, put_s, upd_s, slot_is, pureOp, apureO, killT, aev, cv, cvc, binK, elO_s, lenA, lenK, yieldA, guardA_ff, condA_f, pickA_f, flat_c, ownsV_sl, ownsL_nil, ownsL_cons, ↓reduceIte, List.getElem?_cons_zero, List.getElem?_cons_succ, List.append_nil, List.getElem?_toArray, Option.bind_some, Bool.true_and, Bool.or_true, Bool.not_true, true_and, Nat.reduceEqDiff, List.isEmpty_nil, Option.isSome_some, Ty.td36, bne_self_eq_false, List.length_map]
  refine loop_k (fun k : Nat => k ≤ bs.length) (fun k => ⟨67, [(54, I k), (53, I bs.length), (6, bools bs), (9, bools bs)], []⟩) (fun k => bs.length - k) 0 (Nat.zero_le _) (by simp only [slot_is, aev, cv, cvc, Weak, ↓reduceIte, Bool.and_true, Bool.and_self, and_true, and_self, Nat.reduceEqDiff]; simp) rfl rfl ?_
  intro k hk K hK
  simp only at hK
  simp only [awp_reg, awp_seq, awp_cond, seqQ_n, awpOps_nil, awpOps_one, awpOp_is, putK_is, put_s, slot_is, pureOp, apureO, aev, cv, cvc, binK, ↓reduceIte, Bool.true_and, true_and, Nat.reduceEqDiff]
  refine condA_dec (fun hlt => ?_) (fun hge => ?_)
  · have hlt' : k < bs.length := by omega
    have hx : bs[k]? = some bs[k] := List.getElem?_eq_getElem hlt'
    generalize bs[k] = b at *
    simp only [awp_skip, awp_reg, awp_regD, awp_seq, awp_cond, awp_block, seqQ_n, loopQ_n, blkQ_n, awpOps_nil, awpOps_one, awpOpsD_nil, awpOpsD_one, awpOp_is, awpOpD_is, lastOnly_nil, lastOnly_cons, putK_is, put_s, slot_is, keepOp, pureOp, apureO, aev, cv, cvc, binK, elO_s, loadA_d, condA_f, Int.natCast_nonneg, Bool.false_eq_true, ↓reduceIte, List.getElem?_cons_zero, Option.map_some, Bool.true_and, Bool.not_true, true_and, Nat.reduceEqDiff, Int.toNat_natCast, Ty.td4, Ty.td36, List.getElem?_map, hx, beq_self_eq_true, wrap_in (x := (k : Int) + 1) (by omega) (by omega)]
    refine hK (k + 1) _ hlt' (by omega) ?_ rfl rfl
    simp only [slot_is, aev, cv, cvc, Weak, ↓reduceIte, Bool.and_true, Bool.and_self, and_true, and_self, Nat.reduceEqDiff]
    simp
  · simp only [awp_reg, awp_seq, awp_exit, awp_ret, seqQ_n, seqQ_e, loopQ_e, blkQ_e, awpOps_nil, awpOps_one, awpOp_is, putK_is, put_s, slot_is, retA_is, pureOp, apureO, aev, cv, cvc, toD_c, notExit, resA_nil, resA_tmp, oneA_1, ↓reduceIte, Bool.and_self, and_self]

theorem wf_le {k : List Int} (h : ∀ z ∈ k, (Lit.int .i64 z).wf = true) : ∀ z ∈ k, z ≤ 9223372036854775807 := fun z hz => by
  have : -9223372036854775808 ≤ z ∧ z ≤ 9223372036854775807 := by simpa [Lit.wf, IntKind.min, IntKind.max, IntKind.signed, IntKind.bits] using h z hz
  exact this.2

theorem end_ (W : World) {v0 v1 : Value} (l : List Ar) (h0 : RepD (fun b => b < W.heap.size) W (arrs l) v0) (hl : l.length ≤ maxLen) (rs : List Int) (h1 : RepD (fun b => b < W.heap.size) W (ints rs) v1) (hr : rs.length ≤ maxLen) (hw : ∀ z ∈ rs, (Lit.int .i64 z).wf = true) :
    Calls Try.prog 4 #[v0, v1] W fun e w' => e = .returned (.bool true) ∧ Below W.heap.size W w' :=
  law_of (law l rs hl hr (wf_le hw)) (vs := [v0, v1]) ⟨_, _, rfl, h0, _, _, rfl, h1, rfl⟩
end Go.Proofs.Ytoobaeebgnbpjaa.B4
