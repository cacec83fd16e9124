/- Views: the law of Of, At, Valid and Offsets. -/
import Derived.Test.YtimagnkdgpfamaaV13
import Derived.Test.YtimagnkdgpfamaaV15
namespace Go.Proofs.Ytimagnkdgpfamaa.V18
open Go Go.Proofs.Ytimagnkdgpfamaa.Eng Go.Proofs.Ytimagnkdgpfamaa Go.RowKit Go.Proofs.Ytimagnkdgpfamaa.A1 Go.Proofs.Ytimagnkdgpfamaa.A2 Go.Proofs.Ytimagnkdgpfamaa.A3 Go.Proofs.Ytimagnkdgpfamaa.A4 Go.Proofs.Ytimagnkdgpfamaa.A5 Go.Proofs.Ytimagnkdgpfamaa.A8 Go.Proofs.Ytimagnkdgpfamaa.A10 Go.Proofs.Ytimagnkdgpfamaa.V1 Go.Proofs.Ytimagnkdgpfamaa.V2 Go.Proofs.Ytimagnkdgpfamaa.V3 Go.Proofs.Ytimagnkdgpfamaa.V4 Go.Proofs.Ytimagnkdgpfamaa.V5 Go.Proofs.Ytimagnkdgpfamaa.V6 Go.Proofs.Ytimagnkdgpfamaa.V7 Go.Proofs.Ytimagnkdgpfamaa.V11 Go.Proofs.Ytimagnkdgpfamaa.V12 Go.Proofs.Ytimagnkdgpfamaa.V13 Go.Proofs.Ytimagnkdgpfamaa.V15
set_option linter.unusedSimpArgs false
set_option linter.unusedVariables false
set_option linter.unusedSectionVars false
set_option maxRecDepth 100000

theorem ofV_len' (ds : List Int) : (ofV ds).1.2.1.length ≤ ds.length ∧ (ofV ds).1.2.2.length ≤ ds.length := by
  unfold ofV
  split
  · simp [noC]
  · simp [strd_len]

set_option maxHeartbeats 1000000 in
theorem law (zs : List Int) (o : Int) (ds ss : List Int) (a0 a1 a2 : Int) (hz : zs.length ≤ maxLen) (hd : ds.length ≤ maxLen) (hs : ss.length ≤ maxLen) (h2 : i64 a2) : Meets Try.prog 3 [ints zs, vw o ds ss, .agg [I a0, I a1, I a2]] (B true) := by
  have ha := awake
  have hfw := fewView o ds ss hd hs
  refine meets_of (X := true) Ty.mixed Try.func3 (by kernel_rfl) rfl (by kernel_rfl) (by simp) ?_; rw [Try.ntmps3, Try.results3]
  simp only [awp_reg, awp_seq, seqQ_n, awpOps_nil, awpOps_one, awpOp_is, isCallV, callW_is, callV_is, putK_is, updK_is, put_s, upd_s, slot_is, pureOp, apureO, astepO, killT, aev, cv, cvc, cellsA, cellOk, argT, Bool.false_eq_true, ↓reduceIte, List.length_cons, List.length_nil, List.map_nil, List.cons_append, List.nil_append, List.append_nil, Bool.true_and, true_and, reduceCtorEq, Nat.reduceAdd, Nat.reduceEqDiff, Nat.zero_add]
  refine call_meets (ha) (by simp only [aev, cv, cvc, toDL_nil] <;> rfl) ?_; simp only [awp_skip, awp_reg, awp_seq, awp_cond, seqQ_n, awpOps_nil, awpOps_one, awpOps_if, awpOp_is, putK_is, put_s, upd_s, slot_is, pureOp, apureO, killT, aev, cv, cvc, binK, elO_s, lenA, lenK, yieldA, condA_f, flat_c, ownsL_nil, ↓reduceIte, List.getElem?_cons_zero, List.getElem?_cons_succ, List.getElem?_toArray, Option.bind_some, Bool.true_and, Bool.or_true, Bool.not_true, true_and, reduceCtorEq, List.isEmpty_nil, Option.isSome_some, Ty.td22]
  by_cases h8 : (8 : Int) < zs.length
  · simp only [awp_reg, awp_seq, awp_cond, awp_ret, seqQ_n, seqQ_r, awpOps_nil, awpOps_one, awpOps_if, awpOp_is, putK_is, put_s, slot_is, retA_is, pureOp, apureO, aev, cv, cvc, yieldA, guardA_ft, condA_t, pickA_t, toD_c, notExit, resA_nil, resA_tmp, oneA_1, ↓reduceIte, List.getElem?_cons_zero, List.getElem?_cons_succ, List.getElem?_toArray, Option.bind_some, Bool.and_self, and_self, Nat.reduceEqDiff, decide_true, List.length_map, h8]
  cases hq : few19 o ds ss with
  | false =>
    rw [hq] at hfw
    simp only [awpOps_if, awpOp_is, isCallV, callW_is, callV_is, awpO_is, putK_is, put_s, slot_is, pureOp, apureO, aev, cv, cvc, elO_s, loadA_p, yieldA, guardA_ff, Bool.false_eq_true, ↓reduceIte, List.getElem?_cons_zero, List.getElem?_cons_succ, List.length_cons, List.length_nil, List.map_cons, List.map_nil, List.append_nil, List.getElem?_toArray, Option.bind_some, List.take_succ_cons, List.drop_zero, Bool.true_and, true_and, Nat.reduceAdd, Nat.reduceEqDiff, Nat.zero_add, decide_false, Nat.le_refl, List.take_nil, Ty.td24, List.length_map, h8]
    refine call_meets (hfw) (by simp only [aev, cv, cvc, toD_c, toD_agg, toD_sl, consO_some, toDL_nil, toDL_cons, Option.map_some] <;> rfl) ?_; simp only [awp_reg, awp_seq, awp_cond, awp_ret, seqQ_n, seqQ_r, awpOps_nil, awpOps_one, awpOps_if, awpOp_is, awpO_is, putK_is, put_s, upd_s, slot_is, retA_is, pureOp, apureO, killT, aev, cv, cvc, yieldA, guardA_ff, condA_t, pickA_f, flat_c, ownsV_c, ownsV_agg, ownsV_sl, ownsL_nil, ownsL_cons, toD_c, notExit, resA_nil, resA_tmp, oneA_1, ↓reduceIte, List.getElem?_cons_zero, List.getElem?_cons_succ, List.append_nil, List.getElem?_toArray, Option.bind_some, Bool.and_self, Bool.or_true, Bool.not_false, and_self, Nat.reduceEqDiff, List.isEmpty_nil]
  | true =>
  rw [hq] at hfw
  simp only [few19, Bool.and_eq_true, decide_eq_true_eq] at hq
  obtain ⟨⟨⟨⟨⟨f1, f2⟩, f3⟩, f4⟩, f5⟩, f6⟩ := hq
  have hss : ∀ s ∈ ss, i64 s := fun s h => by
    have := List.all_eq_true.1 f5 s h
    simp only [Bool.and_eq_true, decide_eq_true_eq] at this
    simp only [i64]; omega
  have o1 := vof zs (by omega)
  have o2 := refOf19 zs (by omega)
  have hol := ofV_len' zs
  generalize ofV zs = r at *
  obtain ⟨⟨ro, rd, rs⟩, re⟩ := r
  simp only at hol
  have q1 := same19 ro rd rs ro rd rs (by omega) (by omega) (by omega) (by omega)
  rw [show sameV ro rd rs ro rd rs = true by simp [sameV]] at q1
  have v1 := vvalid a2 o ds ss (by omega) (by omega)
  have v2 := rvalid a2 o ds ss (by omega) (by omega)
  have hvr : vvE a2 o ds ss = rvE a2 o ds ss := V13.valid_same h2 (by simp only [i64]; omega) hss
  rw [hvr] at v1
  generalize rvE a2 o ds ss = vv at *
  have f1' := offsets o ds ss (by omega) (by omega)
  have f2' := refOffsets o ds ss (by omega) (by omega)
  have hfl := offsE_len o ds ss
  generalize offsE o ds ss = ofs at *
  have q2 := ints19 ofs ofs (by omega) (by omega)
  rw [beq_self_eq_true] at q2
  have fin : ∃ (n : Nat) (ix : List Int), min (ds.length : Int) 2 = (n : Int) ∧ n ≤ 2 ∧ ix = [a0, a1, a2].take n := ⟨(min (ds.length : Int) 2).toNat, _, by omega, by omega, rfl⟩
  obtain ⟨n, ix, hmin, hn, hix⟩ := fin
  have p1 := progAt o ds ss ix (by omega) (by omega) (by rw [hix]; simp; omega)
  have p2 := refAt19 o ds ss ix (by omega) (by omega) (by rw [hix]; simp; omega)
  have hcase : n = 0 ∨ n = 1 ∨ n = 2 := by omega
  generalize hat : atV o ds ss ix = z at *
  obtain ⟨z, ze⟩ := z
  rcases hcase with rfl | rfl | rfl
  all_goals
    simp only [List.take_zero, List.take_succ_cons] at hix
    subst hix
    simp only [ints, List.map_cons, List.map_nil] at p1 p2
    simp only [awpOps_if, awpOp_is, isCallV, callW_is, callV_is, awpO_is, putK_is, put_s, slot_is, pureOp, apureO, aev, cv, cvc, elO_s, loadA_p, yieldA, guardA_ff, Bool.false_eq_true, ↓reduceIte, List.getElem?_cons_zero, List.getElem?_cons_succ, List.length_cons, List.length_nil, List.map_cons, List.map_nil, List.append_nil, List.getElem?_toArray, Option.bind_some, List.take_succ_cons, List.drop_zero, Bool.true_and, true_and, Nat.reduceAdd, Nat.reduceEqDiff, Nat.zero_add, decide_false, Nat.le_refl, List.take_nil, Ty.td24, List.length_map, h8]
    refine call_meets (hfw) (by simp only [aev, cv, cvc, toD_c, toD_agg, toD_sl, consO_some, toDL_nil, toDL_cons, Option.map_some] <;> rfl) ?_; simp only [awp_skip, awp_reg, awp_seq, awp_cond, seqQ_n, awpOps_nil, awpOps_one, awpOps_if, awpOp_is, isCallV, callW_is, callV_is, awpO_is, putK_is, put_s, upd_s, slot_is, pureOp, apureO, killT, aev, cv, cvc, yieldA, guardA_ff, condA_f, pickA_f, flat_c, ownsV_c, ownsV_agg, ownsV_sl, ownsL_nil, ownsL_cons, Bool.false_eq_true, ↓reduceIte, List.getElem?_cons_zero, List.getElem?_cons_succ, List.map_cons, List.map_nil, List.append_nil, List.getElem?_toArray, Option.bind_some, Bool.or_true, Bool.not_true, reduceCtorEq, Nat.reduceEqDiff, List.isEmpty_nil]
    refine call_meets (o1) (by simp only [aev, cv, cvc, toD_sl, consO_some, toDL_nil, toDL_cons] <;> rfl) ?_; simp only [awp_reg, awp_seq, seqQ_n, awpOps_nil, awpOps_one, awpOp_is, isCallV, callW_is, callV_is, putK_is, updK_is, put_s, upd_n, upd_s, slot_is, pureOp, apureO, astepO, killT, aev, cv, cvc, elO_s, storeA, cellsA, cellOk, setAll, flat_c, flat_tup, flat_agg, flat_sl, flatL_nil, flatL_cons, ownsV_sl, ownsL_nil, ownsL_cons, Bool.false_eq_true, ↓reduceIte, List.getElem?_cons_zero, List.getElem?_cons_succ, List.length_cons, List.length_nil, List.map_cons, List.map_nil, List.cons_append, List.nil_append, List.append_nil, List.set_cons_zero, List.set_cons_succ, List.all_cons, List.all_nil, Bool.and_true, Bool.true_and, Bool.and_false, Bool.and_self, Bool.or_true, Value.oneCell', true_and, and_true, and_self, reduceCtorEq, Nat.reduceAdd, Nat.reduceEqDiff, Nat.zero_add, List.isEmpty_nil, Nat.le_refl, Ty.td28]
    refine call_meets (o2) (by simp only [aev, cv, cvc, toD_sl, consO_some, toDL_nil, toDL_cons] <;> rfl) ?_; simp only [awp_reg, awp_seq, seqQ_n, awpOps_nil, awpOps_one, awpOp_is, isCallV, callW_is, callV_is, putK_is, updK_is, put_s, upd_n, upd_s, slot_is, pureOp, apureO, astepO, sliceA_dptr, sliceP_ptr, frozK_is, ptrD_is, int2_is, boundsA, killT, killB, killH, aev, cv, cvc, elO_s, elO_none, lenA, lenK, loadA_p, storeA, cellsA, cellOk, setAll, chunk, dropL, flat_c, flat_tup, flat_agg, flat_sl, flatL_nil, flatL_cons, isD_c, isDL_nil, isDL_cons, ownsV_sl, ownsL_nil, ownsL_cons, killV_c, killV_tup, killV_agg, killV_sl, killV_ptr, killL_nil, killL_cons, Int.natCast_nonneg, Bool.false_eq_true, ↓reduceIte, List.getElem?_cons_zero, List.getElem?_cons_succ, List.length_cons, List.length_nil, List.map_cons, List.map_nil, List.cons_append, List.nil_append, List.append_nil, List.set_cons_zero, List.set_cons_succ, Option.map_some, Option.map_none, List.take_succ_cons, List.take_zero, List.drop_succ_cons, List.drop_zero, List.all_cons, List.all_nil, Bool.and_true, Bool.true_and, Bool.and_false, Bool.and_self, Bool.or_true, Bool.or_false, Value.oneCell', true_and, and_true, and_self, ne_eq, not_false_eq_true, reduceCtorEq, Nat.reduceAdd, Nat.reduceMul, Nat.reduceLT, Nat.reduceEqDiff, Nat.zero_add, Nat.sub_zero, List.isEmpty_nil, List.mem_cons, List.not_mem_nil, or_false, Int.toNat_natCast, List.range_succ, List.range_zero, Option.isSome_some, List.zipIdx_cons, List.zipIdx_nil, Nat.le_refl, List.take_nil, Ty.td3, Ty.td22, Ty.td24, Ty.td25, List.length_map, hmin]
  all_goals
    refine ⟨by omega, ?_⟩
    refine call_meets (p1) (by simp only [aev, cv, cvc, toD_c, toD_agg, toD_sl, consO_some, toDL_nil, toDL_cons, Option.map_some] <;> rfl) ?_; simp only [awp_reg, awp_seq, seqQ_n, awpOps_nil, awpOps_one, awpOp_is, isCallV, callW_is, callV_is, putK_is, put_s, upd_s, slot_is, pureOp, apureO, killT, aev, cv, cvc, elO_s, loadA_p, flat_c, flat_tup, flatL_nil, flatL_cons, ownsV_c, ownsV_agg, ownsV_sl, ownsL_nil, ownsL_cons, Bool.false_eq_true, ↓reduceIte, List.getElem?_cons_zero, List.getElem?_cons_succ, List.length_cons, List.length_nil, List.map_cons, List.map_nil, List.append_nil, List.take_succ_cons, List.drop_zero, Bool.true_and, Bool.and_self, Bool.or_true, true_and, and_self, Nat.reduceAdd, Nat.reduceEqDiff, Nat.zero_add, List.isEmpty_nil, Nat.le_refl, List.take_nil, Ty.td24]
    refine call_meets (p2) (by simp only [aev, cv, cvc, toD_c, toD_agg, toD_sl, consO_some, toDL_nil, toDL_cons, Option.map_some] <;> rfl) ?_; simp only [awp_regX, awp_seq, seqQ_n, awpOps_nil, awpOps_one, awpOp_is, putK_is, put_s, upd_s, slot_is, pureOp, apureO, killT, aev, cv, cvc, elO_s, flat_c, flat_tup, flatL_nil, flatL_cons, ownsV_c, ownsV_agg, ownsV_sl, ownsL_nil, ownsL_cons, ↓reduceIte, List.getElem?_cons_zero, List.getElem?_cons_succ, List.append_nil, Bool.and_self, Bool.or_true, and_self, Nat.reduceEqDiff, List.isEmpty_nil]
    refine drawS_tail (by kernel_rfl) ?_; simp only [awpOpsD_one, isCallV, awpOpD_is, callWD_is, callVD_is, putK_is, put_s, slot_is, keepOp, pureOp, apureO, aev, cv, cvc, elO_s, loadA_p, Bool.false_eq_true, ↓reduceIte, List.getElem?_cons_zero, List.getElem?_cons_succ, List.length_cons, List.length_nil, List.map_cons, List.map_nil, List.append_nil, List.take_succ_cons, List.drop_zero, Bool.true_and, true_and, Nat.reduceAdd, Nat.reduceEqDiff, Nat.zero_add, Nat.le_refl, List.take_nil, Ty.td24, Ty.td28]
    refine calld_meets (q1) (by simp only [aev, cv, cvc, toD_c, toD_agg, toD_sl, consO_some, toDL_nil, toDL_cons, Option.map_some] <;> rfl) (by simp only [aev, cv, cvc, flat_c, ownsV_c, ownsV_agg, ownsV_sl, ownsL_nil, ownsL_cons, List.append_nil, Bool.or_true, List.isEmpty_nil]) ?_; simp only [awpOpsD_one, awpOpsD_if, isCallV, awpOpD_is, callWD_is, callVD_is, awpOD_is, putK_is, put_s, slot_is, keepOp, pureOp, apureO, aev, cv, cvc, binK, elO_s, loadA_d, loadA_p, yieldA, guardA_tt, pickA_t, Bool.false_eq_true, ↓reduceIte, List.getElem?_cons_zero, List.getElem?_cons_succ, List.length_cons, List.length_nil, List.map_cons, List.map_nil, List.append_nil, List.getElem?_toArray, Option.bind_some, List.take_succ_cons, List.drop_succ_cons, List.drop_zero, Bool.true_and, true_and, Nat.reduceAdd, Nat.reduceMul, Nat.reduceLT, Nat.reduceEqDiff, Nat.zero_add, Int.reduceToNat, Nat.le_refl, List.take_nil, Ty.td3, Ty.td24, Ty.td25, beq_self_eq_true]
    repeat refine ⟨by omega, ?_⟩
    refine calld_meets (v1) (by simp only [aev, cv, cvc, toD_c, toD_agg, toD_sl, consO_some, toDL_nil, toDL_cons, Option.map_some] <;> rfl) (by simp only [aev, cv, cvc, flat_c, ownsV_c, ownsV_agg, ownsV_sl, ownsL_nil, ownsL_cons, List.append_nil, Bool.or_true, List.isEmpty_nil]) ?_; simp only [awpOpsD_if, isCallV, awpOpD_is, callWD_is, callVD_is, awpOD_is, putK_is, put_s, slot_is, keepOp, pureOp, apureO, aev, cv, cvc, elO_s, loadA_d, loadA_p, yieldA, guardA_tt, Bool.false_eq_true, ↓reduceIte, List.getElem?_cons_zero, List.getElem?_cons_succ, List.length_cons, List.length_nil, List.map_cons, List.map_nil, List.append_nil, List.getElem?_toArray, Option.bind_some, List.take_succ_cons, List.drop_succ_cons, List.drop_zero, Bool.true_and, true_and, Nat.reduceAdd, Nat.reduceMul, Nat.reduceLT, Nat.reduceEqDiff, Nat.zero_add, Int.reduceToNat, Nat.le_refl, List.take_nil, Ty.td3, Ty.td24, Ty.td25]
    repeat refine ⟨by omega, ?_⟩
    refine calld_meets (v2) (by simp only [aev, cv, cvc, toD_c, toD_agg, toD_sl, consO_some, toDL_nil, toDL_cons, Option.map_some] <;> rfl) (by simp only [aev, cv, cvc, flat_c, ownsV_c, ownsV_agg, ownsV_sl, ownsL_nil, ownsL_cons, List.append_nil, Bool.or_true, List.isEmpty_nil]) ?_; simp only [awpOpsD_one, awpOpsD_if, isCallV, awpOpD_is, callWD_is, callVD_is, awpOD_is, putK_is, put_s, slot_is, keepOp, pureOp, apureO, aev, cv, cvc, binK, elO_s, loadA_p, yieldA, guardA_tt, pickA_t, Bool.false_eq_true, ↓reduceIte, List.getElem?_cons_zero, List.getElem?_cons_succ, List.length_cons, List.length_nil, List.map_cons, List.map_nil, List.append_nil, List.getElem?_toArray, Option.bind_some, List.take_succ_cons, List.drop_zero, Bool.true_and, true_and, Nat.reduceAdd, Nat.reduceEqDiff, Nat.zero_add, Nat.le_refl, List.take_nil, Ty.td4, Ty.td24, beq_self_eq_true]
    refine calld_meets (f1') (by simp only [aev, cv, cvc, toD_c, toD_agg, toD_sl, consO_some, toDL_nil, toDL_cons, Option.map_some] <;> rfl) (by simp only [aev, cv, cvc, flat_sl, ownsV_c, ownsV_agg, ownsV_sl, ownsL_nil, ownsL_cons, List.append_nil, Bool.or_true, List.isEmpty_nil]) ?_; simp only [awpOpsD_if, isCallV, awpOpD_is, callWD_is, callVD_is, awpOD_is, putK_is, put_s, slot_is, keepOp, pureOp, apureO, aev, cv, cvc, elO_s, loadA_p, yieldA, guardA_tt, Bool.false_eq_true, ↓reduceIte, List.getElem?_cons_zero, List.getElem?_cons_succ, List.length_cons, List.length_nil, List.map_cons, List.map_nil, List.append_nil, List.getElem?_toArray, Option.bind_some, List.take_succ_cons, List.drop_zero, Bool.true_and, true_and, Nat.reduceAdd, Nat.reduceEqDiff, Nat.zero_add, Nat.le_refl, List.take_nil, Ty.td24]
    refine calld_meets (f2') (by simp only [aev, cv, cvc, toD_c, toD_agg, toD_sl, consO_some, toDL_nil, toDL_cons, Option.map_some] <;> rfl) (by simp only [aev, cv, cvc, flat_sl, ownsV_c, ownsV_agg, ownsV_sl, ownsL_nil, ownsL_cons, List.append_nil, Bool.or_true, List.isEmpty_nil]) ?_; simp only [awpOpsD_if, isCallV, awpOpD_is, callWD_is, callVD_is, awpOD_is, put_s, slot_is, keepOp, pureOp, aev, cv, cvc, yieldA, guardA_tt, Bool.false_eq_true, ↓reduceIte, List.getElem?_cons_zero, List.getElem?_cons_succ, List.map_cons, List.map_nil, List.append_nil, List.getElem?_toArray, Option.bind_some, Nat.reduceEqDiff]
    refine calld_meets (q2) (by simp only [aev, cv, cvc, toD_sl, consO_some, toDL_nil, toDL_cons] <;> rfl) (by simp only [aev, cv, cvc, flat_c, ownsV_sl, ownsL_nil, ownsL_cons, List.append_nil, Bool.or_true, List.isEmpty_nil]) ?_; simp only [awp_ret, seqQ_n, awpOpsD_nil, awpOpsD_one, awpOpD_is, putK_is, put_s, slot_is, retA_is, keepOp, pureOp, apureO, aev, cv, cvc, pickA_t, toD_c, notExit, resA_nil, resA_tmp, oneA_1, ↓reduceIte, Bool.and_self, and_self, Nat.reduceEqDiff]

theorem end_ (W : World) {v0 v1 : Value} (zs : List Int) (h0 : RepD (fun b => b < W.heap.size) W (ints zs) v0) (hl0 : zs.length ≤ maxLen) (hw0 : ∀ z ∈ zs, (Lit.int .i64 z).wf = true) (o : Int) (ds ss : List Int) (h1 : RepD (fun b => b < W.heap.size) W (vw o ds ss) v1) (hx : ds.length ≤ maxLen) (hy : ss.length ≤ maxLen) (az : List Int) (hl : az.length = 3) (hw : ∀ z ∈ az, (Lit.int .i64 z).wf = true) :
    Calls Try.prog 3 #[v0, v1, .agg (az.map (Value.int .i64)).toArray] W fun e w' => e = .returned (.bool true) ∧ Below W.heap.size W w' := by
  match az, hl with
  | [a0, a1, a2], _ =>
    have h2 : i64 a2 := by
      have := hw a2 (by simp)
      simp [Lit.wf, IntKind.min, IntKind.max, IntKind.signed, IntKind.bits] at this
      simp only [i64]
      omega
    exact law_of (law zs o ds ss a0 a1 a2 hl0 hx hy h2) (vs := [v0, v1, _]) ⟨_, _, rfl, h0, _, _, rfl, h1, _, _, rfl, ⟨_, rfl, ⟨_, _, rfl, rfl, _, _, rfl, rfl, _, _, rfl, rfl, rfl⟩, by simp [Value.oneCell']⟩, rfl⟩

end Go.Proofs.Ytimagnkdgpfamaa.V18
