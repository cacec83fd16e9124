/- Arrays: the reference's Of, Valid and Few; zeros on both sides. -/
import Derived.Test.YtbmmemglkjeogaaA4
namespace Go.Proofs.Ytbmmemglkjeogaa.A5
open Go Go.Proofs.Ytbmmemglkjeogaa.Eng Go.Proofs.Ytbmmemglkjeogaa Go.RowKit Go.Proofs.Ytbmmemglkjeogaa.A1 Go.Proofs.Ytbmmemglkjeogaa.A2 Go.Proofs.Ytbmmemglkjeogaa.A3 Go.Proofs.Ytbmmemglkjeogaa.A4
set_option linter.unusedSimpArgs false
set_option linter.unusedVariables false
set_option linter.unusedSectionVars false
set_option maxRecDepth 100000

def ofR (e : ByteArray) (ds xs : List Int) : AV := if checkE e ds xs = 0 then .tup [arr e ds xs, I 0] else .tup [.agg [S ⟨#[]⟩, .nils, .nils], I (checkE e ds xs)]
theorem of_imp {e : ByteArray} {ds xs : List Int} {ok : Nat → Prop} {w : World} {v : Value} (h : RepD ok w (ofR e ds xs) v) : RepD ok w (ofE e ds xs) v := by
  unfold ofR at h
  unfold ofE
  split
  · rename_i hk
    rw [if_pos hk] at h
    exact h
  · rename_i hk
    rw [if_neg hk] at h
    exact zero_imp _ _ _ h

theorem refOf (e : ByteArray) (ds xs : List Int) (hd : ds.length ≤ 1000000) (hx : xs.length ≤ 1000000) : Meets Try.prog 46 [S e, ints ds, ints xs] (ofE e ds xs) := by
  refine Meets.weak (r0 := ofR e ds xs) ?_ fun ok w v => of_imp
  generalize hR : ofR e ds xs = R
  refine meets_of (X := false) Ty.mixed Try.func46 (by kernel_rfl) rfl (by kernel_rfl) (by simp) ?_; rw [Try.ntmps46, Try.results46]
  have hs := refSize ds hd
  generalize hse : sizeE ds = s at hs
  obtain ⟨n, er⟩ := s
  cases h1 : isI e <;> cases h2 : isB e
  case false.false =>
    simp only [awp_reg, awp_seq, awp_cond, awp_ret, seqQ_n, seqQ_r, awpOps_nil, awpOps_one, awpOps_if, awpOp_is, isCallV, awpO_is, putK_is, updK_is, put_s, upd_n, upd_s, slot_is, slot.eq_1, retA_is, pureOp, apureO, astepO, killT, aev, cv, cvc, binK, elO_s, loadA_p, storeA, cellsA, cellOk, setAll, fillA, placeT, placesA, yieldA, guardA_tt, condA_t, pickA_t, toD_c, toD_nils, toD_tup, toD_agg, consO_some, toDL_nil, toDL_cons, notExit, resA_nil, resA_tmp, resA_cell, oneA_2, argT, Bool.false_eq_true, ↓reduceIte, List.getElem?_cons_zero, List.getElem?_cons_succ, List.length_cons, List.length_nil, List.map_cons, List.map_nil, List.nil_append, List.set_cons_zero, List.set_cons_succ, List.getElem?_toArray, Option.bind_some, Option.map_some, List.take_succ_cons, List.drop_zero, List.all_cons, List.all_nil, Bool.true_and, Bool.and_self, Bool.not_false, Value.oneCell', true_and, and_self, ne_eq, not_false_eq_true, reduceCtorEq, Nat.reduceAdd, Nat.reduceEqDiff, Nat.zero_add, Nat.le_refl, List.take_nil, Ty.td9, Ty.td22, Ty.td29, h1, h2]
    have hc : checkE e ds xs = 12 := by unfold checkE; rw [h1, h2]; rfl
    rw [← hR, ofR, hc]; rfl
  all_goals
    have h0 : ¬ ((!isI e && !isB e) = true) := by rw [h1, h2]; decide
    simp only [awp_skip, awp_reg, awp_seq, awp_cond, seqQ_n, awpOps_nil, awpOps_one, awpOps_if, awpOp_is, isCallV, callW_is, callV_is, awpO_is, putK_is, updK_is, put_s, upd_s, slot_is, pureOp, apureO, astepO, killT, aev, cv, cvc, binK, elO_s, yieldA, guardA_tt, guardA_tf, condA_f, pickA_t, pickA_f, argT, Bool.false_eq_true, ↓reduceIte, List.getElem?_cons_zero, List.getElem?_cons_succ, List.length_nil, List.map_cons, List.map_nil, List.nil_append, List.append_nil, List.getElem?_toArray, Option.bind_some, List.all_cons, List.all_nil, Bool.true_and, Bool.and_self, Bool.not_true, Bool.not_false, Value.oneCell', true_and, and_self, reduceCtorEq, Nat.reduceAdd, Nat.reduceEqDiff, Nat.zero_add, Ty.td29, h1, h2]
    refine call_meets hs (by simp only [aev, cv, cvc, toD_sl, consO_some, toDL_nil, toDL_cons]) ?_
    by_cases he : er = 0
    case neg =>
      simp only [awp_reg, awp_seq, awp_cond, awp_ret, seqQ_n, seqQ_r, awpOps_nil, awpOps_one, awpOp_is, isCallV, putK_is, updK_is, put_s, upd_n, upd_s, slot_is, slot.eq_1, retA_is, pureOp, apureO, astepO, killT, aev, cv, cvc, binK, elO_s, loadA_p, storeA, cellsA, cellOk, setAll, fillA, placeT, placesA, condA_t, flat_c, flat_tup, flatL_nil, flatL_cons, ownsV_sl, ownsL_nil, ownsL_cons, toD_c, toD_nils, toD_tup, toD_agg, consO_some, toDL_nil, toDL_cons, notExit, resA_nil, resA_tmp, resA_cell, oneA_2, Bool.false_eq_true, ↓reduceIte, List.getElem?_cons_zero, List.getElem?_cons_succ, List.length_cons, List.length_nil, List.map_cons, List.map_nil, List.append_nil, List.set_cons_zero, List.set_cons_succ, Option.map_some, List.take_succ_cons, List.drop_zero, List.all_cons, List.all_nil, Bool.true_and, Bool.and_self, Bool.or_true, Value.oneCell', true_and, and_self, ne_eq, not_false_eq_true, reduceCtorEq, Nat.reduceAdd, Nat.reduceEqDiff, Nat.zero_add, List.isEmpty_nil, Nat.le_refl, List.take_nil, Ty.td9, Ty.td22, Ty.td29, show (er != 0) = true by simpa using he]
      have hc : checkE e ds xs = er := by unfold checkE; rw [if_neg h0, hse, if_pos he]
      rw [← hR, ofR, hc, if_neg he]
    subst he
    simp only [awp_skip, awp_reg, awp_seq, awp_cond, seqQ_n, awpOps_nil, awpOps_one, awpOp_is, putK_is, put_s, upd_s, slot_is, pureOp, apureO, killT, aev, cv, cvc, binK, elO_s, lenA, lenK, condA_f, flat_c, flat_tup, flatL_nil, flatL_cons, ownsV_sl, ownsL_nil, ownsL_cons, ↓reduceIte, List.getElem?_cons_zero, List.getElem?_cons_succ, List.append_nil, Bool.true_and, Bool.and_self, Bool.or_true, true_and, and_self, reduceCtorEq, Nat.reduceEqDiff, List.isEmpty_nil, Option.isSome_some, Ty.td22, bne_self_eq_false, List.length_map]
    by_cases hl : (xs.length : Int) = n
    case neg =>
      simp only [awp_reg, awp_seq, awp_ret, seqQ_n, seqQ_r, awpOps_nil, awpOps_one, awpOp_is, isCallV, putK_is, updK_is, put_s, upd_n, slot_is, slot.eq_1, retA_is, pureOp, apureO, astepO, killT, aev, cv, cvc, elO_s, loadA_p, storeA, cellsA, cellOk, setAll, fillA, placeT, placesA, condA_t, toD_c, toD_nils, toD_tup, toD_agg, consO_some, toDL_nil, toDL_cons, notExit, resA_nil, resA_tmp, resA_cell, oneA_2, Bool.false_eq_true, ↓reduceIte, List.getElem?_cons_zero, List.length_cons, List.length_nil, List.map_cons, List.map_nil, List.set_cons_zero, List.set_cons_succ, Option.map_some, List.take_succ_cons, List.drop_zero, List.all_cons, List.all_nil, Bool.true_and, Bool.and_self, Value.oneCell', true_and, and_self, ne_eq, not_false_eq_true, reduceCtorEq, Nat.reduceAdd, Nat.reduceEqDiff, Nat.zero_add, Nat.le_refl, List.take_nil, Ty.td9, Ty.td22, Ty.td29, show ((xs.length : Int) != n) = true by simpa using hl]
      have hc : checkE e ds xs = 1 := by unfold checkE; rw [if_neg h0, hse, if_neg (by simp), if_pos hl]
      rw [← hR, ofR, hc]; rfl
    simp only [awp_skip, awp_reg, awp_seq, awp_block, awp_loop, seqQ_n, awpOps_nil, awpOps_one, awpOp_is, putK_is, put_s, pureOp, apureO, aev, cv, cvc, condA_f, ↓reduceIte, show ((xs.length : Int) != n) = false by simpa using hl]
    refine loop_k (fun k : Nat => k ≤ xs.length ∧ xs.any (fun n => !validE e n) = (xs.drop k).any (fun n => !validE e n)) (fun k => ⟨52, [(10, I k), (0, S e), (1, ints ds), (2, ints xs), (6, .ptr 0 0)], [some (.var 29 [S ⟨#[]⟩, .nils, .nils])]⟩) (fun k => xs.length - k) 0 ⟨Nat.zero_le _, rfl⟩ (by simp only [slot_is, aev, cv, cvc, Weak, ↓reduceIte, Bool.and_true, Bool.and_self, and_true, and_self, reduceCtorEq, Nat.reduceEqDiff]; simp) rfl rfl ?_
    rintro k ⟨hk, hi⟩ K hK
    simp only [awp_reg, awp_seq, awp_cond, seqQ_n, awpOps_nil, awpOps_one, awpOp_is, putK_is, put_s, slot_is, pureOp, apureO, aev, cv, cvc, binK, elO_s, lenA, lenK, ↓reduceIte, Bool.true_and, true_and, reduceCtorEq, Nat.reduceEqDiff, Option.isSome_some, Ty.td22, List.length_map]
    refine condA_dec (fun hlt => ?_) (fun hge => ?_)
    · have hlt' : k < xs.length := by omega
      have hx1 : xs[k]? = some xs[k] := List.getElem?_eq_getElem hlt'
      rw [any_drop hlt'] at hi
      generalize xs[k] = x at *
      simp only [awp_skip, awp_reg, awp_seq, awp_block, seqQ_n, awpOps_one, awpOp_is, isCallV, callW_is, callV_is, putK_is, put_s, slot_is, pureOp, apureO, aev, cv, cvc, elO_s, loadA_d, Int.natCast_nonneg, Bool.false_eq_true, ↓reduceIte, List.getElem?_cons_zero, List.map_cons, List.map_nil, List.append_nil, Option.map_some, Bool.true_and, true_and, reduceCtorEq, Nat.reduceEqDiff, Int.toNat_natCast, Ty.td3, Ty.td22, List.getElem?_map, hx1]
      refine call_meets (refValid17 e x) (by simp only [aev, cv, cvc, toD_c, consO_some, toDL_nil, toDL_cons] <;> rfl) ?_; simp only [awp_cond, seqQ_n, awpOps_nil, awpOps_one, awpOp_is, putK_is, put_s, upd_s, slot_is, pureOp, apureO, killT, aev, cv, cvc, flat_c, ownsV_c, ownsL_nil, ownsL_cons, ↓reduceIte, List.append_nil, Bool.or_true, List.isEmpty_nil]
      cases hv : validE e x
      · rw [hv, Bool.not_false, Bool.true_or] at hi
        simp only [awp_reg, awp_seq, awp_ret, seqQ_n, seqQ_r, loopQ_r, blkQ_r, awpOps_nil, awpOps_one, awpOp_is, isCallV, putK_is, updK_is, put_s, upd_n, slot_is, slot.eq_1, retA_is, pureOp, apureO, astepO, killT, aev, cv, cvc, elO_s, loadA_p, storeA, cellsA, cellOk, setAll, fillA, placeT, placesA, condA_t, toD_c, toD_nils, toD_tup, toD_agg, consO_some, toDL_nil, toDL_cons, notExit, resA_nil, resA_tmp, resA_cell, oneA_2, Bool.false_eq_true, ↓reduceIte, List.getElem?_cons_zero, List.length_cons, List.length_nil, List.map_cons, List.map_nil, List.set_cons_zero, List.set_cons_succ, Option.map_some, List.take_succ_cons, List.drop_zero, List.all_cons, List.all_nil, Bool.true_and, Bool.and_self, Bool.not_false, Value.oneCell', true_and, and_self, ne_eq, not_false_eq_true, reduceCtorEq, Nat.reduceAdd, Nat.reduceEqDiff, Nat.zero_add, Nat.le_refl, List.take_nil, Ty.td9, Ty.td22, Ty.td29]
        have hc : checkE e ds xs = 2 := by unfold checkE; rw [if_neg h0, hse, if_neg (by simp), if_neg (by simp [hl]), if_pos hi]
        rw [← hR, ofR, hc]; rfl
      · rw [hv, Bool.not_true, Bool.false_or] at hi
        simp (disch := omega) only [awp_skip, awp_reg, seqQ_n, loopQ_n, blkQ_n, awpOps_nil, awpOps_one, awpOp_is, putK_is, put_s, slot_is, pureOp, apureO, aev, cv, cvc, binK, condA_f, ↓reduceIte, Bool.true_and, Bool.not_true, true_and, Nat.reduceEqDiff, wrap_in]
        refine hK (k + 1) _ ⟨hlt', hi⟩ (by omega) ?_ rfl rfl
        simp only [slot_is, aev, cv, cvc, Weak, ↓reduceIte, Bool.and_true, Bool.and_self, and_true, and_self, reduceCtorEq, Nat.reduceEqDiff]
        simp
    · have hk' : k = xs.length := by omega
      subst hk'
      rw [List.drop_length, List.any_nil] at hi
      simp only [awp_reg, awp_seq, awp_exit, seqQ_n, seqQ_e, loopQ_e, blkQ_e, awpOps_one, awpOp_is, isCallV, callW_is, callV_is, putK_is, put_s, slot_is, pureOp, apureO, aev, cv, cvc, Bool.false_eq_true, ↓reduceIte, List.map_cons, List.map_nil, List.append_nil, reduceCtorEq, Nat.reduceEqDiff]
      refine call_meets (refCopy ds hd) (by simp only [aev, cv, cvc, toD_sl, consO_some, toDL_nil, toDL_cons] <;> rfl) ?_; simp only [awpOps_one, awpOp_is, isCallV, callW_is, callV_is, putK_is, put_s, upd_s, slot_is, pureOp, apureO, killT, aev, cv, cvc, flat_sl, ownsV_sl, ownsL_nil, ownsL_cons, Bool.false_eq_true, ↓reduceIte, List.map_cons, List.map_nil, List.append_nil, Bool.or_true, reduceCtorEq, Nat.reduceEqDiff, List.isEmpty_nil]
      refine call_meets (refCopy xs hx) (by simp only [aev, cv, cvc, toD_sl, consO_some, toDL_nil, toDL_cons] <;> rfl) ?_; simp only [awp_ret, seqQ_n, awpOps_nil, awpOps_one, awpOp_is, isCallV, putK_is, updK_is, put_s, upd_n, upd_s, slot_is, slot.eq_1, retA_is, pureOp, apureO, astepO, killT, aev, cv, cvc, elO_s, loadA_p, storeA, cellsA, cellOk, setAll, fillA, placeT, placesA, flat_sl, ownsV_sl, ownsL_nil, ownsL_cons, toD_c, toD_tup, toD_agg, toD_sl, consO_some, toDL_nil, toDL_cons, notExit, resA_nil, resA_tmp, resA_cell, oneA_2, Bool.false_eq_true, ↓reduceIte, List.getElem?_cons_zero, List.getElem?_cons_succ, List.length_cons, List.length_nil, List.map_cons, List.map_nil, List.append_nil, List.set_cons_zero, List.set_cons_succ, Option.map_some, List.take_succ_cons, List.drop_zero, List.all_cons, List.all_nil, Bool.true_and, Bool.and_self, Bool.or_true, Value.oneCell', true_and, and_self, ne_eq, not_false_eq_true, reduceCtorEq, Nat.reduceAdd, Nat.reduceLeDiff, Nat.reduceEqDiff, Nat.zero_add, List.isEmpty_nil, Nat.le_refl, List.take_nil, Ty.td9, Ty.td22, Ty.td29]
      have hc : checkE e ds xs = 0 := by unfold checkE; rw [if_neg h0, hse, if_neg (by simp), if_neg (by simp [hl]), if_neg (by rw [hi]; decide)]
      rw [← hR, ofR, hc]; rfl

theorem refValid (e : ByteArray) (ds xs : List Int) (hd : ds.length ≤ 1000000) (hx : xs.length ≤ 1000000) : Meets Try.prog 30 [arr e ds xs] (B (checkE e ds xs == 0)) := by
  refine meets_of (X := false) Ty.mixed Try.func30 (by kernel_rfl) rfl (by kernel_rfl) (by simp) ?_; rw [Try.ntmps30, Try.results30]
  have ho := refOf e ds xs hd hx
  unfold ofE at ho
  generalize checkE e ds xs = k at *
  simp only [awp_reg, awp_seq, seqQ_n, awpOps_nil, awpOps_one, awpOp_is, isCallV, callW_is, callV_is, putK_is, updK_is, put_s, upd_s, slot_is, pureOp, apureO, astepO, killT, aev, cv, cvc, elO_s, loadA_p, cellsA, cellOk, argT, Bool.false_eq_true, ↓reduceIte, List.getElem?_cons_zero, List.getElem?_cons_succ, List.length_cons, List.length_nil, List.map_cons, List.map_nil, List.nil_append, List.append_nil, Bool.true_and, true_and, ne_eq, not_false_eq_true, reduceCtorEq, Nat.reduceAdd, Nat.reduceEqDiff, Nat.zero_add, Ty.td9, Ty.td22, Ty.td29]
  by_cases hk : k = 0
  · subst hk
    rw [if_pos rfl] at ho
    refine call_meets (ho) (by simp only [aev, cv, cvc, toD_c, toD_sl, consO_some, toDL_nil, toDL_cons] <;> rfl) ?_; simp only [awp_reg, awp_seq, awp_ret, seqQ_n, awpOps_nil, awpOps_one, awpOp_is, isCallV, putK_is, updK_is, put_s, upd_n, upd_s, slot_is, retA_is, pureOp, apureO, astepO, killT, aev, cv, cvc, binK, elO_s, storeA, cellsA, cellOk, setAll, flat_c, flat_tup, flat_agg, flat_sl, flatL_nil, flatL_cons, ownsV_c, ownsV_sl, ownsL_nil, ownsL_cons, toD_c, notExit, resA_nil, resA_tmp, oneA_1, Bool.false_eq_true, ↓reduceIte, List.getElem?_cons_zero, List.getElem?_cons_succ, List.length_cons, List.length_nil, List.map_cons, List.map_nil, List.cons_append, List.nil_append, List.append_nil, List.set_cons_zero, List.set_cons_succ, List.all_cons, List.all_nil, Bool.and_true, Bool.true_and, Bool.and_false, Bool.and_self, Bool.or_true, Value.oneCell', true_and, and_true, and_self, Nat.reduceAdd, Nat.reduceEqDiff, Nat.zero_add, List.isEmpty_nil, Nat.le_refl, Ty.td29, beq_self_eq_true]
  · rw [if_neg hk] at ho
    refine call_meets (ho) (by simp only [aev, cv, cvc, toD_c, toD_sl, consO_some, toDL_nil, toDL_cons] <;> rfl) ?_; simp only [awp_reg, awp_seq, awp_ret, seqQ_n, awpOps_nil, awpOps_one, awpOp_is, isCallV, putK_is, updK_is, put_s, upd_n, upd_s, slot_is, retA_is, pureOp, apureO, astepO, killT, aev, cv, cvc, binK, elO_s, storeA, cellsA, cellOk, setAll, flat_c, flat_tup, flat_agg, flat_sl, flatL_nil, flatL_cons, ownsV_c, ownsV_sl, ownsL_nil, ownsL_cons, toD_c, notExit, resA_nil, resA_tmp, oneA_1, Bool.false_eq_true, ↓reduceIte, List.getElem?_cons_zero, List.getElem?_cons_succ, List.length_cons, List.length_nil, List.map_cons, List.map_nil, List.cons_append, List.nil_append, List.append_nil, List.set_cons_zero, List.set_cons_succ, List.all_cons, List.all_nil, Bool.and_true, Bool.true_and, Bool.and_false, Bool.and_self, Bool.or_true, Value.oneCell', true_and, and_true, and_self, Nat.reduceAdd, Nat.reduceEqDiff, Nat.zero_add, List.isEmpty_nil, Nat.le_refl, Ty.td29]

def fewE (e : ByteArray) (ds xs : List Int) (k : Int) : Bool := decide ((e.size : Int) ≤ 20) && decide ((ds.length : Int) ≤ 8) && decide ((xs.length : Int) ≤ k)
theorem few (e : ByteArray) (ds xs : List Int) (k : Int) : Meets Try.prog 33 [arr e ds xs, I k] (B (fewE e ds xs k)) := by
  refine meets_of (X := false) Ty.mixed Try.func33 (by kernel_rfl) rfl (by kernel_rfl) (by simp) ?_; rw [Try.ntmps33, Try.results33]
  unfold fewE
  by_cases h1 : (e.size : Int) ≤ 20
  · by_cases h2 : (ds.length : Int) ≤ 8
    · simp only [awp_reg, awp_seq, awp_ret, seqQ_n, awpOps_nil, awpOps_one, awpOps_if, awpOp_is, isCallV, awpO_is, putK_is, updK_is, put_s, upd_s, slot_is, retA_is, pureOp, apureO, astepO, killT, aev, cv, cvc, binK, elO_s, elO_none, lenA, lenK, loadA_p, cellsA, cellOk, yieldA, guardA_tt, pickA_t, toD_c, notExit, resA_nil, resA_tmp, oneA_1, argT, Bool.false_eq_true, ↓reduceIte, List.getElem?_cons_zero, List.getElem?_cons_succ, List.length_cons, List.length_nil, List.nil_append, List.getElem?_toArray, Option.bind_some, Bool.and_true, Bool.true_and, Bool.and_self, true_and, and_true, and_self, ne_eq, not_false_eq_true, reduceCtorEq, Nat.reduceAdd, Nat.reduceEqDiff, Nat.zero_add, Option.isSome_some, Option.isSome_none, decide_true, Ty.td9, Ty.td22, Ty.td29, h1, h2, List.length_map]
    · simp only [awp_reg, awp_seq, awp_ret, seqQ_n, awpOps_nil, awpOps_one, awpOps_if, awpOp_is, isCallV, awpO_is, putK_is, updK_is, put_s, upd_s, slot_is, retA_is, pureOp, apureO, astepO, killT, aev, cv, cvc, binK, elO_s, elO_none, lenA, lenK, loadA_p, cellsA, cellOk, yieldA, guardA_tt, guardA_tf, pickA_t, pickA_f, toD_c, notExit, resA_nil, resA_tmp, oneA_1, argT, Bool.false_eq_true, ↓reduceIte, List.getElem?_cons_zero, List.getElem?_cons_succ, List.length_cons, List.length_nil, List.nil_append, List.getElem?_toArray, Option.bind_some, Bool.and_true, Bool.true_and, Bool.false_and, Bool.and_false, Bool.and_self, true_and, and_true, and_self, ne_eq, not_false_eq_true, reduceCtorEq, Nat.reduceAdd, Nat.reduceEqDiff, Nat.zero_add, Option.isSome_some, Option.isSome_none, decide_true, decide_false, Ty.td9, Ty.td22, Ty.td29, h1, h2, List.length_map]
  · simp only [awp_reg, awp_seq, awp_ret, seqQ_n, awpOps_nil, awpOps_one, awpOps_if, awpOp_is, isCallV, putK_is, updK_is, put_s, upd_s, slot_is, retA_is, pureOp, apureO, astepO, killT, aev, cv, cvc, binK, elO_s, elO_none, lenA, lenK, loadA_p, cellsA, cellOk, yieldA, guardA_tf, pickA_f, toD_c, notExit, resA_nil, resA_tmp, oneA_1, argT, Bool.false_eq_true, ↓reduceIte, List.getElem?_cons_zero, List.getElem?_cons_succ, List.length_cons, List.length_nil, List.nil_append, List.getElem?_toArray, Option.bind_some, Bool.and_true, Bool.true_and, Bool.false_and, Bool.and_self, true_and, and_true, and_self, ne_eq, not_false_eq_true, reduceCtorEq, Nat.reduceAdd, Nat.reduceEqDiff, Nat.zero_add, Option.isSome_none, decide_false, Ty.td9, Ty.td29, h1]

theorem prodE_bound : ∀ (ds : List Int) (n : Int), ds.any badDim = false → 0 ≤ n → n ≤ 4096 → 0 ≤ (prodE ds n).1 ∧ (prodE ds n).1 ≤ 4096
  | [], n, _, h1, h2 => ⟨h1, h2⟩
  | d :: ds, n, h, h1, h2 => by
    rw [List.any_cons, Bool.or_eq_false_iff] at h
    obtain ⟨hb, ht⟩ := h
    have hb' : 0 ≤ d ∧ d ≤ 4096 := by simp [badDim] at hb; omega
    have m1 : 0 ≤ n * d := Int.mul_nonneg h1 hb'.1
    have m2 : n * d ≤ 4096 * 4096 := Int.mul_le_mul h2 hb'.2 hb'.1 (by omega)
    have hw : IntKind.i64.wrap (n * d) = n * d := wrap_in (by omega) (by omega)
    rw [prodE, hw]
    split
    · exact ⟨Int.le_refl _, by omega⟩
    · exact prodE_bound ds _ ht m1 (by omega)

theorem sizeE_bound (ds : List Int) : 0 ≤ (sizeE ds).1 ∧ (sizeE ds).1 ≤ 4096 := by
  unfold sizeE
  split
  · exact ⟨Int.le_refl _, by omega⟩
  split
  · exact ⟨Int.le_refl _, by omega⟩
  rename_i h
  split
  · exact ⟨Int.le_refl _, by omega⟩
  exact prodE_bound ds 1 (by simpa using h) (by omega) (by omega)

end Go.Proofs.Ytbmmemglkjeogaa.A5
