/- Arrays: the reference's Of and Valid; what is equal; zeros. -/
import Derived.Test.YtbmmemglkjeogaaA3
namespace Go.Proofs.Ytbmmemglkjeogaa.A4
open Go Go.Proofs.Ytbmmemglkjeogaa.Eng Go.Proofs.Ytbmmemglkjeogaa Go.RowKit Go.Proofs.Ytbmmemglkjeogaa.A1 Go.Proofs.Ytbmmemglkjeogaa.A2 Go.Proofs.Ytbmmemglkjeogaa.A3
set_option linter.unusedSimpArgs false
set_option linter.unusedVariables false
set_option linter.unusedSectionVars false
set_option maxRecDepth 100000

theorem beq_drop {xs ys : List Int} {k : Nat} (h : k < xs.length) (h' : k < ys.length) : (xs.drop k == ys.drop k) = (xs[k] == ys[k] && (xs.drop (k + 1) == ys.drop (k + 1))) := by
  rw [List.drop_eq_getElem_cons h, List.drop_eq_getElem_cons h']; rfl

theorem sameInts (xs ys : List Int) (hx : xs.length ≤ 1000000) (hy : ys.length ≤ 1000000) : Meets Try.prog 16 [ints xs, ints ys] (B (xs == ys)) := by
  refine meets_of (X := false) Ty.mixed Try.func16 (by kernel_rfl) rfl (by kernel_rfl) (by simp) ?_; rw [Try.ntmps16, Try.results16]
  simp only [awp_reg, awp_seq, awp_cond, seqQ_n, awpOps_nil, awpOps_one, awpOp_is, putK_is, put_s, slot_is, pureOp, apureO, aev, cv, cvc, binK, elO_s, lenA, lenK, argT, ↓reduceIte, Bool.true_and, true_and, reduceCtorEq, Nat.reduceEqDiff, Nat.zero_add, Option.isSome_some, Ty.td22, List.length_map]
  by_cases hl : (xs.length : Int) = ys.length
  case neg =>
    have h0 : (xs == ys) = false := by
      cases h : xs == ys with
      | false => rfl
      | true => exact absurd (by rw [beq_iff_eq.1 h]) hl
    rw [h0]
    simp only [awp_reg, awp_seq, awp_ret, seqQ_n, seqQ_r, awpOps_nil, awpOps_one, awpOp_is, putK_is, put_s, slot_is, retA_is, pureOp, apureO, aev, cv, cvc, condA_t, toD_c, notExit, resA_nil, resA_tmp, oneA_1, ↓reduceIte, Bool.and_self, and_self, show ((xs.length : Int) != ys.length) = true by simpa using hl]
  have hl' : xs.length = ys.length := by omega
  simp only [awp_skip, awp_reg, awp_seq, awp_block, awp_loop, seqQ_n, awpOps_nil, awpOps_one, awpOp_is, putK_is, put_s, pureOp, apureO, aev, cv, cvc, condA_f, ↓reduceIte, show ((xs.length : Int) != ys.length) = false by simpa using hl]
  refine loop_k (fun k : Nat => k ≤ xs.length ∧ (xs == ys) = (xs.drop k == ys.drop k)) (fun k => ⟨26, [(5, I k), (0, ints xs), (1, ints ys)], []⟩) (fun k => xs.length - k) 0 ⟨Nat.zero_le _, rfl⟩ (by simp only [slot_is, aev, cv, cvc, Weak, ↓reduceIte, Bool.and_true, Bool.and_self, and_true, and_self, reduceCtorEq, Nat.reduceEqDiff]; simp) rfl rfl ?_
  rintro k ⟨hk, hi⟩ K hK
  simp only [awp_reg, awp_seq, awp_cond, seqQ_n, awpOps_nil, awpOps_one, awpOp_is, putK_is, put_s, slot_is, pureOp, apureO, aev, cv, cvc, binK, elO_s, lenA, lenK, ↓reduceIte, Bool.true_and, true_and, reduceCtorEq, Nat.reduceEqDiff, Option.isSome_some, Ty.td22, List.length_map]
  refine condA_dec (fun hlt => ?_) (fun hge => ?_)
  · have hlt' : k < xs.length := by omega
    have hlt2 : k < ys.length := by omega
    have h1 : xs[k]? = some xs[k] := List.getElem?_eq_getElem hlt'
    have h2 : ys[k]? = some ys[k] := List.getElem?_eq_getElem hlt2
    rw [beq_drop hlt' hlt2] at hi
    generalize xs[k] = x at *
    generalize ys[k] = y at *
    by_cases hp : x = y
    · subst hp
      rw [beq_self_eq_true, Bool.true_and] at hi
      simp (disch := omega) only [awp_skip, awp_reg, awp_regD, awp_seq, awp_cond, awp_block, seqQ_n, loopQ_n, blkQ_n, awpOps_nil, awpOps_one, awpOpsD_nil, awpOpsD_one, awpOp_is, awpOpD_is, lastOnly_nil, lastOnly_cons, putK_is, put_s, slot_is, keepOp, pureOp, apureO, aev, cv, cvc, binK, elO_s, loadA_d, condA_f, Int.natCast_nonneg, Bool.false_eq_true, ↓reduceIte, List.getElem?_cons_zero, Option.map_some, Bool.true_and, true_and, reduceCtorEq, Nat.reduceEqDiff, Int.toNat_natCast, Ty.td3, Ty.td22, List.getElem?_map, h1, h2, bne_self_eq_false, wrap_in]
      refine hK (k + 1) _ ⟨hlt', hi⟩ (by omega) ?_ rfl rfl
      simp only [slot_is, aev, cv, cvc, Weak, ↓reduceIte, Bool.and_true, Bool.and_self, and_true, and_self, reduceCtorEq, Nat.reduceEqDiff]
      simp
    · rw [show (x == y) = false by simpa using hp, Bool.false_and] at hi
      simp only [awp_skip, awp_reg, awp_regD, awp_seq, awp_cond, awp_block, awp_ret, seqQ_n, seqQ_r, loopQ_r, blkQ_r, awpOps_nil, awpOps_one, awpOpsD_nil, awpOpsD_one, awpOp_is, awpOpD_is, lastOnly_nil, lastOnly_cons, putK_is, put_s, slot_is, retA_is, keepOp, pureOp, apureO, aev, cv, cvc, binK, elO_s, loadA_d, condA_t, toD_c, notExit, resA_nil, resA_tmp, oneA_1, Int.natCast_nonneg, Bool.false_eq_true, ↓reduceIte, List.getElem?_cons_zero, Option.map_some, Bool.true_and, true_and, reduceCtorEq, Nat.reduceEqDiff, Int.toNat_natCast, Ty.td3, Ty.td22, List.getElem?_map, h1, h2, show (x != y) = true by simpa using hp]
      simp [hi]
  · have hk' : k = xs.length := by omega
    subst hk'
    rw [List.drop_length, hl', List.drop_length] at hi
    simp only [awp_reg, awp_seq, awp_exit, awp_ret, seqQ_n, seqQ_e, loopQ_e, blkQ_e, awpOps_nil, awpOps_one, awpOp_is, putK_is, put_s, slot_is, retA_is, pureOp, apureO, aev, cv, cvc, toD_c, notExit, resA_nil, resA_tmp, oneA_1, ↓reduceIte, Bool.true_and, true_and]
    rw [hi]
    rfl

def eqA (e1 : ByteArray) (d1 x1 : List Int) (e2 : ByteArray) (d2 x2 : List Int) : Bool := (e1.toList == e2.toList) && (d1 == d2) && (x1 == x2)

theorem refEqual (e1 : ByteArray) (d1 x1 : List Int) (e2 : ByteArray) (d2 x2 : List Int) (h1 : d1.length ≤ 1000000) (h2 : x1.length ≤ 1000000) (h3 : d2.length ≤ 1000000) (h4 : x2.length ≤ 1000000) : Meets Try.prog 13 [arr e1 d1 x1, arr e2 d2 x2] (B (eqA e1 d1 x1 e2 d2 x2)) := by
  refine meets_of (X := false) Ty.mixed Try.func13 (by kernel_rfl) rfl (by kernel_rfl) (by simp) ?_; rw [Try.ntmps13, Try.results13]
  unfold eqA
  have c1 := sameInts d1 d2 h1 h3
  have c2 := sameInts x1 x2 h2 h4
  generalize (d1 == d2) = p at *
  generalize (x1 == x2) = q at *
  cases he : e1.toList == e2.toList
  · simp only [awp_reg, awp_seq, awp_ret, seqQ_n, awpOps_nil, awpOps_one, awpOps_if, awpOp_is, isCallV, putK_is, updK_is, put_s, upd_s, slot_is, retA_is, pureOp, apureO, astepO, killT, aev, cv, cvc, binK, elO_s, loadA_p, cellsA, cellOk, yieldA, guardA_tf, pickA_f, toD_c, notExit, resA_nil, resA_tmp, oneA_1, argT, Bool.false_eq_true, ↓reduceIte, List.getElem?_cons_zero, List.getElem?_cons_succ, List.length_cons, List.length_nil, List.cons_append, List.nil_append, List.getElem?_toArray, Option.bind_some, Bool.and_true, Bool.true_and, Bool.false_and, Bool.and_self, true_and, and_true, and_self, ne_eq, not_false_eq_true, reduceCtorEq, Nat.reduceAdd, Nat.reduceEqDiff, Nat.zero_add, Ty.td9, Ty.td29, he]
  · simp only [awp_reg, awp_seq, seqQ_n, awpOps_nil, awpOps_one, awpOps_if, awpOp_is, isCallV, callW_is, callV_is, awpO_is, putK_is, updK_is, put_s, upd_s, slot_is, pureOp, apureO, astepO, killT, aev, cv, cvc, binK, elO_s, loadA_p, cellsA, cellOk, yieldA, guardA_tt, argT, Bool.false_eq_true, ↓reduceIte, List.getElem?_cons_zero, List.getElem?_cons_succ, List.length_cons, List.length_nil, List.map_cons, List.map_nil, List.cons_append, List.nil_append, List.append_nil, List.getElem?_toArray, Option.bind_some, Bool.true_and, true_and, ne_eq, not_false_eq_true, reduceCtorEq, Nat.reduceAdd, Nat.reduceEqDiff, Nat.zero_add, Ty.td9, Ty.td22, Ty.td29, he]
    refine call_meets (c1) (by simp only [aev, cv, cvc, toD_sl, consO_some, toDL_nil, toDL_cons] <;> rfl) ?_; simp only [awpOps_one, awpOps_if, awpOp_is, putK_is, put_s, upd_s, slot_is, pureOp, apureO, killT, aev, cv, cvc, yieldA, pickA_t, flat_c, ownsV_sl, ownsL_nil, ownsL_cons, ↓reduceIte, List.getElem?_cons_zero, List.getElem?_cons_succ, List.append_nil, List.getElem?_toArray, Option.bind_some, Bool.or_true, Nat.reduceEqDiff, List.isEmpty_nil]
    cases p
    · simp only [awp_ret, seqQ_n, awpOps_nil, awpOps_one, awpOps_if, awpOp_is, putK_is, put_s, slot_is, retA_is, pureOp, apureO, aev, cv, cvc, yieldA, guardA_tf, pickA_f, toD_c, notExit, resA_nil, resA_tmp, oneA_1, ↓reduceIte, List.getElem?_cons_zero, List.getElem?_cons_succ, List.getElem?_toArray, Option.bind_some, Bool.false_and, Bool.and_self, and_self, Nat.reduceEqDiff]
    · simp only [awpOps_if, awpOp_is, isCallV, callW_is, callV_is, awpO_is, putK_is, put_s, slot_is, pureOp, apureO, aev, cv, cvc, elO_s, loadA_p, yieldA, guardA_tt, Bool.false_eq_true, ↓reduceIte, List.getElem?_cons_zero, List.getElem?_cons_succ, List.length_cons, List.length_nil, List.map_cons, List.map_nil, List.append_nil, List.getElem?_toArray, Option.bind_some, Bool.true_and, true_and, ne_eq, not_false_eq_true, reduceCtorEq, Nat.reduceAdd, Nat.reduceEqDiff, Nat.zero_add, Ty.td22, Ty.td29]
      refine call_meets (c2) (by simp only [aev, cv, cvc, toD_sl, consO_some, toDL_nil, toDL_cons] <;> rfl) ?_; simp only [awp_ret, seqQ_n, awpOps_nil, awpOps_one, awpOp_is, putK_is, put_s, upd_s, slot_is, retA_is, pureOp, apureO, killT, aev, cv, cvc, pickA_t, flat_c, ownsV_sl, ownsL_nil, ownsL_cons, toD_c, notExit, resA_nil, resA_tmp, oneA_1, ↓reduceIte, List.append_nil, Bool.and_self, Bool.or_true, and_self, Nat.reduceEqDiff, List.isEmpty_nil]

theorem refCopy (zs : List Int) (hz : zs.length ≤ 1000000) : Meets Try.prog 81 [ints zs] (ints zs) := by
  refine meets_of (X := false) Ty.mixed Try.func81 (by kernel_rfl) rfl (by kernel_rfl) (by simp) ?_; rw [Try.ntmps81, Try.results81]
  simp only [awp_reg, awp_seq, awp_ret, seqQ_n, awpOps_nil, awpOps_one, awpOp_is, isCallV, putK_is, updK_is, put_s, upd_s, slot_is, slot.eq_1, retA_is, pureOp, apureO, astepO, bsF2_is, bsF1_is, bsEnd_is, appA_sl, appV, killT, killB, killH, aev, cv, cvc, elO_s, fillA, elemsA, elemsN, rowE, chunk, dropL, isDL_nil, ownsL_nil, toD_own, toDL_nil, killV_nils, killV_sl, killV_own, notExit, resA_nil, resA_tmp, oneA_1, argT, Bool.false_eq_true, ↓reduceIte, List.getElem?_cons_zero, List.length_cons, List.length_nil, List.map_cons, List.map_nil, List.nil_append, List.set_cons_zero, Option.map_some, List.all_cons, List.all_nil, Bool.and_true, Bool.true_and, Bool.and_self, Bool.or_false, Value.oneCell', true_and, and_true, and_self, reduceCtorEq, Nat.reduceMul, Nat.reduceLT, Nat.reduceLeDiff, Nat.reduceEqDiff, Nat.zero_add, List.mem_cons, List.not_mem_nil, or_false, List.range_zero, List.zipIdx_nil, Nat.le_refl, List.take_nil, List.zip_nil_right, List.getElem?_nil, Ty.td3, Ty.td22, List.length_map, List.take_length, List.length_nil]
  omega
end Go.Proofs.Ytbmmemglkjeogaa.A4
