/- Offsets, and lists that are compared and copied. -/
import Derived.Test.YtbmmemglkjeogaaA1
namespace Go.Proofs.Ytbmmemglkjeogaa.A2
open Go Go.Proofs.Ytbmmemglkjeogaa.Eng Go.Proofs.Ytbmmemglkjeogaa Go.RowKit Go.Proofs.Ytbmmemglkjeogaa.A1
set_option linter.unusedSimpArgs false
set_option linter.unusedVariables false
set_option linter.unusedSectionVars false
set_option maxRecDepth 100000

theorem any_drop {p : Int → Bool} {zs : List Int} {k : Nat} (h : k < zs.length) : (zs.drop k).any p = (p zs[k] || (zs.drop (k + 1)).any p) := by
  rw [List.drop_eq_getElem_cons h, List.any_cons]

theorem refSize (zs : List Int) (hn : zs.length ≤ 1000000) : Meets Try.prog 43 [ints zs] (two (sizeE zs)) := by
  refine meets_of (X := false) Ty.mixed Try.func43 (by kernel_rfl) rfl (by kernel_rfl) (by simp) ?_; rw [Try.ntmps43, Try.results43]
  unfold sizeE
  simp only [awp_reg, awp_seq, awp_cond, seqQ_n, awpOps_nil, awpOps_one, awpOp_is, putK_is, put_s, slot_is, pureOp, apureO, aev, cv, cvc, binK, elO_s, lenA, lenK, argT, ↓reduceIte, Bool.true_and, true_and, reduceCtorEq, Option.isSome_some, Ty.td22, List.length_map]
  refine condA_dec (fun h => ?_) (fun h => ?_)
  · rw [if_pos (by omega)]
    simp only [awp_reg, awp_seq, awp_ret, seqQ_n, seqQ_r, awpOps_nil, awpOps_one, awpOp_is, putK_is, put_s, slot_is, retA_is, pureOp, apureO, aev, cv, cvc, toD_c, toD_tup, consO_some, toDL_nil, toDL_cons, notExit, resA_nil, resA_tmp, oneA_2, ↓reduceIte, Option.map_some, Bool.and_self, and_self, Nat.reduceEqDiff]
  rw [if_neg (by omega)]
  simp only [awp_skip, awp_reg, awp_seq, awp_block, awp_loop, seqQ_n, awpOps_nil, awpOps_one, awpOp_is, putK_is, put_s, pureOp, apureO, aev, cv, cvc, ↓reduceIte]
  refine loop_k (fun k : Nat × Bool => k.1 ≤ zs.length ∧ zs.any badDim = (zs.drop k.1).any badDim ∧ zs.any (fun x => 0 == x) = (k.2 || (zs.drop k.1).any (fun x => 0 == x))) (fun k => ⟨53, [(5, I k.1), (4, B k.2), (0, ints zs)], []⟩) (fun k => zs.length - k.1) (0, false) ⟨Nat.zero_le _, rfl, rfl⟩ (by simp only [slot_is, aev, cv, cvc, Weak, ↓reduceIte, Bool.and_true, Bool.and_self, and_true, and_self, reduceCtorEq, Nat.reduceEqDiff]; simp) rfl rfl ?_
  rintro ⟨k, z⟩ ⟨hk, hi, hz⟩ K hK
  simp only at hk hi hz hK
  simp only [awp_reg, awp_seq, awp_cond, seqQ_n, awpOps_nil, awpOps_one, awpOp_is, putK_is, put_s, slot_is, pureOp, apureO, aev, cv, cvc, binK, elO_s, lenA, lenK, ↓reduceIte, Bool.true_and, true_and, reduceCtorEq, Nat.reduceEqDiff, Option.isSome_some, Ty.td22, List.length_map]
  refine condA_dec (fun hlt => ?_) (fun hge => ?_)
  · have hlt' : k < zs.length := by omega
    have hx : zs[k]? = some zs[k] := List.getElem?_eq_getElem hlt'
    rw [any_drop hlt'] at hi hz
    generalize zs[k] = x at *
    by_cases h1 : x < 0
    · simp only [awp_skip, awp_reg, awp_seq, awp_cond, awp_block, awp_ret, seqQ_n, seqQ_r, loopQ_r, blkQ_r, awpOps_nil, awpOps_one, awpOps_if, awpOp_is, putK_is, put_s, slot_is, retA_is, pureOp, apureO, aev, cv, cvc, binK, elO_s, loadA_d, yieldA, guardA_ft, condA_t, pickA_t, toD_c, toD_tup, consO_some, toDL_nil, toDL_cons, notExit, resA_nil, resA_tmp, oneA_2, Int.natCast_nonneg, Bool.false_eq_true, ↓reduceIte, List.getElem?_cons_zero, List.getElem?_cons_succ, List.getElem?_toArray, Option.bind_some, Option.map_some, Bool.true_and, true_and, reduceCtorEq, Nat.reduceEqDiff, Int.toNat_natCast, decide_true, Ty.td3, Ty.td22, List.getElem?_map, hx, h1]
      have hb : badDim x = true := by simp [badDim, h1]
      rw [hi, hb]
      simp only [aev, cv, cvc, ↓reduceIte, Bool.true_or, true_or]
    by_cases h2 : 4096 < x
    · simp only [awp_skip, awp_reg, awp_seq, awp_cond, awp_block, awp_ret, seqQ_n, seqQ_r, loopQ_r, blkQ_r, awpOps_nil, awpOps_one, awpOps_if, awpOp_is, awpO_is, putK_is, put_s, slot_is, retA_is, pureOp, apureO, aev, cv, cvc, binK, elO_s, loadA_d, yieldA, guardA_ff, condA_t, pickA_f, toD_c, toD_tup, consO_some, toDL_nil, toDL_cons, notExit, resA_nil, resA_tmp, oneA_2, Int.natCast_nonneg, Bool.false_eq_true, ↓reduceIte, List.getElem?_cons_zero, List.getElem?_cons_succ, List.getElem?_toArray, Option.bind_some, Option.map_some, Bool.true_and, true_and, reduceCtorEq, Nat.reduceEqDiff, Int.toNat_natCast, decide_true, decide_false, Ty.td3, Ty.td22, List.getElem?_map, hx, h1, h2]
      have hb : badDim x = true := by simp [badDim, h2]
      rw [hi, hb]
      simp only [aev, cv, cvc, ↓reduceIte, Bool.true_or, true_or]
    have hb : badDim x = false := by simp [badDim]; omega
    rw [hb, Bool.false_or] at hi
    cases z with
    | true =>
      simp (disch := omega) only [awp_skip, awp_reg, awp_seq, awp_cond, awp_block, seqQ_n, loopQ_n, blkQ_n, awpOps_nil, awpOps_one, awpOps_if, awpOp_is, awpO_is, putK_is, put_s, slot_is, pureOp, apureO, aev, cv, cvc, binK, elO_s, loadA_d, yieldA, guardA_ft, guardA_ff, condA_f, pickA_t, pickA_f, Int.natCast_nonneg, Bool.false_eq_true, ↓reduceIte, List.getElem?_cons_zero, List.getElem?_cons_succ, List.getElem?_toArray, Option.bind_some, Option.map_some, Bool.true_and, true_and, reduceCtorEq, Nat.reduceEqDiff, Int.toNat_natCast, decide_false, Ty.td3, Ty.td22, List.getElem?_map, hx, h1, h2, wrap_in]
      refine hK (k + 1, true) _ ⟨hlt', hi, by simpa using hz⟩ (by simp; omega) ?_ rfl rfl
      simp only [slot_is, aev, cv, cvc, Weak, ↓reduceIte, Bool.and_true, Bool.and_self, and_true, and_self, reduceCtorEq, Nat.reduceEqDiff]
      simp
    | false =>
      simp (disch := omega) only [awp_skip, awp_reg, awp_seq, awp_cond, awp_block, seqQ_n, loopQ_n, blkQ_n, awpOps_nil, awpOps_one, awpOps_if, awpOp_is, awpO_is, putK_is, put_s, slot_is, pureOp, apureO, aev, cv, cvc, binK, elO_s, loadA_d, yieldA, guardA_ff, condA_f, pickA_f, Int.natCast_nonneg, Bool.false_eq_true, ↓reduceIte, List.getElem?_cons_zero, List.getElem?_cons_succ, List.getElem?_toArray, Option.bind_some, Option.map_some, Bool.true_and, true_and, reduceCtorEq, Nat.reduceEqDiff, Int.toNat_natCast, decide_false, Ty.td3, Ty.td22, List.getElem?_map, hx, h1, h2, wrap_in]
      refine hK (k + 1, (x == 0)) _ ⟨hlt', hi, by rw [hz, show (0 == x) = (x == 0) from Bool.beq_comm]; simp⟩ (by simp; omega) ?_ rfl rfl
      simp only [slot_is, aev, cv, cvc, Weak, ↓reduceIte, Bool.and_true, Bool.and_self, and_true, and_self, reduceCtorEq, Nat.reduceEqDiff]
      simp
  have hk' : k = zs.length := by omega
  subst hk'
  rw [List.drop_length] at hi hz
  simp only [List.any_nil, Bool.or_false] at hi hz
  rw [hi, hz]
  cases z with
  | true => simp only [awp_reg, awp_seq, awp_cond, awp_exit, awp_ret, seqQ_n, seqQ_r, seqQ_e, loopQ_e, blkQ_e, awpOps_nil, awpOps_one, awpOp_is, putK_is, put_s, slot_is, retA_is, pureOp, apureO, aev, cv, cvc, condA_t, toD_c, toD_tup, consO_some, toDL_nil, toDL_cons, notExit, resA_nil, resA_tmp, oneA_2, Bool.false_eq_true, ↓reduceIte, Option.map_some, Bool.and_self, and_self, Nat.reduceEqDiff]
  | false =>
  simp only [awp_skip, awp_reg, awp_seq, awp_cond, awp_block, awp_loop, awp_exit, seqQ_n, seqQ_e, loopQ_e, blkQ_e, awpOps_nil, awpOps_one, awpOp_is, putK_is, put_s, slot_is, pureOp, apureO, aev, cv, cvc, condA_f, Bool.false_eq_true, ↓reduceIte, Nat.reduceEqDiff]
  refine loop_k (fun x : Nat × Int => x.1 ≤ zs.length ∧ prodE zs 1 = prodE (zs.drop x.1) x.2) (fun x => ⟨53, [(7, I x.1), (0, ints zs), (6, I x.2)], []⟩) (fun x => zs.length - x.1) (0, 1) ⟨Nat.zero_le _, rfl⟩ (by simp only [slot_is, aev, cv, cvc, Weak, ↓reduceIte, Bool.and_true, Bool.and_self, and_true, and_self, reduceCtorEq, Nat.reduceEqDiff]; simp) rfl rfl ?_
  rintro ⟨k, n⟩ ⟨hk, hi⟩ K hK
  simp only at hk hi hK
  simp only [awp_reg, awp_seq, awp_cond, seqQ_n, awpOps_nil, awpOps_one, awpOp_is, putK_is, put_s, slot_is, pureOp, apureO, aev, cv, cvc, binK, elO_s, lenA, lenK, ↓reduceIte, Bool.true_and, true_and, reduceCtorEq, Nat.reduceEqDiff, Option.isSome_some, Ty.td22, List.length_map]
  refine condA_dec (fun hlt => ?_) (fun hge => ?_)
  · have hlt' : k < zs.length := by omega
    have hx : zs[k]? = some zs[k] := List.getElem?_eq_getElem hlt'
    rw [List.drop_eq_getElem_cons hlt', prodE] at hi
    generalize zs[k] = x at *
    simp only [awp_skip, awp_reg, awp_seq, awp_cond, awp_block, seqQ_n, awpOps_nil, awpOps_one, awpOp_is, putK_is, put_s, slot_is, pureOp, apureO, aev, cv, cvc, binK, elO_s, loadA_d, Int.natCast_nonneg, Bool.false_eq_true, ↓reduceIte, List.getElem?_cons_zero, Option.map_some, Bool.true_and, true_and, reduceCtorEq, Nat.reduceEqDiff, Int.toNat_natCast, Ty.td3, Ty.td22, List.getElem?_map, hx]
    refine condA_dec (fun h3 => ?_) (fun h3 => ?_)
    · rw [if_pos h3] at hi
      simp only [awp_reg, awp_seq, awp_ret, seqQ_n, seqQ_r, loopQ_r, blkQ_r, awpOps_nil, awpOps_one, awpOp_is, putK_is, put_s, slot_is, retA_is, pureOp, apureO, aev, cv, cvc, toD_c, toD_tup, consO_some, toDL_nil, toDL_cons, notExit, resA_nil, resA_tmp, oneA_2, ↓reduceIte, Option.map_some, Bool.and_self, and_self, Nat.reduceEqDiff, hi]
    · rw [if_neg h3] at hi
      simp (disch := omega) only [awp_skip, awp_reg, seqQ_n, loopQ_n, blkQ_n, awpOps_nil, awpOps_one, awpOp_is, putK_is, put_s, slot_is, pureOp, apureO, aev, cv, cvc, binK, ↓reduceIte, Bool.true_and, true_and, Nat.reduceEqDiff, wrap_in]
      refine hK (k + 1, IntKind.i64.wrap (n * x)) _ ⟨hlt', hi⟩ (by simp; omega) ?_ rfl rfl
      simp only [slot_is, aev, cv, cvc, Weak, ↓reduceIte, Bool.and_true, Bool.and_self, and_true, and_self, reduceCtorEq, Nat.reduceEqDiff]
      simp
  · have hk' : k = zs.length := by omega
    simp only [awp_reg, awp_seq, awp_exit, awp_ret, seqQ_n, seqQ_e, loopQ_e, blkQ_e, awpOps_nil, awpOps_one, awpOp_is, putK_is, put_s, slot_is, retA_is, pureOp, apureO, aev, cv, cvc, toD_c, toD_tup, consO_some, toDL_nil, toDL_cons, notExit, resA_nil, resA_tmp, oneA_2, ↓reduceIte, Option.map_some, Bool.true_and, true_and, reduceCtorEq, Nat.reduceEqDiff]
    rw [hi, hk']
    simp [prodE]

end Go.Proofs.Ytbmmemglkjeogaa.A2
