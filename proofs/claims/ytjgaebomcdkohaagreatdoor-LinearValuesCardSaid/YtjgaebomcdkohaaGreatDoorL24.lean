/- Linear expressions: values, in the reference. -/
import Derived.Test.YtjgaebomcdkohaaGreatDoorL22
import Derived.Test.YtjgaebomcdkohaaGreatDoorL23
namespace Go.Proofs.YtjgaebomcdkohaaGreatDoor.L24
open Go Go.Proofs.YtjgaebomcdkohaaGreatDoor.Eng Go.Proofs.YtjgaebomcdkohaaGreatDoor Go.RowKit Go.Proofs.YtjgaebomcdkohaaGreatDoor.L1 Go.Proofs.YtjgaebomcdkohaaGreatDoor.L2 Go.Proofs.YtjgaebomcdkohaaGreatDoor.L3 Go.Proofs.YtjgaebomcdkohaaGreatDoor.L16 Go.Proofs.YtjgaebomcdkohaaGreatDoor.L17 Go.Proofs.YtjgaebomcdkohaaGreatDoor.L21 Go.Proofs.YtjgaebomcdkohaaGreatDoor.L22 Go.Proofs.YtjgaebomcdkohaaGreatDoor.L23
set_option linter.unusedSimpArgs false
set_option linter.unusedVariables false
set_option linter.unusedSectionVars false
set_option maxRecDepth 100000

theorem reval (c : Int) (ts vs : List Tm) (hs : small ts) (hl : vs.length ≤ 1000000) : Meets Tryz.prog 24 [ln c ts, tms vs] (.tup [I (evalE c ts vs).1, I (evalE c ts vs).2]) := by
  unfold evalE
  cases hv : validE c ts with
  | false =>
    refine meets_of (X := true) Ty.mixed Tryz.func24 (by kernel_rfl) rfl (by kernel_rfl) (by simp) ?_; rw [Tryz.ntmps24, Tryz.results24]
    simp only [awp_reg, awp_seq, seqQ_n, awpOps_nil, awpOps_one, awpOp_is, isCallV, callW_is, callV_is, putK_is, updK_is, put_s, upd_s, slot_is, pureOp, apureO, astepO, killT, aev, cv, cvc, elO_s, loadA_p, cellsA, cellOk, argT, isC, bsD, Bool.false_eq_true, ↓reduceIte, List.getElem?_cons_zero, List.length_cons, List.length_nil, List.map_cons, List.map_nil, List.nil_append, List.append_nil, List.take_succ_cons, List.drop_zero, Bool.true_and, true_and, Nat.reduceAdd, Nat.reduceEqDiff, Nat.zero_add, Nat.le_refl, List.take_nil, Ty.td24]
    refine call_meets (rvalid c ts hs) (by simp only [aev, cv, cvc, toD_c, toD_agg, toD_sl, consO_some, toDL_nil, toDL_cons, isC, bsD, Option.map_some] <;> rfl) ?_; simp only [awp_cond, seqQ_n, awpOps_nil, awpOps_one, awpOp_is, putK_is, put_s, upd_s, slot_is, pureOp, apureO, killT, aev, cv, cvc, flat_c, ownsV_c, ownsV_agg, ownsV_sl, ownsL_nil, ownsL_cons, isC, bsD, ↓reduceIte, List.append_nil, Bool.or_true, List.isEmpty_nil]
    simp only [awp_reg, awp_seq, awp_ret, seqQ_n, seqQ_r, awpOps_nil, awpOps_one, awpOp_is, putK_is, put_s, slot_is, retA_is, pureOp, apureO, aev, cv, cvc, condA_t, toD_c, toD_tup, consO_some, toDL_nil, toDL_cons, notExit, resA_nil, resA_tmp, oneA_2, isC, bsD, ↓reduceIte, Option.map_some, Bool.and_self, Bool.not_false, and_self, Nat.reduceEqDiff, hv]
  | true =>
    simp only [if_true]
    refine meets_of (X := true) Ty.mixed Tryz.func24 (by kernel_rfl) rfl (by kernel_rfl) (by simp) ?_; rw [Tryz.ntmps24, Tryz.results24]
    simp only [awp_reg, awp_seq, seqQ_n, awpOps_nil, awpOps_one, awpOp_is, isCallV, callW_is, callV_is, putK_is, updK_is, put_s, upd_s, slot_is, pureOp, apureO, astepO, killT, aev, cv, cvc, elO_s, loadA_p, cellsA, cellOk, argT, isC, bsD, Bool.false_eq_true, ↓reduceIte, List.getElem?_cons_zero, List.length_cons, List.length_nil, List.map_cons, List.map_nil, List.nil_append, List.append_nil, List.take_succ_cons, List.drop_zero, Bool.true_and, true_and, Nat.reduceAdd, Nat.reduceEqDiff, Nat.zero_add, Nat.le_refl, List.take_nil, Ty.td24]
    refine call_meets (rvalid c ts hs) (by simp only [aev, cv, cvc, toD_c, toD_agg, toD_sl, consO_some, toDL_nil, toDL_cons, isC, bsD, Option.map_some] <;> rfl) ?_; simp only [awp_cond, seqQ_n, awpOps_nil, awpOps_one, awpOp_is, putK_is, put_s, upd_s, slot_is, pureOp, apureO, killT, aev, cv, cvc, flat_c, ownsV_c, ownsV_agg, ownsV_sl, ownsL_nil, ownsL_cons, isC, bsD, ↓reduceIte, List.append_nil, Bool.or_true, List.isEmpty_nil]
    simp only [awp_skip, awp_reg, awp_seq, awp_block, awp_loop, seqQ_n, awpOps_nil, awpOps_one, awpOp_is, putK_is, put_s, slot_is, pureOp, apureO, aev, cv, cvc, elO_s, loadA_p, condA_f, isC, bsD, Bool.false_eq_true, ↓reduceIte, List.getElem?_cons_zero, List.length_cons, List.length_nil, Bool.true_and, Bool.not_true, true_and, ne_eq, not_false_eq_true, reduceCtorEq, Nat.reduceAdd, Nat.reduceEqDiff, Nat.zero_add, Ty.td3, Ty.td24, hv]
    refine loop_g (fun a : Nat × Int => a.1 ≤ ts.length ∧ evalL vs ts c = evalL vs (ts.drop a.1) a.2) (fun a => ⟨68, [(7, I a.1), (6, I a.2), (2, .ptr 0 0), (1, tms vs)], [some (.var 24 [I c, tms ts])]⟩) (fun a => ts.length - a.1) (0, c) ⟨Nat.zero_le _, rfl⟩ (by simp only [slot_is, aev, cv, cvc, Weak, isC, bsD, ↓reduceIte, Bool.and_true, Bool.and_self, and_true, and_self, reduceCtorEq, Nat.reduceEqDiff]; rfl) rfl (.inl rfl) ?_
    rintro ⟨k, n⟩ ⟨hk, hi⟩ K hK
    simp only at hk hi ⊢
    rw [hi]
    have hts := hs.1
    by_cases hlt : k < ts.length
    case neg =>
      have h0 : ts.drop k = [] := List.drop_eq_nil_of_le (by omega)
      rw [h0]
      simp only [awp_reg, awp_seq, awp_cond, awp_exit, awp_ret, seqQ_n, seqQ_e, loopQ_e, blkQ_e, awpOps_nil, awpOps_one, awpOp_is, putK_is, put_s, slot_is, retA_is, pureOp, apureO, aev, cv, cvc, binK, elO_s, lenA, lenK, loadA_p, condA_f, toD_c, toD_tup, consO_some, toDL_nil, toDL_cons, notExit, resA_nil, resA_tmp, oneA_2, mlenA_sl, isC, bsD, Bool.false_eq_true, ↓reduceIte, List.getElem?_cons_zero, List.getElem?_cons_succ, List.length_cons, List.length_nil, Option.map_some, Bool.true_and, true_and, ne_eq, not_false_eq_true, reduceCtorEq, Nat.reduceAdd, Nat.reduceEqDiff, Nat.zero_add, Option.isSome_some, Ty.td22, Ty.td24, show decide ((k : Int) < (ts.length : Int)) = false from decide_eq_false (by omega), List.length_map]
      rfl
    have ht : ts[k]? = some ts[k] := List.getElem?_eq_getElem hlt
    rw [List.drop_eq_getElem_cons hlt, evalL] at hi ⊢
    generalize ts[k] = t at *
    obtain ⟨v, x⟩ := t
    simp only at hi ⊢
    simp only [awp_skip, awp_reg, awp_seq, awp_cond, awp_block, awp_loop, seqQ_n, awpOps_nil, awpOps_one, awpOp_is, putK_is, put_s, slot_is, pureOp, apureO, aev, cv, cvc, binK, elO_s, lenA, lenK, loadA_p, condA_t, mlenA_sl, isC, bsD, Bool.false_eq_true, ↓reduceIte, List.getElem?_cons_zero, List.getElem?_cons_succ, List.length_cons, List.length_nil, Bool.true_and, true_and, ne_eq, not_false_eq_true, reduceCtorEq, Nat.reduceAdd, Nat.reduceEqDiff, Nat.zero_add, Option.isSome_some, Ty.td22, Ty.td24, show decide ((k : Int) < (ts.length : Int)) = true from decide_eq_true (by omega), List.length_map, ht]
    refine loop_g (fun j : Nat => j ≤ vs.length ∧ vs.find? (hitV v) = (vs.drop j).find? (hitV v)) (fun j => ⟨68, [(8, I j), (7, I k), (6, I n), (2, .ptr 0 0), (1, tms vs)], [some (.var 24 [I c, tms ts])]⟩) (fun j => vs.length - j) 0 ⟨Nat.zero_le _, rfl⟩ (by simp only [slot_is, aev, cv, cvc, Weak, isC, bsD, ↓reduceIte, Bool.and_true, Bool.and_self, and_true, and_self, Nat.reduceEqDiff]; rfl) rfl (.inl rfl) ?_
    rintro j ⟨hj, hf⟩ K' hK'
    rw [hf] at hi ⊢
    by_cases hjl : j < vs.length
    · have hb : vs[j]? = some vs[j] := List.getElem?_eq_getElem hjl
      rw [List.drop_eq_getElem_cons hjl, List.find?_cons] at hi hf ⊢
      generalize vs[j] = b at *
      simp only [awp_regX, awp_seq, aev, cv, cvc, isC, bsD]
      refine drawS_tail (by kernel_rfl) ?_; simp only [awp_reg, awp_seq, awp_cond, awp_exit, seqQ_n, seqQ_e, loopQ_e, blkQ_e, awpOps_nil, awpOps_one, awpOpsD_nil, awpOpsD_one, awpOpsD_if, awpOp_is, awpOpD_is, awpOD_is, putK_is, put_s, slot_is, keepOp, pureOp, apureO, aev, cv, cvc, binK, elO_s, lenA, lenK, loadA_d, loadA_p, yieldA, guardA_tt, condA_f, pickA_t, mlenA_sl, eqFK_nil, eqOpK_n, isC, bsD, Int.natCast_nonneg, Bool.false_eq_true, ↓reduceIte, List.getElem?_cons_zero, List.getElem?_cons_succ, List.length_cons, List.length_nil, List.getElem?_toArray, Option.bind_some, Option.map_some, List.drop_zero, Bool.true_and, Bool.not_true, true_and, ne_eq, not_false_eq_true, reduceCtorEq, Nat.reduceAdd, Nat.reduceEqDiff, Nat.zero_add, Int.toNat_natCast, Option.isSome_some, Ty.td9, Ty.td22, Ty.td24, Ty.td33, Ty.td42, Ty.td44, show decide ((j : Int) < (vs.length : Int)) = true from decide_eq_true (by omega), List.getElem?_map, List.length_map, ht, hb]
      cases hh : hitV v b with
      | false =>
        rw [hh] at hi hf
        simp only [Bool.false_eq_true] at hi hf ⊢
        have he : (b.1.toList == v.toList) = false := hh
        simp only [awp_skip, awp_reg, awp_block, seqQ_n, loopQ_n, blkQ_n, awpOps_nil, awpOps_one, awpOp_is, putK_is, put_s, slot_is, pureOp, apureO, aev, cv, cvc, binK, condA_t, isC, bsD, ↓reduceIte, Bool.true_and, Bool.not_false, true_and, Nat.reduceEqDiff, he]
        rw [wrap_in (x := (j : Int) + 1) (by omega) (by omega)]
        refine hK' (j + 1) _ ⟨by omega, hf⟩ (by omega) ?_ rfl (.inl rfl)
        simp only [slot_is, aev, cv, cvc, Weak, isC, bsD, ↓reduceIte, Bool.and_true, Bool.and_self, and_true, and_self, Nat.reduceEqDiff]
        simp
      | true =>
        rw [hh] at hi
        simp only at hi ⊢
        have he : (b.1.toList == v.toList) = true := hh
        simp only [awp_skip, awp_reg, awp_seq, awp_cond, awp_exit, seqQ_n, seqQ_e, loopQ_e, blkQ_e, awpOps_nil, awpOps_one, awpOps_if, awpOp_is, putK_is, put_s, slot_is, pureOp, apureO, aev, cv, cvc, binK, elO_s, lenA, lenK, loadA_d, yieldA, condA_f, mlenA_sl, isC, bsD, Int.natCast_nonneg, Bool.false_eq_true, ↓reduceIte, List.getElem?_cons_zero, List.getElem?_cons_succ, List.getElem?_toArray, Option.bind_some, Option.map_some, List.drop_succ_cons, List.drop_zero, Bool.true_and, Bool.not_true, true_and, ne_eq, not_false_eq_true, reduceCtorEq, Nat.reduceEqDiff, Int.toNat_natCast, Option.isSome_some, Ty.td3, Ty.td33, Ty.td44, he, show ((j : Int) == (vs.length : Int)) = false from beq_eq_false_iff_ne.2 (by omega), List.getElem?_map, List.length_map, hb]
        by_cases l1 : b.2 < -1000000000
        · rw [if_pos (Or.inl l1)]
          simp only [awp_reg, awp_seq, awp_cond, awp_ret, seqQ_n, seqQ_r, loopQ_r, blkQ_r, awpOps_nil, awpOps_one, awpOps_if, awpOp_is, putK_is, put_s, slot_is, retA_is, pureOp, apureO, aev, cv, cvc, yieldA, guardA_ft, condA_t, pickA_t, toD_c, toD_tup, consO_some, toDL_nil, toDL_cons, notExit, resA_nil, resA_tmp, oneA_2, isC, bsD, ↓reduceIte, List.getElem?_cons_zero, List.getElem?_cons_succ, List.getElem?_toArray, Option.bind_some, Option.map_some, Bool.and_self, and_self, Nat.reduceEqDiff, decide_eq_true l1]
        by_cases l2 : 1000000000 < b.2
        · rw [if_pos (Or.inr l2)]
          simp only [awp_reg, awp_seq, awp_cond, awp_ret, seqQ_n, seqQ_r, loopQ_r, blkQ_r, awpOps_nil, awpOps_one, awpOps_if, awpOp_is, awpO_is, putK_is, put_s, slot_is, retA_is, pureOp, apureO, aev, cv, cvc, binK, yieldA, guardA_ff, condA_t, pickA_f, toD_c, toD_tup, consO_some, toDL_nil, toDL_cons, notExit, resA_nil, resA_tmp, oneA_2, isC, bsD, ↓reduceIte, List.getElem?_cons_zero, List.getElem?_cons_succ, List.getElem?_toArray, Option.bind_some, Option.map_some, Bool.and_self, and_self, Nat.reduceEqDiff, decide_eq_false l1, decide_eq_true l2]
        rw [if_neg (fun h => h.elim l1 l2)] at hi
        simp only [awp_skip, awp_reg, awp_cond, seqQ_n, loopQ_n, blkQ_n, awpOps_nil, awpOps_one, awpOps_if, awpOp_is, awpO_is, putK_is, put_s, slot_is, pureOp, apureO, aev, cv, cvc, binK, elO_s, loadA_d, loadA_p, yieldA, guardA_ff, condA_f, pickA_f, isC, bsD, Int.natCast_nonneg, Bool.false_eq_true, ↓reduceIte, List.getElem?_cons_zero, List.getElem?_cons_succ, List.length_cons, List.length_nil, List.getElem?_toArray, Option.bind_some, Option.map_some, List.drop_succ_cons, List.drop_zero, Bool.true_and, true_and, ne_eq, not_false_eq_true, reduceCtorEq, Nat.reduceAdd, Nat.reduceEqDiff, Nat.zero_add, Int.toNat_natCast, Ty.td3, Ty.td22, Ty.td24, Ty.td42, decide_eq_false l1, decide_eq_false l2, List.getElem?_map, ht]
        rw [wrap_in (x := (k : Int) + 1) (by omega) (by omega)]
        refine hK (k + 1, W (n + W (x * b.2))) _ ⟨by simp only; omega, hi⟩ (by simp only; omega) ?_ rfl (.inl rfl)
        simp only [slot_is, aev, cv, cvc, Weak, isC, bsD, ↓reduceIte, Bool.and_true, Bool.and_self, and_true, and_self, Nat.reduceEqDiff]
        simp
    · have h0 : vs.drop j = [] := List.drop_eq_nil_of_le (by omega)
      rw [h0] at hi ⊢
      simp only [awp_regX, awp_seq, aev, cv, cvc, isC, bsD]
      refine drawS_tail (by kernel_rfl) ?_; simp only [awp_reg, awp_seq, awp_cond, awp_exit, awp_ret, seqQ_n, seqQ_r, seqQ_e, loopQ_r, loopQ_e, blkQ_r, blkQ_e, awpOps_nil, awpOps_one, awpOpsD_nil, awpOpsD_one, awpOpsD_if, awpOp_is, awpOpD_is, putK_is, put_s, slot_is, retA_is, keepOp, pureOp, apureO, aev, cv, cvc, binK, elO_s, lenA, lenK, yieldA, guardA_tf, condA_t, condA_f, pickA_f, toD_c, toD_tup, consO_some, toDL_nil, toDL_cons, notExit, resA_nil, resA_tmp, oneA_2, mlenA_sl, isC, bsD, ↓reduceIte, List.getElem?_cons_zero, List.getElem?_cons_succ, List.getElem?_toArray, Option.bind_some, Option.map_some, Bool.true_and, true_and, Nat.reduceEqDiff, Option.isSome_some, Ty.td33, show decide ((j : Int) < (vs.length : Int)) = false from decide_eq_false (by omega), List.length_map, show ((j : Int) == (vs.length : Int)) = true from beq_iff_eq.2 (by omega)]
      rfl

end Go.Proofs.YtjgaebomcdkohaaGreatDoor.L24
