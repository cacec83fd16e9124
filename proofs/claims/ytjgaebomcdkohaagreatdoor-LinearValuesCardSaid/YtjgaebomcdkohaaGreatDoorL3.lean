/- Linear expressions: what is valid, in the program; numbers and variables. -/
import Derived.Test.YtjgaebomcdkohaaGreatDoorL2
namespace Go.Proofs.YtjgaebomcdkohaaGreatDoor.L3
open Go Go.Proofs.YtjgaebomcdkohaaGreatDoor.Eng Go.Proofs.YtjgaebomcdkohaaGreatDoor Go.RowKit Go.Proofs.YtjgaebomcdkohaaGreatDoor.L1 Go.Proofs.YtjgaebomcdkohaaGreatDoor.L2
set_option linter.unusedSimpArgs false
set_option linter.unusedVariables false
set_option linter.unusedSectionVars false
set_option maxRecDepth 100000

def prv (ts : List Tm) (k : Nat) : Option ByteArray := if k = 0 then none else (ts[k - 1]?).map (·.1)
theorem terms_step {ts : List Tm} {k : Nat} {t : Tm} (h : ts[k]? = some t) : termsE (prv ts k) (ts.drop k) = (!decide (t.2 = 0) && (fitsI t.2 && (nameE t.1 && ((match prv ts k with | none => true | some q => ltS q t.1) && termsE (prv ts (k + 1)) (ts.drop (k + 1)))))) := by
  obtain ⟨hk, rfl⟩ := List.getElem?_eq_some_iff.1 h
  rw [List.drop_eq_getElem_cons hk, termsE_cons]
  congr 4
  unfold prv
  simp [List.getElem?_eq_getElem hk]

def small (ts : List Tm) : Prop := ts.length ≤ 1000000 ∧ ∀ t ∈ ts, t.1.size ≤ 1000000

theorem valid (c : Int) (ts : List Tm) (hs : small ts) : Meets Tryz.prog 38 [ln c ts] (B (validE c ts)) := by
  obtain ⟨hl, hv⟩ := hs
  refine meets_of (X := false) Ty.mixed Tryz.func38 (by kernel_rfl) rfl (by kernel_rfl) (by simp) ?_; rw [Tryz.ntmps38, Tryz.results38]
  unfold validE
  simp only [awp_reg, awp_seq, seqQ_n, awpOps_nil, awpOps_one, awpOp_is, isCallV, callW_is, callV_is, putK_is, updK_is, put_s, upd_s, slot_is, pureOp, apureO, astepO, killT, aev, cv, cvc, elO_s, loadA_p, cellsA, cellOk, argT, isC, bsD, Bool.false_eq_true, ↓reduceIte, List.getElem?_cons_zero, List.length_cons, List.length_nil, List.map_cons, List.map_nil, List.nil_append, List.append_nil, Bool.true_and, true_and, ne_eq, not_false_eq_true, reduceCtorEq, Nat.reduceAdd, Nat.reduceEqDiff, Nat.zero_add, Ty.td3, Ty.td24]
  refine call_meets (fits c) (by simp only [aev, cv, cvc, toD_c, consO_some, toDL_nil, toDL_cons, isC, bsD] <;> rfl) ?_; simp only [awpOps_one, awpOps_if, awpOp_is, putK_is, put_s, upd_s, slot_is, pureOp, apureO, killT, aev, cv, cvc, yieldA, flat_c, ownsV_c, ownsL_nil, ownsL_cons, isC, bsD, ↓reduceIte, List.getElem?_cons_zero, List.getElem?_cons_succ, List.append_nil, List.getElem?_toArray, Option.bind_some, Bool.or_true, List.isEmpty_nil]
  cases hc : fitsI c with
  | false => simp only [awp_reg, awp_seq, awp_cond, awp_ret, seqQ_n, seqQ_r, awpOps_nil, awpOps_one, awpOps_if, awpOp_is, putK_is, put_s, slot_is, retA_is, pureOp, apureO, aev, cv, cvc, yieldA, guardA_ft, condA_t, pickA_t, toD_c, notExit, resA_nil, resA_tmp, oneA_1, isC, bsD, ↓reduceIte, List.getElem?_cons_zero, List.getElem?_cons_succ, List.getElem?_toArray, Option.bind_some, Bool.false_and, Bool.and_self, Bool.not_false, and_self, Nat.reduceEqDiff, hc]
  | true =>
    by_cases h12 : ts.length ≤ 12
    case neg =>
      simp only [awp_reg, awp_seq, awp_cond, awp_ret, seqQ_n, seqQ_r, awpOps_nil, awpOps_one, awpOps_if, awpOp_is, awpO_is, putK_is, put_s, slot_is, retA_is, pureOp, apureO, aev, cv, cvc, binK, elO_s, lenA, lenK, loadA_p, yieldA, guardA_ff, condA_t, pickA_f, toD_c, notExit, resA_nil, resA_tmp, oneA_1, mlenA_sl, isC, bsD, Bool.false_eq_true, ↓reduceIte, List.getElem?_cons_zero, List.getElem?_cons_succ, List.length_cons, List.length_nil, List.getElem?_toArray, Option.bind_some, Bool.true_and, Bool.not_true, true_and, ne_eq, not_false_eq_true, reduceCtorEq, Nat.reduceAdd, Nat.reduceEqDiff, Nat.zero_add, Option.isSome_some, Ty.td22, Ty.td24, hc, List.length_map, show decide ((12 : Int) < (ts.length : Int)) = true from decide_eq_true (by omega)]
      simp [h12]
    rw [decide_eq_true h12]
    simp only [awp_skip, awp_reg, awp_seq, awp_cond, awp_block, awp_loop, seqQ_n, awpOps_nil, awpOps_one, awpOps_if, awpOp_is, awpO_is, putK_is, put_s, slot_is, pureOp, apureO, aev, cv, cvc, binK, elO_s, lenA, lenK, loadA_p, yieldA, guardA_ff, condA_f, pickA_f, mlenA_sl, isC, bsD, Bool.false_eq_true, ↓reduceIte, List.getElem?_cons_zero, List.getElem?_cons_succ, List.length_cons, List.length_nil, List.getElem?_toArray, Option.bind_some, Bool.true_and, Bool.not_true, true_and, ne_eq, not_false_eq_true, reduceCtorEq, Nat.reduceAdd, Nat.reduceEqDiff, Nat.zero_add, Option.isSome_some, Ty.td22, Ty.td24, hc, List.length_map, show decide ((12 : Int) < (ts.length : Int)) = false from decide_eq_false (by omega)]
    refine loop_g (fun k : Nat => k ≤ ts.length ∧ termsE none ts = termsE (prv ts k) (ts.drop k)) (fun k => ⟨55, [(18, I k), (17, I ts.length), (16, tms ts), (1, .ptr 0 0)], [some (.var 24 [I c, tms ts])]⟩) (fun k => ts.length - k) 0 ⟨Nat.zero_le _, rfl⟩ (by simp only [slot_is, aev, cv, cvc, Weak, isC, bsD, ↓reduceIte, Bool.and_true, Bool.and_self, and_true, and_self, Nat.reduceEqDiff]; simp) rfl (.inl rfl) ?_
    rintro k ⟨hk, hi⟩ K hK
    rw [hi]
    by_cases hlt : k < ts.length
    case neg =>
      have h0 : ts.drop k = [] := List.drop_eq_nil_of_le (by omega)
      rw [h0]
      simp only [awp_reg, awp_seq, awp_cond, awp_exit, awp_ret, seqQ_n, seqQ_e, loopQ_e, blkQ_e, awpOps_nil, awpOps_one, awpOp_is, putK_is, put_s, slot_is, retA_is, pureOp, apureO, aev, cv, cvc, binK, condA_f, toD_c, notExit, resA_nil, resA_tmp, oneA_1, isC, bsD, ↓reduceIte, Bool.true_and, true_and, Nat.reduceEqDiff, show decide ((k : Int) < (ts.length : Int)) = false from decide_eq_false (by omega)]
      simp [termsE]
    obtain ⟨t, ht⟩ : ∃ t, ts[k]? = some t := ⟨_, List.getElem?_eq_getElem hlt⟩
    have hts := hv t (List.mem_of_getElem? ht)
    rw [terms_step ht] at hi ⊢
    obtain ⟨v, x⟩ := t
    simp only at hts hi ⊢
    simp only [awp_skip, awp_reg, awp_regD, awp_seq, awp_cond, awp_block, seqQ_n, awpOps_nil, awpOps_one, awpOpsD_one, awpOpsD_if, awpOp_is, isCallV, awpOpD_is, lastOnly_nil, lastOnly_cons, putK_is, updK_is, put_s, upd_n, upd_s, slot_is, keepOp, pureOp, apureO, astepO, killT, aev, cv, cvc, binK, elO_s, loadA_d, loadA_p, storeA, cellsA, cellOk, setAll, yieldA, condA_t, isC, bsD, Int.natCast_nonneg, Bool.false_eq_true, ↓reduceIte, List.getElem?_cons_zero, List.getElem?_cons_succ, List.length_cons, List.length_nil, List.map_cons, List.map_nil, List.cons_append, List.nil_append, List.set_cons_zero, List.set_cons_succ, List.getElem?_toArray, Option.bind_some, Option.map_some, List.take_succ_cons, List.all_cons, List.all_nil, Bool.true_and, Bool.and_self, Value.oneCell', true_and, and_self, ne_eq, not_false_eq_true, reduceCtorEq, Nat.reduceAdd, Nat.reduceEqDiff, Nat.zero_add, Int.toNat_natCast, Nat.le_refl, List.take_nil, Ty.td3, Ty.td22, Ty.td42, show decide ((k : Int) < (ts.length : Int)) = true from decide_eq_true (by omega), List.getElem?_map, ht]
    by_cases hx : x = 0
    · subst hx
      simp only [awp_reg, awp_seq, awp_cond, awp_ret, seqQ_n, seqQ_r, loopQ_r, blkQ_r, awpOps_nil, awpOps_one, awpOpsD_nil, awpOpsD_one, awpOpsD_if, awpOp_is, awpOpD_is, putK_is, put_s, slot_is, retA_is, keepOp, pureOp, apureO, aev, cv, cvc, yieldA, guardA_no, guardA_ft, condA_t, pickA_t, toD_c, notExit, resA_nil, resA_tmp, oneA_1, isC, bsD, ↓reduceIte, List.getElem?_cons_zero, List.getElem?_cons_succ, List.getElem?_toArray, Option.bind_some, Bool.false_and, Bool.and_self, Bool.not_true, and_self, Nat.reduceEqDiff, decide_true, beq_self_eq_true]
    rw [decide_eq_false hx] at hi ⊢
    simp only [awpOpsD_if, isCallV, awpOpD_is, callWD_is, callVD_is, awpOD_is, putK_is, put_s, slot_is, keepOp, pureOp, apureO, aev, cv, cvc, elO_s, loadA_p, yieldA, guardA_ff, isC, bsD, Bool.false_eq_true, ↓reduceIte, List.getElem?_cons_zero, List.getElem?_cons_succ, List.length_cons, List.length_nil, List.map_cons, List.map_nil, List.append_nil, List.getElem?_toArray, Option.bind_some, Bool.true_and, Bool.not_false, true_and, ne_eq, not_false_eq_true, reduceCtorEq, Nat.reduceAdd, Nat.reduceEqDiff, Nat.zero_add, Ty.td3, Ty.td42, show (x == 0) = false by simpa using hx]
    refine calld_meets (fits x) (by simp only [aev, cv, cvc, toD_c, consO_some, toDL_nil, toDL_cons, isC, bsD, show (x == 0) = false by simpa using hx] <;> rfl) (by simp only [aev, cv, cvc, flat_c, ownsV_c, ownsL_nil, ownsL_cons, isC, bsD, List.append_nil, Bool.or_true, List.isEmpty_nil, show (x == 0) = false by simpa using hx]) ?_; simp only [awpOpsD_one, awpOpsD_if, awpOpD_is, awpOD_is, putK_is, put_s, slot_is, keepOp, pureOp, apureO, aev, cv, cvc, yieldA, guardA_ff, pickA_f, isC, bsD, ↓reduceIte, List.getElem?_cons_zero, List.getElem?_cons_succ, List.getElem?_toArray, Option.bind_some, Nat.reduceEqDiff, show (x == 0) = false by simpa using hx]
    cases hf : fitsI x with
    | false => simp only [awp_reg, awp_seq, awp_cond, awp_ret, seqQ_n, seqQ_r, loopQ_r, blkQ_r, awpOps_nil, awpOps_one, awpOpsD_nil, awpOpsD_one, awpOpsD_if, awpOp_is, awpOpD_is, putK_is, put_s, slot_is, retA_is, keepOp, pureOp, apureO, aev, cv, cvc, yieldA, guardA_no, guardA_ft, condA_t, pickA_t, toD_c, notExit, resA_nil, resA_tmp, oneA_1, isC, bsD, ↓reduceIte, List.getElem?_cons_zero, List.getElem?_cons_succ, List.getElem?_toArray, Option.bind_some, Bool.false_and, Bool.and_self, Bool.not_false, and_self, Nat.reduceEqDiff, hf]
    | true =>
      simp only [awpOpsD_if, isCallV, awpOpD_is, callWD_is, callVD_is, awpOD_is, putK_is, put_s, slot_is, keepOp, pureOp, apureO, aev, cv, cvc, elO_s, loadA_p, yieldA, guardA_ff, isC, bsD, Bool.false_eq_true, ↓reduceIte, List.getElem?_cons_zero, List.getElem?_cons_succ, List.length_cons, List.length_nil, List.map_cons, List.map_nil, List.append_nil, List.getElem?_toArray, Option.bind_some, Bool.true_and, Bool.not_true, true_and, ne_eq, not_false_eq_true, reduceCtorEq, Nat.reduceAdd, Nat.reduceEqDiff, Nat.zero_add, Ty.td9, Ty.td42, hf]
      refine calld_meets (name v hts) (by simp only [aev, cv, cvc, toD_c, consO_some, toDL_nil, toDL_cons, isC, bsD, hf] <;> rfl) (by simp only [aev, cv, cvc, flat_c, ownsV_c, ownsL_nil, ownsL_cons, isC, bsD, List.append_nil, Bool.or_true, List.isEmpty_nil, hf]) ?_; simp only [awpOpsD_one, awpOpsD_if, awpOpD_is, awpOD_is, putK_is, put_s, slot_is, keepOp, pureOp, apureO, aev, cv, cvc, yieldA, guardA_ff, pickA_f, isC, bsD, ↓reduceIte, List.getElem?_cons_zero, List.getElem?_cons_succ, List.getElem?_toArray, Option.bind_some, Nat.reduceEqDiff, hf]
      cases hn : nameE v with
      | false => simp only [awp_reg, awp_seq, awp_cond, awp_ret, seqQ_n, seqQ_r, loopQ_r, blkQ_r, awpOps_nil, awpOps_one, awpOpsD_nil, awpOpsD_one, awpOpsD_if, awpOp_is, awpOpD_is, putK_is, put_s, slot_is, retA_is, keepOp, pureOp, apureO, aev, cv, cvc, yieldA, guardA_no, guardA_ft, condA_t, pickA_t, toD_c, notExit, resA_nil, resA_tmp, oneA_1, isC, bsD, ↓reduceIte, List.getElem?_cons_zero, List.getElem?_cons_succ, List.getElem?_toArray, Option.bind_some, Bool.false_and, Bool.and_self, Bool.not_false, and_self, Nat.reduceEqDiff, hn]
      | true =>
        rw [hf, hn] at hi
        cases k with
        | zero =>
          simp only [awp_skip, awp_reg, awp_cond, seqQ_n, loopQ_n, blkQ_n, awpOps_nil, awpOps_one, awpOpsD_nil, awpOpsD_one, awpOpsD_if, awpOp_is, awpOpD_is, awpOD_is, putK_is, put_s, slot_is, keepOp, pureOp, apureO, aev, cv, cvc, binK, yieldA, guardA_tf, guardA_ff, condA_f, pickA_f, isC, bsD, ↓reduceIte, List.getElem?_cons_zero, List.getElem?_cons_succ, List.getElem?_toArray, Option.bind_some, Bool.true_and, Bool.not_true, true_and, Nat.reduceEqDiff, Nat.zero_add, hn, show decide ((0 : Int) < ((0 : Nat) : Int)) = false from rfl]
          rw [wrap_in (by omega) (by omega)]
          refine hK 1 _ ⟨by omega, by simpa [prv] using hi⟩ (by omega) ?_ rfl (.trim rfl rfl rfl)
          simp only [slot_is, aev, cv, cvc, Weak, isC, bsD, ↓reduceIte, Bool.and_true, Bool.and_self, and_true, and_self, Nat.reduceEqDiff]
          simp
        | succ j =>
          obtain ⟨q, hq⟩ : ∃ q, ts[j]? = some q := ⟨_, List.getElem?_eq_getElem (by omega)⟩
          have hpv : prv ts (j + 1) = some q.1 := by simp [prv, hq]
          simp only [hpv] at hi ⊢
          simp only [awp_cond, seqQ_n, awpOpsD_nil, awpOpsD_one, awpOpsD_if, awpOpD_is, awpOD_is, putK_is, put_s, slot_is, keepOp, pureOp, apureO, aev, cv, cvc, binK, elO_s, loadA_d, loadA_p, yieldA, guardA_tt, guardA_ff, pickA_t, pickA_f, eqFK_nil, isC, bsD, Int.natCast_nonneg, Bool.false_eq_true, ↓reduceIte, List.getElem?_cons_zero, List.getElem?_cons_succ, List.length_cons, List.length_nil, List.getElem?_toArray, Option.bind_some, Option.map_some, List.drop_zero, Bool.true_and, Bool.not_true, true_and, ne_eq, not_false_eq_true, reduceCtorEq, Nat.reduceAdd, Nat.reduceEqDiff, Nat.zero_add, Int.toNat_natCast, Ty.td9, Ty.td22, Ty.td24, Ty.td42, hn, show decide ((0 : Int) < ((j + 1 : Nat) : Int)) = true from decide_eq_true (by omega), wrap_in (x := (j : Int)) (by omega) (by omega), show ((j + 1 : Nat) : Int) - 1 = (j : Int) by omega, List.getElem?_map, hq]
          cases hlt2 : ltS q.1 v with
          | false =>
            unfold ltS at hlt2
            simp only [awp_reg, awp_seq, awp_ret, seqQ_n, seqQ_r, loopQ_r, blkQ_r, awpOps_nil, awpOps_one, awpOp_is, putK_is, put_s, slot_is, retA_is, pureOp, apureO, aev, cv, cvc, condA_t, toD_c, notExit, resA_nil, resA_tmp, oneA_1, isC, bsD, ↓reduceIte, Bool.false_and, Bool.and_self, Bool.not_false, and_self, hlt2]
          | true =>
            rw [hlt2] at hi
            unfold ltS at hlt2
            simp only [awp_skip, awp_reg, seqQ_n, loopQ_n, blkQ_n, awpOps_nil, awpOps_one, awpOp_is, putK_is, put_s, slot_is, pureOp, apureO, aev, cv, cvc, binK, condA_f, isC, bsD, ↓reduceIte, Bool.true_and, Bool.not_true, true_and, Nat.reduceEqDiff, hlt2]
            rw [wrap_in (by omega) (by omega)]
            refine hK (j + 2) _ ⟨by omega, by simpa using hi⟩ (by omega) ?_ rfl (.trim rfl rfl rfl)
            simp only [slot_is, aev, cv, cvc, Weak, isC, bsD, ↓reduceIte, Bool.and_true, Bool.and_self, and_true, and_self, Nat.reduceEqDiff]
            simp
            omega

theorem of_ (n : Int) : Meets Tryz.prog 43 [I n] (ln n []) := by
  refine Meets.weak (r0 := .agg [I n, .nils]) ?_ fun ok w v h => agg_imp (fun us h => cons_imp (fun _ h => h) (fun us h => cons_imp (fun _ h => nil_imp h) (fun _ h => h) h) h) h
  refine meets_of (X := false) Ty.mixed Tryz.func43 (by kernel_rfl) rfl (by kernel_rfl) (by simp) ?_; rw [Tryz.ntmps43, Tryz.results43]
  simp only [awp_reg, awp_seq, awp_ret, seqQ_n, awpOps_nil, awpOps_one, awpOp_is, isCallV, putK_is, updK_is, put_s, upd_n, upd_s, slot_is, slot.eq_1, retA_is, pureOp, apureO, astepO, killT, aev, cv, cvc, elO_s, loadA_p, storeA, cellsA, cellOk, setAll, fillA, placeT, placesA, toD_c, toD_nils, toD_agg, consO_some, toDL_nil, toDL_cons, notExit, resA_nil, resA_cell, oneA_1, argT, isC, bsD, Bool.false_eq_true, ↓reduceIte, List.getElem?_cons_zero, List.length_cons, List.length_nil, List.map_cons, List.map_nil, List.nil_append, List.set_cons_zero, List.set_cons_succ, Option.map_some, List.take_succ_cons, List.drop_zero, List.all_cons, List.all_nil, Bool.true_and, Bool.and_self, Value.oneCell', true_and, and_self, ne_eq, not_false_eq_true, reduceCtorEq, Nat.reduceAdd, Nat.reduceLeDiff, Nat.reduceEqDiff, Nat.zero_add, Nat.le_refl, List.take_nil, Ty.td3, Ty.td22, Ty.td24]
theorem var_ (v : ByteArray) : Meets Tryz.prog 46 [S v] (ln 0 [(v, 1)]) := by
  refine meets_of (X := false) Ty.mixed Tryz.func46 (by kernel_rfl) rfl (by kernel_rfl) (by simp) ?_; rw [Tryz.ntmps46, Tryz.results46]
  simp only [awp_reg, awp_seq, awp_ret, seqQ_n, awpOps_nil, awpOps_one, awpOp_is, isCallV, putK_is, updK_is, put_s, upd_n, upd_s, slot_is, slot.eq_1, retA_is, pureOp, apureO, astepO, bsEnd_is, killT, aev, cv, cvc, elO_s, loadA_p, storeA, cellsA, cellOk, setAll, fillA, placeT, placesA, elemsA, chunk, isD_c, isDL_nil, isDL_cons, toD_c, toD_agg, toD_own, consO_some, toDL_nil, toDL_cons, notExit, resA_nil, resA_cell, oneA_1, argT, isC, bsD, Bool.false_eq_true, ↓reduceIte, List.getElem?_cons_zero, List.getElem?_cons_succ, List.length_cons, List.length_nil, List.map_cons, List.map_nil, List.cons_append, List.nil_append, List.set_cons_zero, List.set_cons_succ, Option.map_some, Option.getD_some, List.take_succ_cons, List.drop_zero, List.all_cons, List.all_nil, Bool.and_true, Bool.true_and, Bool.and_self, Value.oneCell', true_and, and_true, and_self, ne_eq, not_false_eq_true, reduceCtorEq, Nat.reduceAdd, Nat.reduceMul, Nat.reduceLT, Nat.reduceLeDiff, Nat.reduceEqDiff, Nat.reduceMod, Nat.zero_add, List.range_succ, List.range_zero, Nat.le_refl, List.take_nil, Ty.td3, Ty.td9, Ty.td22, Ty.td24, Ty.td42]
  simp

end Go.Proofs.YtjgaebomcdkohaaGreatDoor.L3
