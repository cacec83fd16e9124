/- The law on substituting and values of linear expressions. -/
import Derived.Test.YtjgaebomcdkohaaGreatDoorL32
namespace Go.Proofs.YtjgaebomcdkohaaGreatDoor.L33
open Go Go.Proofs.YtjgaebomcdkohaaGreatDoor.Eng Go.Proofs.YtjgaebomcdkohaaGreatDoor Go.RowKit Go.Proofs.YtjgaebomcdkohaaGreatDoor.L1 Go.Proofs.YtjgaebomcdkohaaGreatDoor.L2 Go.Proofs.YtjgaebomcdkohaaGreatDoor.L3 Go.Proofs.YtjgaebomcdkohaaGreatDoor.L6 Go.Proofs.YtjgaebomcdkohaaGreatDoor.L12 Go.Proofs.YtjgaebomcdkohaaGreatDoor.L13 Go.Proofs.YtjgaebomcdkohaaGreatDoor.L15 Go.Proofs.YtjgaebomcdkohaaGreatDoor.L16 Go.Proofs.YtjgaebomcdkohaaGreatDoor.L17 Go.Proofs.YtjgaebomcdkohaaGreatDoor.L18 Go.Proofs.YtjgaebomcdkohaaGreatDoor.L19 Go.Proofs.YtjgaebomcdkohaaGreatDoor.L20 Go.Proofs.YtjgaebomcdkohaaGreatDoor.L22 Go.Proofs.YtjgaebomcdkohaaGreatDoor.L23 Go.Proofs.YtjgaebomcdkohaaGreatDoor.L24 Go.Proofs.YtjgaebomcdkohaaGreatDoor.L27 Go.Proofs.YtjgaebomcdkohaaGreatDoor.L28 Go.Proofs.YtjgaebomcdkohaaGreatDoor.L31 Go.Proofs.YtjgaebomcdkohaaGreatDoor.L32
set_option linter.unusedSimpArgs false
set_option linter.unusedVariables false
set_option linter.unusedSectionVars false
set_option maxRecDepth 100000

def okbE (b : Bd) : Bool := fewE b.ts && decide (b.var.size ≤ 40)
def shortE (bs : List Bd) : Bool := bs.all okbE && decide (bs.length ≤ 12)
theorem short_ (bs : List Bd) (hl : bs.length ≤ 9223372036854775807) (hb : ∀ b ∈ bs, b.ts.length ≤ maxLen) : Meets Tryz.prog 20 [bds bs] (B (shortE bs)) := by
  refine meets_of (X := true) Ty.mixed Tryz.func20 (by kernel_rfl) rfl (by kernel_rfl) (by simp) ?_; rw [Tryz.ntmps20, Tryz.results20]
  simp only [awp_reg, awp_seq, awp_block, awp_loop, seqQ_n, awpOps_nil, awpOps_one, awpOp_is, putK_is, put_s, pureOp, apureO, aev, cv, cvc, argT, isC, bsD, ↓reduceIte]
  refine loop_g (fun k : Nat => k ≤ bs.length ∧ shortE bs = ((bs.drop k).all okbE && decide (bs.length ≤ 12))) (fun k => ⟨29, [(3, I k), (2, B false), (0, bds bs)], []⟩) (fun k => bs.length - k) 0 ⟨Nat.zero_le _, rfl⟩ (by simp only [slot_is, aev, cv, cvc, Weak, isC, bsD, ↓reduceIte, Bool.and_true, Bool.and_self, and_true, and_self, reduceCtorEq, Nat.reduceEqDiff]; rfl) rfl (.inl rfl) ?_
  rintro k ⟨hk, hi⟩ K hK
  rw [hi]
  by_cases hlt : k < bs.length
  · have hb' : bs[k]? = some bs[k] := List.getElem?_eq_getElem hlt
    have hbl := hb bs[k] (List.getElem_mem hlt)
    unfold maxLen at hbl
    rw [List.drop_eq_getElem_cons hlt, List.all_cons] at hi ⊢
    generalize bs[k] = b at *
    have hf := few14 b.c b.ts 14 (by omega) (by omega)
    simp only [awp_skip, awp_reg, awp_seq, awp_cond, awp_block, seqQ_n, awpOps_nil, awpOps_one, awpOp_is, isCallV, callW_is, callV_is, putK_is, put_s, slot_is, pureOp, apureO, aev, cv, cvc, binK, elO_s, lenA, lenK, loadA_d, condA_t, mlenA_sl, isC, bsD, Int.natCast_nonneg, Bool.false_eq_true, ↓reduceIte, List.getElem?_cons_zero, List.getElem?_cons_succ, List.length_cons, List.length_nil, List.map_cons, List.map_nil, List.append_nil, Option.map_some, List.take_succ_cons, List.take_zero, List.drop_succ_cons, List.drop_zero, Bool.true_and, true_and, ne_eq, not_false_eq_true, reduceCtorEq, Nat.reduceAdd, Nat.reduceLeDiff, Nat.reduceEqDiff, Nat.zero_add, Int.toNat_natCast, Option.isSome_some, Ty.td24, Ty.td32, Ty.td49, show decide ((k : Int) < (bs.length : Int)) = true from decide_eq_true (by omega), List.getElem?_map, List.length_map, hb']
    refine call_meets (hf) (by simp only [aev, cv, cvc, toD_c, toD_agg, toD_sl, consO_some, toDL_nil, toDL_cons, isC, bsD, Option.map_some] <;> rfl) ?_; simp only [awpOps_one, awpOps_if, awpOp_is, putK_is, put_s, upd_s, slot_is, pureOp, apureO, killT, aev, cv, cvc, yieldA, flat_c, ownsV_c, ownsV_agg, ownsV_sl, ownsL_nil, ownsL_cons, isC, bsD, ↓reduceIte, List.getElem?_cons_zero, List.getElem?_cons_succ, List.append_nil, List.getElem?_toArray, Option.bind_some, Bool.or_true, List.isEmpty_nil]
    cases h1 : fewE b.ts with
    | false =>
      have hh : okbE b = false := by unfold okbE; rw [h1]; rfl
      rw [hh]
      simp only [awp_reg, awp_seq, awp_cond, awp_ret, seqQ_n, seqQ_r, loopQ_r, blkQ_r, awpOps_nil, awpOps_one, awpOps_if, awpOp_is, putK_is, put_s, slot_is, retA_is, pureOp, apureO, aev, cv, cvc, yieldA, guardA_ft, condA_t, pickA_t, toD_c, notExit, resA_nil, resA_tmp, oneA_1, isC, bsD, ↓reduceIte, List.getElem?_cons_zero, List.getElem?_cons_succ, List.getElem?_toArray, Option.bind_some, Bool.false_and, Bool.and_self, Bool.not_false, and_self, Nat.reduceEqDiff, h1]
    | true =>
      simp only [awp_cond, seqQ_n, awpOps_nil, awpOps_one, awpOps_if, awpOp_is, awpO_is, putK_is, put_s, slot_is, pureOp, apureO, aev, cv, cvc, binK, elO_s, lenA, lenK, loadA_d, yieldA, guardA_ff, pickA_f, mlenA_c, isC, bsD, Int.natCast_nonneg, Bool.false_eq_true, ↓reduceIte, List.getElem?_cons_zero, List.getElem?_cons_succ, List.getElem?_toArray, Option.bind_some, Option.map_some, List.drop_succ_cons, List.drop_zero, Bool.true_and, Bool.not_true, true_and, ne_eq, not_false_eq_true, reduceCtorEq, Nat.reduceEqDiff, Int.toNat_natCast, Ty.td9, Ty.td32, Ty.td49, h1, List.getElem?_map, hb']
      by_cases h2 : b.var.size ≤ 40
      · have hh : okbE b = true := by unfold okbE; rw [h1, decide_eq_true h2]; rfl
        rw [hh] at hi
        simp only [awp_skip, awp_reg, seqQ_n, loopQ_n, blkQ_n, awpOps_nil, awpOps_one, awpOp_is, putK_is, put_s, slot_is, pureOp, apureO, aev, cv, cvc, binK, condA_f, isC, bsD, ↓reduceIte, Bool.true_and, true_and, Nat.reduceEqDiff, show decide ((40 : Int) < (b.var.size : Int)) = false from decide_eq_false (by omega)]
        rw [wrap_in (x := (k : Int) + 1) (by omega) (by omega)]
        refine hK (k + 1) _ ⟨by omega, hi⟩ (by omega) ?_ rfl (.inl rfl)
        simp only [slot_is, aev, cv, cvc, Weak, isC, bsD, ↓reduceIte, Bool.and_true, Bool.and_self, and_true, and_self, reduceCtorEq, Nat.reduceEqDiff]
        simp
      · have hh : okbE b = false := by unfold okbE; rw [h1, decide_eq_false h2]; rfl
        rw [hh]
        simp only [awp_reg, awp_seq, awp_ret, seqQ_n, seqQ_r, loopQ_r, blkQ_r, awpOps_nil, awpOps_one, awpOp_is, putK_is, put_s, slot_is, retA_is, pureOp, apureO, aev, cv, cvc, condA_t, toD_c, notExit, resA_nil, resA_tmp, oneA_1, isC, bsD, ↓reduceIte, Bool.false_and, Bool.and_self, and_self, show decide ((40 : Int) < (b.var.size : Int)) = true from decide_eq_true (by omega)]
  · have h0 : bs.drop k = [] := List.drop_eq_nil_of_le (by omega)
    rw [h0]
    simp only [awp_reg, awp_seq, awp_cond, awp_exit, awp_ret, seqQ_n, seqQ_e, loopQ_e, blkQ_e, awpOps_nil, awpOps_one, awpOp_is, putK_is, put_s, slot_is, retA_is, pureOp, apureO, aev, cv, cvc, binK, elO_s, lenA, lenK, condA_f, toD_c, notExit, resA_nil, resA_tmp, oneA_1, mlenA_sl, isC, bsD, ↓reduceIte, List.all_nil, Bool.true_and, true_and, reduceCtorEq, Nat.reduceEqDiff, Option.isSome_some, Ty.td32, show decide ((k : Int) < (bs.length : Int)) = false from decide_eq_false (by omega), List.length_map]
    by_cases h3 : bs.length ≤ 12
    · simp only [aev, cv, cvc, isC, bsD, decide_eq_true h3, show decide ((bs.length : Int) ≤ 12) = true from decide_eq_true (by omega)]
    · simp only [aev, cv, cvc, isC, bsD, decide_eq_false h3, show decide ((bs.length : Int) ≤ 12) = false from decide_eq_false (by omega)]

theorem sub_len (c : Int) (ts : List Tm) (bs : List Bd) : (substR c ts bs).1.2.length ≤ 12 := by
  unfold substR
  split
  · split
    · simp
    · exact lim_len _
  · simp
theorem short_ok {bs : List Bd} (h : shortE bs = true) : okB bs := by
  unfold shortE at h
  simp only [Bool.and_eq_true, decide_eq_true_eq] at h
  refine ⟨by omega, fun b hb => ?_⟩
  have h1 := List.all_eq_true.1 h.1 b hb
  unfold okbE at h1
  rw [Bool.and_eq_true] at h1
  have h2 := few_small h1.1
  exact ⟨by omega, fun t ht => by have := h2.2 t ht; omega⟩
theorem law (c : Int) (ts : List Tm) (hl : ts.length ≤ maxLen) (bs : List Bd) (hb : bs.length ≤ maxLen) (hb2 : ∀ b ∈ bs, b.ts.length ≤ maxLen) (vs : List Tm) (hv : vs.length ≤ maxLen) : Meets Tryz.prog 4 [ln c ts, bds bs, tms vs] (B true) := by
  have hs := short_ bs (by unfold maxLen at hb; omega) hb2
  unfold maxLen at hl hb hv
  refine meets_of (X := true) Ty.mixed Tryz.func4 (by kernel_rfl) rfl (by kernel_rfl) (by simp) ?_; rw [Tryz.ntmps4, Tryz.results4]
  simp only [awp_reg, awp_seq, seqQ_n, awpOps_nil, awpOps_one, awpOp_is, isCallV, callW_is, callV_is, putK_is, updK_is, put_s, upd_s, slot_is, pureOp, apureO, astepO, killT, aev, cv, cvc, cellsA, cellOk, argT, isC, bsD, Bool.false_eq_true, ↓reduceIte, List.length_nil, List.map_nil, List.nil_append, List.append_nil, Bool.true_and, true_and, Nat.reduceAdd, Nat.zero_add]
  refine call_meets (awake) (by simp only [aev, cv, cvc, toDL_nil, isC, bsD] <;> rfl) ?_; simp only [awp_skip, awp_reg, awp_seq, awp_cond, seqQ_n, awpOps_nil, awpOps_one, awpOp_is, isCallV, callW_is, callV_is, putK_is, put_s, upd_s, slot_is, pureOp, apureO, killT, aev, cv, cvc, elO_s, loadA_p, condA_f, flat_c, ownsL_nil, isC, bsD, Bool.false_eq_true, ↓reduceIte, List.getElem?_cons_zero, List.length_cons, List.length_nil, List.map_cons, List.map_nil, List.append_nil, List.take_succ_cons, List.drop_zero, Bool.true_and, Bool.or_true, Bool.not_true, true_and, Nat.reduceAdd, Nat.reduceEqDiff, Nat.zero_add, List.isEmpty_nil, Nat.le_refl, List.take_nil, Ty.td24]
  refine call_meets (few14 c ts 14 (by omega) (by omega)) (by simp only [aev, cv, cvc, toD_c, toD_agg, toD_sl, consO_some, toDL_nil, toDL_cons, isC, bsD, Option.map_some] <;> rfl) ?_; simp only [awpOps_one, awpOps_if, awpOp_is, putK_is, put_s, upd_s, slot_is, pureOp, apureO, killT, aev, cv, cvc, yieldA, flat_c, ownsV_c, ownsV_agg, ownsV_sl, ownsL_nil, ownsL_cons, isC, bsD, ↓reduceIte, List.getElem?_cons_zero, List.getElem?_cons_succ, List.append_nil, List.getElem?_toArray, Option.bind_some, Bool.or_true, List.isEmpty_nil]
  cases hf : fewE ts with
  | false => simp only [awp_reg, awp_seq, awp_cond, awp_ret, seqQ_n, seqQ_r, awpOps_nil, awpOps_one, awpOps_if, awpOp_is, putK_is, put_s, slot_is, retA_is, pureOp, apureO, aev, cv, cvc, yieldA, guardA_ft, condA_t, pickA_t, toD_c, notExit, resA_nil, resA_tmp, oneA_1, isC, bsD, ↓reduceIte, List.getElem?_cons_zero, List.getElem?_cons_succ, List.getElem?_toArray, Option.bind_some, Bool.and_self, Bool.not_false, and_self, Nat.reduceEqDiff, hf]
  | true =>
    simp only [awpOps_if, awpOp_is, isCallV, callW_is, callV_is, awpO_is, putK_is, put_s, slot_is, pureOp, apureO, aev, cv, cvc, yieldA, guardA_ff, isC, bsD, Bool.false_eq_true, ↓reduceIte, List.getElem?_cons_zero, List.getElem?_cons_succ, List.map_cons, List.map_nil, List.append_nil, List.getElem?_toArray, Option.bind_some, Bool.not_true, reduceCtorEq, Nat.reduceEqDiff, hf]
    refine call_meets (hs) (by simp only [aev, cv, cvc, toD_sl, consO_some, toDL_nil, toDL_cons, isC, bsD] <;> rfl) ?_; simp only [awpOps_one, awpOps_if, awpOp_is, awpO_is, putK_is, put_s, upd_s, slot_is, pureOp, apureO, killT, aev, cv, cvc, yieldA, guardA_ff, pickA_f, flat_c, ownsV_sl, ownsL_nil, ownsL_cons, isC, bsD, ↓reduceIte, List.getElem?_cons_zero, List.getElem?_cons_succ, List.append_nil, List.getElem?_toArray, Option.bind_some, Bool.or_true, Nat.reduceEqDiff, List.isEmpty_nil]
    cases hg : shortE bs with
    | false => simp only [awp_reg, awp_seq, awp_cond, awp_ret, seqQ_n, seqQ_r, awpOps_nil, awpOps_one, awpOps_if, awpOp_is, putK_is, put_s, slot_is, retA_is, pureOp, apureO, aev, cv, cvc, yieldA, guardA_ft, condA_t, pickA_t, toD_c, notExit, resA_nil, resA_tmp, oneA_1, isC, bsD, ↓reduceIte, List.getElem?_cons_zero, List.getElem?_cons_succ, List.getElem?_toArray, Option.bind_some, Bool.and_self, Bool.not_false, and_self, Nat.reduceEqDiff, hg]
    | true =>
      simp only [awp_cond, seqQ_n, awpOps_nil, awpOps_one, awpOps_if, awpOp_is, awpO_is, putK_is, put_s, slot_is, pureOp, apureO, aev, cv, cvc, binK, elO_s, lenA, lenK, yieldA, guardA_ff, pickA_f, mlenA_sl, isC, bsD, ↓reduceIte, List.getElem?_cons_zero, List.getElem?_cons_succ, List.getElem?_toArray, Option.bind_some, Bool.true_and, Bool.not_true, true_and, reduceCtorEq, Nat.reduceEqDiff, Option.isSome_some, Ty.td33, hg, List.length_map]
      by_cases h20 : (20 : Int) < vs.length
      · simp only [awp_reg, awp_seq, awp_ret, seqQ_n, seqQ_r, awpOps_nil, awpOps_one, awpOp_is, putK_is, put_s, slot_is, retA_is, pureOp, apureO, aev, cv, cvc, condA_t, toD_c, notExit, resA_nil, resA_tmp, oneA_1, isC, bsD, ↓reduceIte, Bool.and_self, and_self, decide_eq_true h20]
      · have sm := few_small hf
        have m := few_mid hf
        have p1 := subst ksP c ts bs (short_ok hg) (by omega) m.2
        have r1 := rsubst c ts bs (short_ok hg) (by omega) m.2
        rw [subst_same] at p1
        have l1 := sub_len c ts bs
        have p2 := eval c ts vs m.s (by omega)
        have r2 := reval c ts vs m.s (by omega)
        generalize substR c ts bs = x at *
        generalize evalE c ts vs = y at *
        obtain ⟨⟨xc, xt⟩, xe⟩ := x
        obtain ⟨yn, ye⟩ := y
        simp only at l1 p1 r1 p2 r2
        simp only [awp_skip, awp_reg, awp_seq, seqQ_n, awpOps_one, awpOp_is, isCallV, callW_is, callV_is, putK_is, put_s, slot_is, pureOp, apureO, aev, cv, cvc, elO_s, loadA_p, condA_f, isC, bsD, Bool.false_eq_true, ↓reduceIte, List.getElem?_cons_zero, List.length_cons, List.length_nil, List.map_cons, List.map_nil, List.append_nil, List.take_succ_cons, List.drop_zero, Bool.true_and, true_and, reduceCtorEq, Nat.reduceAdd, Nat.reduceEqDiff, Nat.zero_add, Nat.le_refl, List.take_nil, Ty.td24, decide_eq_false h20]
        refine call_meets (p1) (by simp only [aev, cv, cvc, toD_c, toD_agg, toD_sl, consO_some, toDL_nil, toDL_cons, isC, bsD, Option.map_some] <;> rfl) ?_; simp only [awp_reg, awp_seq, seqQ_n, awpOps_nil, awpOps_one, awpOp_is, isCallV, callW_is, callV_is, putK_is, updK_is, put_s, upd_n, upd_s, slot_is, pureOp, apureO, astepO, killT, aev, cv, cvc, elO_s, loadA_p, storeA, cellsA, cellOk, setAll, flat_c, flat_tup, flat_agg, flat_sl, flatL_nil, flatL_cons, ownsV_c, ownsV_agg, ownsV_sl, ownsL_nil, ownsL_cons, isC, bsD, Bool.false_eq_true, ↓reduceIte, List.getElem?_cons_zero, List.getElem?_cons_succ, List.length_cons, List.length_nil, List.map_cons, List.map_nil, List.cons_append, List.nil_append, List.append_nil, List.set_cons_zero, List.set_cons_succ, List.take_succ_cons, List.drop_zero, List.all_cons, List.all_nil, Bool.and_true, Bool.true_and, Bool.and_false, Bool.and_self, Bool.or_true, Value.oneCell', true_and, and_true, and_self, reduceCtorEq, Nat.reduceAdd, Nat.reduceEqDiff, Nat.zero_add, List.isEmpty_nil, Nat.le_refl, List.take_nil, Ty.td24]
        refine call_meets (r1) (by simp only [aev, cv, cvc, toD_c, toD_agg, toD_sl, consO_some, toDL_nil, toDL_cons, isC, bsD, Option.map_some] <;> rfl) ?_; simp only [awp_reg, awp_seq, seqQ_n, awpOps_nil, awpOps_one, awpOp_is, isCallV, callW_is, callV_is, putK_is, updK_is, put_s, upd_n, upd_s, slot_is, pureOp, apureO, astepO, killT, aev, cv, cvc, elO_s, loadA_p, storeA, cellsA, cellOk, setAll, flat_c, flat_tup, flat_agg, flat_sl, flatL_nil, flatL_cons, ownsV_c, ownsV_agg, ownsV_sl, ownsL_nil, ownsL_cons, isC, bsD, Bool.false_eq_true, ↓reduceIte, List.getElem?_cons_zero, List.getElem?_cons_succ, List.length_cons, List.length_nil, List.map_cons, List.map_nil, List.cons_append, List.nil_append, List.append_nil, List.set_cons_zero, List.set_cons_succ, List.take_succ_cons, List.drop_zero, List.all_cons, List.all_nil, Bool.and_true, Bool.true_and, Bool.and_false, Bool.and_self, Bool.or_true, Value.oneCell', true_and, and_true, and_self, reduceCtorEq, Nat.reduceAdd, Nat.reduceEqDiff, Nat.zero_add, List.isEmpty_nil, Nat.le_refl, List.take_nil, Ty.td24]
        refine call_meets (p2) (by simp only [aev, cv, cvc, toD_c, toD_agg, toD_sl, consO_some, toDL_nil, toDL_cons, isC, bsD, Option.map_some] <;> rfl) ?_; simp only [awp_reg, awp_seq, seqQ_n, awpOps_nil, awpOps_one, awpOp_is, isCallV, callW_is, callV_is, putK_is, put_s, upd_s, slot_is, pureOp, apureO, killT, aev, cv, cvc, elO_s, loadA_p, flat_c, flat_tup, flatL_nil, flatL_cons, ownsV_c, ownsV_agg, ownsV_sl, ownsL_nil, ownsL_cons, isC, bsD, Bool.false_eq_true, ↓reduceIte, List.getElem?_cons_zero, List.getElem?_cons_succ, List.length_cons, List.length_nil, List.map_cons, List.map_nil, List.append_nil, List.take_succ_cons, List.drop_zero, Bool.true_and, Bool.and_self, Bool.or_true, true_and, and_self, reduceCtorEq, Nat.reduceAdd, Nat.reduceEqDiff, Nat.zero_add, List.isEmpty_nil, Nat.le_refl, List.take_nil, Ty.td24]
        refine call_meets (r2) (by simp only [aev, cv, cvc, toD_c, toD_agg, toD_sl, consO_some, toDL_nil, toDL_cons, isC, bsD, Option.map_some] <;> rfl) ?_; simp only [awp_reg, awp_seq, seqQ_n, awpOps_nil, awpOps_one, awpOp_is, isCallV, callW_is, callV_is, putK_is, put_s, upd_s, slot_is, pureOp, apureO, killT, aev, cv, cvc, elO_s, loadA_p, flat_c, flat_tup, flatL_nil, flatL_cons, ownsV_c, ownsV_agg, ownsV_sl, ownsL_nil, ownsL_cons, isC, bsD, Bool.false_eq_true, ↓reduceIte, List.getElem?_cons_zero, List.getElem?_cons_succ, List.length_cons, List.length_nil, List.map_cons, List.map_nil, List.append_nil, List.take_succ_cons, List.drop_zero, Bool.true_and, Bool.and_self, Bool.or_true, true_and, and_self, Nat.reduceAdd, Nat.reduceEqDiff, Nat.zero_add, List.isEmpty_nil, Nat.le_refl, List.take_nil, Ty.td24]
        refine call_meets (refEqual xc xt xc xt (by omega) (by omega)) (by simp only [aev, cv, cvc, toD_c, toD_agg, toD_sl, consO_some, toDL_nil, toDL_cons, isC, bsD, Option.map_some] <;> rfl) ?_; simp only [awpOps_one, awpOps_if, awpOp_is, putK_is, put_s, upd_s, slot_is, pureOp, apureO, killT, aev, cv, cvc, yieldA, flat_c, ownsV_c, ownsV_agg, ownsV_sl, ownsL_nil, ownsL_cons, isC, bsD, ↓reduceIte, List.getElem?_cons_zero, List.getElem?_cons_succ, List.append_nil, List.getElem?_toArray, Option.bind_some, Bool.or_true, List.isEmpty_nil]
        simp only [awp_ret, seqQ_n, awpOps_nil, awpOps_one, awpOps_if, awpOp_is, awpO_is, putK_is, put_s, slot_is, retA_is, pureOp, apureO, aev, cv, cvc, binK, yieldA, guardA_tt, pickA_t, toD_c, notExit, resA_nil, resA_tmp, oneA_1, isC, bsD, ↓reduceIte, List.getElem?_cons_zero, List.getElem?_cons_succ, List.getElem?_toArray, Option.bind_some, Bool.and_self, and_self, Nat.reduceEqDiff, eqE_refl, beq_self_eq_true]

theorem end_ (W : World) (_ : True) {v0 v1 v2 : Value} (n0 : Nat) (a0 : List AV) (f0 : Fits Tryz.prog n0 24 a0) (h0 : RepD (fun b => b < W.heap.size) W (.agg a0) v0) (n1 : Nat) (a1 : AV) (f1 : Fits Tryz.prog n1 32 [a1]) (h1 : RepD (fun b => b < W.heap.size) W a1 v1) (n2 : Nat) (a2 : AV) (f2 : Fits Tryz.prog n2 33 [a2]) (h2 : RepD (fun b => b < W.heap.size) W a2 v2) :
    Calls Tryz.prog 4 #[v0, v1, v2] W fun e w' => e = .returned (.bool true) ∧ Below W.heap.size W w' := by
  obtain ⟨c, ts, rfl, hl⟩ := LFit.lin_ f0
  obtain ⟨bs, e1, hb, hb2⟩ := LFit.binds_ f1
  obtain ⟨vs, e2, hv⟩ := LFit.values_ f2
  cases e1
  cases e2
  exact law_of (law c ts hl bs hb hb2 vs hv) (vs := [v0, v1, v2]) ⟨_, _, rfl, h0, _, _, rfl, h1, _, _, rfl, h2, rfl⟩

end Go.Proofs.YtjgaebomcdkohaaGreatDoor.L33
