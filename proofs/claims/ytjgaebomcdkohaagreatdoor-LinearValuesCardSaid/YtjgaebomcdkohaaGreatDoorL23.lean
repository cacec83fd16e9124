/- Linear expressions: values, in the program. -/
import Derived.Test.YtjgaebomcdkohaaGreatDoorL3
namespace Go.Proofs.YtjgaebomcdkohaaGreatDoor.L23
open Go Go.Proofs.YtjgaebomcdkohaaGreatDoor.Eng Go.Proofs.YtjgaebomcdkohaaGreatDoor Go.RowKit Go.Proofs.YtjgaebomcdkohaaGreatDoor.L1 Go.Proofs.YtjgaebomcdkohaaGreatDoor.L2 Go.Proofs.YtjgaebomcdkohaaGreatDoor.L3
set_option linter.unusedSimpArgs false
set_option linter.unusedVariables false
set_option linter.unusedSectionVars false
set_option maxRecDepth 100000

abbrev hitV (v : ByteArray) (b : Tm) : Bool := b.1.toList == v.toList
def findV (p : Tm → Bool) : List Tm → Nat → Int
  | [], _ => -1
  | b :: r, k => if p b = true then k else findV p r (k + 1)
theorem findV_spec (p : Tm → Bool) : ∀ (bs : List Tm) (k : Nat), (findV p bs k = -1 ∧ bs.find? p = none) ∨ ∃ i b, bs[i]? = some b ∧ bs.find? p = some b ∧ findV p bs k = (k + i : Nat)
  | [], k => Or.inl ⟨rfl, rfl⟩
  | b :: r, k => by
    unfold findV
    cases h : p b with
    | true => exact Or.inr ⟨0, b, rfl, by simp [List.find?, h], by simp⟩
    | false =>
      rcases findV_spec p r (k + 1) with ⟨h1, h2⟩ | ⟨i, c, h1, h2, h3⟩
      · exact Or.inl ⟨by simpa using h1, by simp [List.find?, h, h2]⟩
      · refine Or.inr ⟨i + 1, c, by simpa using h1, by simp [List.find?, h, h2], ?_⟩
        simp only [Bool.false_eq_true, if_false, h3]
        omega
theorem hitv (v : ByteArray) (x : Int) (b : Tm) : Meets Tryz.prog 54 [.agg (tmV b), .dptr [S v, I x]] (B (hitV v b)) := by
  refine meets_of (X := false) Ty.mixed Tryz.func54 (by kernel_rfl) rfl (by kernel_rfl) (by simp) ?_; rw [Tryz.ntmps54, Tryz.results54]
  simp only [awp_reg, awp_seq, awp_ret, seqQ_n, awpOps_nil, awpOps_one, awpOp_is, isCallV, putK_is, updK_is, put_s, upd_s, slot_is, retA_is, pureOp, apureO, astepO, killT, aev, cv, cvc, binK, elO_s, loadA_d, loadA_p, cellsA, cellOk, toD_c, notExit, resA_nil, resA_tmp, oneA_1, argT, eqFK_nil, eqOpK_e, isC, bsD, Bool.false_eq_true, ↓reduceIte, List.getElem?_cons_zero, List.length_cons, List.length_nil, List.nil_append, List.drop_zero, Bool.and_true, Bool.true_and, Bool.and_self, true_and, and_true, and_self, ne_eq, not_false_eq_true, reduceCtorEq, Nat.reduceAdd, Nat.reduceEqDiff, Nat.zero_add, Ty.td9, Ty.td42, Ty.td44]
theorem idxv (v : ByteArray) (x : Int) (bs : List Tm) (hl : bs.length ≤ 1000000) : Meets Tryz.prog 53 [tms bs, .fn 54 [.dptr [S v, I x]]] (I (findV (hitV v) bs 0)) := by
  refine meets_of (X := false) Ty.mixed Tryz.func53 (by kernel_rfl) rfl (by kernel_rfl) (by simp) ?_; rw [Tryz.ntmps53, Tryz.results53]
  simp only [awp_reg, awp_seq, awp_block, awp_loop, seqQ_n, awpOps_nil, awpOps_one, awpOp_is, putK_is, put_s, slot_is, pureOp, apureO, aev, cv, cvc, elO_s, lenA, lenK, argT, mlenA_sl, isC, bsD, ↓reduceIte, Bool.true_and, true_and, reduceCtorEq, Nat.zero_add, Option.isSome_some, Ty.td33, List.length_map]
  refine loop_k (fun k : Nat => k ≤ bs.length ∧ findV (hitV v) bs 0 = findV (hitV v) (bs.drop k) k) (fun k => ⟨19, [(8, I k), (7, I bs.length), (0, tms bs), (1, .fn 54 [.dptr [S v, I x]])], []⟩) (fun k => bs.length - k) 0 ⟨Nat.zero_le _, rfl⟩ (by simp only [slot_is, aev, cv, cvc, Weak, isC, bsD, ↓reduceIte, Bool.and_true, Bool.and_self, and_true, and_self, reduceCtorEq, Nat.reduceEqDiff]; simp) rfl rfl ?_
  rintro k ⟨hk, hi⟩ K hK
  rw [hi]
  by_cases hlt : k < bs.length
  · have hb : bs[k]? = some bs[k] := List.getElem?_eq_getElem hlt
    rw [List.drop_eq_getElem_cons hlt, findV] at hi ⊢
    generalize bs[k] = b at *
    simp only [awp_skip, awp_reg, awp_seq, awp_cond, awp_block, seqQ_n, awpOps_nil, awpOps_one, awpOp_is, isCallV, callW_is, callV_is, putK_is, put_s, slot_is, pureOp, apureO, aev, cv, cvc, binK, elO_s, loadA_d, condA_t, isC, bsD, Int.natCast_nonneg, Bool.false_eq_true, ↓reduceIte, List.length_cons, List.length_nil, List.map_cons, List.map_nil, List.cons_append, List.nil_append, Option.map_some, List.take_succ_cons, Bool.true_and, true_and, reduceCtorEq, Nat.reduceAdd, Nat.reduceEqDiff, Nat.zero_add, Int.toNat_natCast, Nat.le_refl, List.take_nil, Ty.td33, Ty.td44, show decide ((k : Int) < (bs.length : Int)) = true from decide_eq_true (by omega), List.getElem?_map, hb]
    refine call_meets (hitv v x b) (by simp only [aev, cv, cvc, toD_c, toD_agg, toD_dptr, consO_some, toDL_nil, toDL_cons, isC, bsD, Option.map_some] <;> rfl) ?_; simp only [awp_cond, seqQ_n, awpOps_nil, upd_s, slot_is, killT, aev, cv, cvc, flat_c, ownsV_c, ownsV_agg, ownsV_dptr, ownsL_nil, ownsL_cons, isC, bsD, ↓reduceIte, List.append_nil, Bool.or_true, List.isEmpty_nil]
    cases hh : hitV v b with
    | true => simp only [awp_reg, awp_seq, awp_ret, seqQ_n, seqQ_r, loopQ_r, blkQ_r, awpOps_nil, awpOps_one, awpOp_is, putK_is, put_s, slot_is, retA_is, pureOp, apureO, aev, cv, cvc, condA_t, toD_c, notExit, resA_nil, resA_tmp, oneA_1, isC, bsD, ↓reduceIte, Bool.and_self, and_self, Nat.reduceEqDiff, hh]
    | false =>
      rw [hh] at hi
      simp only [awp_skip, awp_reg, seqQ_n, loopQ_n, blkQ_n, awpOps_nil, awpOps_one, awpOp_is, putK_is, put_s, slot_is, pureOp, apureO, aev, cv, cvc, binK, condA_f, isC, bsD, Bool.false_eq_true, ↓reduceIte, Bool.true_and, true_and, Nat.reduceEqDiff, hh]
      rw [wrap_in (by omega) (by omega)]
      refine hK (k + 1) _ ⟨by omega, by simpa using hi⟩ (by omega) ?_ rfl rfl
      simp only [slot_is, aev, cv, cvc, Weak, isC, bsD, ↓reduceIte, Bool.and_true, Bool.and_self, and_true, and_self, reduceCtorEq, Nat.reduceEqDiff]
      simp
  · have h0 : bs.drop k = [] := List.drop_eq_nil_of_le (by omega)
    rw [h0]
    simp only [awp_reg, awp_seq, awp_cond, awp_exit, awp_ret, seqQ_n, seqQ_e, loopQ_e, blkQ_e, awpOps_nil, awpOps_one, awpOp_is, putK_is, put_s, slot_is, retA_is, pureOp, apureO, aev, cv, cvc, binK, condA_f, toD_c, notExit, resA_nil, resA_tmp, oneA_1, isC, bsD, ↓reduceIte, Bool.true_and, true_and, Nat.reduceEqDiff, show decide ((k : Int) < (bs.length : Int)) = false from decide_eq_false (by omega)]
    rfl
def evalL (vs : List Tm) : List Tm → Int → Int × Int
  | [], n => (n, 0)
  | t :: r, n => match vs.find? (hitV t.1) with
    | none => (0, 7)
    | some b => if b.2 < -1000000000 ∨ 1000000000 < b.2 then (0, 2) else evalL vs r (W (n + W (t.2 * b.2)))
def evalE (c : Int) (ts vs : List Tm) : Int × Int := if validE c ts = true then evalL vs ts c else (0, 1)
theorem eval (c : Int) (ts vs : List Tm) (hs : small ts) (hl : vs.length ≤ 1000000) : Meets Tryz.prog 23 [ln c ts, tms vs] (.tup [I (evalE c ts vs).1, I (evalE c ts vs).2]) := by
  unfold evalE
  cases hv : validE c ts with
  | false =>
    refine meets_of (X := true) Ty.mixed Tryz.func23 (by kernel_rfl) rfl (by kernel_rfl) (by simp) ?_; rw [Tryz.ntmps23, Tryz.results23]
    simp only [awp_reg, awp_seq, seqQ_n, awpOps_nil, awpOps_one, awpOp_is, isCallV, callW_is, callV_is, putK_is, updK_is, put_s, upd_s, slot_is, pureOp, apureO, astepO, killT, aev, cv, cvc, elO_s, loadA_p, cellsA, cellOk, argT, isC, bsD, Bool.false_eq_true, ↓reduceIte, List.getElem?_cons_zero, List.length_cons, List.length_nil, List.map_cons, List.map_nil, List.nil_append, List.append_nil, List.take_succ_cons, List.drop_zero, Bool.true_and, true_and, Nat.reduceAdd, Nat.reduceEqDiff, Nat.zero_add, Nat.le_refl, List.take_nil, Ty.td24]
    refine call_meets (valid c ts hs) (by simp only [aev, cv, cvc, toD_c, toD_agg, toD_sl, consO_some, toDL_nil, toDL_cons, isC, bsD, Option.map_some] <;> rfl) ?_; simp only [awp_cond, seqQ_n, awpOps_nil, awpOps_one, awpOp_is, putK_is, put_s, upd_s, slot_is, pureOp, apureO, killT, aev, cv, cvc, flat_c, ownsV_c, ownsV_agg, ownsV_sl, ownsL_nil, ownsL_cons, isC, bsD, ↓reduceIte, List.append_nil, Bool.or_true, List.isEmpty_nil]
    simp only [awp_reg, awp_seq, awp_ret, seqQ_n, seqQ_r, awpOps_nil, awpOps_one, awpOp_is, putK_is, put_s, slot_is, retA_is, pureOp, apureO, aev, cv, cvc, condA_t, toD_c, toD_tup, consO_some, toDL_nil, toDL_cons, notExit, resA_nil, resA_tmp, oneA_2, isC, bsD, ↓reduceIte, Option.map_some, Bool.and_self, Bool.not_false, and_self, Nat.reduceEqDiff, hv]
  | true =>
    simp only [if_true]
    refine meets_of (X := true) Ty.mixed Tryz.func23 (by kernel_rfl) rfl (by kernel_rfl) (by simp) ?_; rw [Tryz.ntmps23, Tryz.results23]
    simp only [awp_reg, awp_seq, seqQ_n, awpOps_nil, awpOps_one, awpOp_is, isCallV, callW_is, callV_is, putK_is, updK_is, put_s, upd_s, slot_is, pureOp, apureO, astepO, killT, aev, cv, cvc, elO_s, loadA_p, cellsA, cellOk, argT, isC, bsD, Bool.false_eq_true, ↓reduceIte, List.getElem?_cons_zero, List.length_cons, List.length_nil, List.map_cons, List.map_nil, List.nil_append, List.append_nil, List.take_succ_cons, List.drop_zero, Bool.true_and, true_and, Nat.reduceAdd, Nat.reduceEqDiff, Nat.zero_add, Nat.le_refl, List.take_nil, Ty.td24]
    refine call_meets (valid c ts hs) (by simp only [aev, cv, cvc, toD_c, toD_agg, toD_sl, consO_some, toDL_nil, toDL_cons, isC, bsD, Option.map_some] <;> rfl) ?_; simp only [awp_cond, seqQ_n, awpOps_nil, awpOps_one, awpOp_is, putK_is, put_s, upd_s, slot_is, pureOp, apureO, killT, aev, cv, cvc, flat_c, ownsV_c, ownsV_agg, ownsV_sl, ownsL_nil, ownsL_cons, isC, bsD, ↓reduceIte, List.append_nil, Bool.or_true, List.isEmpty_nil]
    simp only [awp_skip, awp_reg, awp_seq, awp_block, awp_loop, seqQ_n, awpOps_nil, awpOps_one, awpOp_is, putK_is, put_s, slot_is, pureOp, apureO, aev, cv, cvc, elO_s, lenA, lenK, loadA_p, condA_f, mlenA_sl, isC, bsD, Bool.false_eq_true, ↓reduceIte, List.getElem?_cons_zero, List.getElem?_cons_succ, List.length_cons, List.length_nil, Bool.true_and, Bool.not_true, true_and, ne_eq, not_false_eq_true, reduceCtorEq, Nat.reduceAdd, Nat.reduceEqDiff, Nat.zero_add, Option.isSome_some, Ty.td3, Ty.td22, Ty.td24, hv]
    refine loop_g (fun a : Nat × Int => a.1 ≤ ts.length ∧ evalL vs ts c = evalL vs (ts.drop a.1) a.2) (fun a => ⟨51, [(19, I a.1), (18, I ts.length), (17, tms ts), (6, I a.2), (1, tms vs)], [some (.var 24 [I c, tms ts])]⟩) (fun a => ts.length - a.1) (0, c) ⟨Nat.zero_le _, rfl⟩ (by simp only [slot_is, aev, cv, cvc, Weak, isC, bsD, ↓reduceIte, Bool.and_true, Bool.and_self, and_true, and_self, reduceCtorEq, Nat.reduceEqDiff]; simp) rfl (.inl rfl) ?_
    rintro ⟨k, n⟩ ⟨hk, hi⟩ K hK
    simp only at hk hi ⊢
    rw [hi]
    have hts := hs.1
    by_cases hlt : k < ts.length
    case neg =>
      have h0 : ts.drop k = [] := List.drop_eq_nil_of_le (by omega)
      rw [h0]
      simp only [awp_reg, awp_seq, awp_cond, awp_exit, awp_ret, seqQ_n, seqQ_e, loopQ_e, blkQ_e, awpOps_nil, awpOps_one, awpOp_is, putK_is, put_s, slot_is, retA_is, pureOp, apureO, aev, cv, cvc, binK, condA_f, toD_c, toD_tup, consO_some, toDL_nil, toDL_cons, notExit, resA_nil, resA_tmp, oneA_2, isC, bsD, ↓reduceIte, Option.map_some, Bool.true_and, true_and, Nat.reduceEqDiff, show decide ((k : Int) < (ts.length : Int)) = false from decide_eq_false (by omega)]
      rfl
    have ht : ts[k]? = some ts[k] := List.getElem?_eq_getElem hlt
    rw [List.drop_eq_getElem_cons hlt, evalL] at hi ⊢
    generalize ts[k] = t at *
    obtain ⟨v, x⟩ := t
    simp only at hi ⊢
    simp only [awp_skip, awp_reg, awp_seq, awp_cond, awp_block, seqQ_n, awpOps_nil, awpOps_one, awpOp_is, isCallV, callW_is, callV_is, putK_is, updK_is, put_s, upd_n, upd_s, slot_is, pureOp, apureO, astepO, killT, aev, cv, cvc, binK, elO_s, loadA_d, storeA, cellsA, cellOk, setAll, condA_t, isC, mkfA_fn, bsD, Int.natCast_nonneg, Bool.false_eq_true, ↓reduceIte, List.getElem?_cons_zero, List.getElem?_cons_succ, List.length_cons, List.length_nil, List.map_cons, List.map_nil, List.cons_append, List.nil_append, List.append_nil, List.set_cons_zero, List.set_cons_succ, Option.map_some, List.take_succ_cons, List.all_cons, List.all_nil, Bool.true_and, Bool.and_self, Value.oneCell', true_and, and_self, Nat.reduceAdd, Nat.reduceEqDiff, Nat.zero_add, Int.toNat_natCast, Nat.le_refl, List.take_nil, Ty.td22, Ty.td42, show decide ((k : Int) < (ts.length : Int)) = true from decide_eq_true (by omega), List.getElem?_map, ht]
    refine call_meets (idxv v x vs hl) (by simp only [aev, cv, cvc, isD_c, isDL_nil, isDL_cons, toD_sl, toD_fn, toD_ptr, consO_some, toDL_nil, toDL_cons, isC, bsD, ↓reduceIte, List.getElem?_cons_zero, List.getElem?_cons_succ, Option.map_some, List.drop_zero, Bool.and_self, and_self] <;> rfl) ?_; simp only [awp_reg, awp_seq, awp_cond, seqQ_n, awpOps_nil, awpOps_one, awpOp_is, putK_is, put_s, upd_s, slot_is, pureOp, apureO, killT, aev, cv, cvc, binK, flat_c, ownsV_sl, ownsV_fn, ownsV_ptr, ownsL_nil, ownsL_cons, isC, bsD, ↓reduceIte, List.nil_append, List.append_nil, Bool.true_and, Bool.or_false, true_and, List.isEmpty_cons, or_false]
    rcases findV_spec (hitV v) vs 0 with ⟨hj, hf⟩ | ⟨i, b, hbi, hf, hj⟩
    · rw [hf, hj]
      simp only [awp_reg, awp_seq, awp_ret, seqQ_n, seqQ_r, loopQ_r, blkQ_r, awpOps_nil, awpOps_one, awpOp_is, putK_is, put_s, slot_is, retA_is, pureOp, apureO, aev, cv, cvc, condA_t, toD_c, toD_tup, consO_some, toDL_nil, toDL_cons, notExit, resA_nil, resA_tmp, oneA_2, isC, bsD, ↓reduceIte, Option.map_some, Bool.and_self, and_self, Nat.reduceEqDiff, show decide ((-1 : Int) < 0) = true from rfl]
    · rw [hf] at hi ⊢
      simp only at hi ⊢
      rw [hj, Nat.zero_add]
      simp only [awp_skip, awp_reg, awp_seq, seqQ_n, awpOps_nil, awpOps_one, awpOps_if, awpOp_is, putK_is, put_s, slot_is, pureOp, apureO, aev, cv, cvc, binK, elO_s, loadA_d, yieldA, condA_f, isC, bsD, Int.natCast_nonneg, Bool.false_eq_true, ↓reduceIte, List.getElem?_cons_zero, List.getElem?_cons_succ, List.getElem?_toArray, Option.bind_some, Option.map_some, List.drop_succ_cons, List.drop_zero, Bool.true_and, true_and, ne_eq, not_false_eq_true, reduceCtorEq, Nat.reduceEqDiff, Int.toNat_natCast, Ty.td3, Ty.td33, Ty.td44, show decide ((i : Int) < 0) = false from decide_eq_false (by omega), List.getElem?_map, hbi]
      by_cases l1 : b.2 < -1000000000
      · rw [if_pos (Or.inl l1)]
        simp only [awp_reg, awp_seq, awp_cond, awp_ret, seqQ_n, seqQ_r, loopQ_r, blkQ_r, awpOps_nil, awpOps_one, awpOps_if, awpOp_is, putK_is, put_s, slot_is, retA_is, pureOp, apureO, aev, cv, cvc, yieldA, guardA_ft, condA_t, pickA_t, toD_c, toD_tup, consO_some, toDL_nil, toDL_cons, notExit, resA_nil, resA_tmp, oneA_2, isC, bsD, ↓reduceIte, List.getElem?_cons_zero, List.getElem?_cons_succ, List.getElem?_toArray, Option.bind_some, Option.map_some, Bool.and_self, and_self, Nat.reduceEqDiff, decide_eq_true l1]
      by_cases l2 : 1000000000 < b.2
      · rw [if_pos (Or.inr l2)]
        simp only [awp_reg, awp_seq, awp_cond, awp_ret, seqQ_n, seqQ_r, loopQ_r, blkQ_r, awpOps_nil, awpOps_one, awpOps_if, awpOp_is, awpO_is, putK_is, put_s, slot_is, retA_is, pureOp, apureO, aev, cv, cvc, binK, yieldA, guardA_ff, condA_t, pickA_f, toD_c, toD_tup, consO_some, toDL_nil, toDL_cons, notExit, resA_nil, resA_tmp, oneA_2, isC, bsD, ↓reduceIte, List.getElem?_cons_zero, List.getElem?_cons_succ, List.getElem?_toArray, Option.bind_some, Option.map_some, Bool.and_self, and_self, Nat.reduceEqDiff, decide_eq_false l1, decide_eq_true l2]
      rw [if_neg (fun h => h.elim l1 l2)] at hi
      simp only [awp_regX, awp_skip, awp_cond, seqQ_n, awpOps_nil, awpOps_one, awpOps_if, awpOp_is, awpO_is, putK_is, put_s, slot_is, pureOp, apureO, aev, cv, cvc, binK, yieldA, guardA_ff, condA_f, pickA_f, isC, bsD, ↓reduceIte, List.getElem?_cons_zero, List.getElem?_cons_succ, List.getElem?_toArray, Option.bind_some, Bool.true_and, true_and, Nat.reduceEqDiff, decide_eq_false l1, decide_eq_false l2, hbi]
      refine drawS_tail (by kernel_rfl) ?_; simp only [awp_reg, seqQ_n, loopQ_n, blkQ_n, awpOps_nil, awpOps_one, awpOpsD_nil, awpOpsD_one, awpOp_is, awpOpD_is, putK_is, put_s, slot_is, keepOp, pureOp, apureO, aev, cv, cvc, binK, elO_s, loadA_d, loadA_p, eqFK_nil, isC, bsD, Int.natCast_nonneg, Bool.false_eq_true, ↓reduceIte, List.getElem?_cons_zero, List.getElem?_cons_succ, List.length_cons, List.length_nil, Option.map_some, List.drop_succ_cons, List.drop_zero, Bool.true_and, true_and, ne_eq, not_false_eq_true, reduceCtorEq, Nat.reduceAdd, Nat.reduceEqDiff, Nat.zero_add, Int.toNat_natCast, Ty.td3, Ty.td33, Ty.td42, Ty.td44, List.getElem?_map, hbi]
      rw [wrap_in (x := (k : Int) + 1) (by omega) (by omega)]
      refine hK (k + 1, W (n + W (x * b.2))) _ ⟨by simp only; omega, hi⟩ (by simp only; omega) ?_ rfl (.trim rfl rfl rfl)
      simp only [slot_is, aev, cv, cvc, Weak, isC, bsD, ↓reduceIte, Bool.and_true, Bool.and_self, and_true, and_self, Nat.reduceEqDiff]
      simp

end Go.Proofs.YtjgaebomcdkohaaGreatDoor.L23
