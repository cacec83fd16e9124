/- Cells: Split, and Frame's walk. -/
import Derived.Test.YtoobaeebgnbpjaaA5
namespace Go.Proofs.Ytoobaeebgnbpjaa.B1
open Go Go.Proofs.Ytoobaeebgnbpjaa.Eng Go.Proofs.Ytoobaeebgnbpjaa Go.RowKit Go.Proofs.Ytoobaeebgnbpjaa.A1 Go.Proofs.Ytoobaeebgnbpjaa.A2 Go.Proofs.Ytoobaeebgnbpjaa.A3 Go.Proofs.Ytoobaeebgnbpjaa.A4 Go.Proofs.Ytoobaeebgnbpjaa.A5
set_option linter.unusedSimpArgs false
set_option linter.unusedVariables false
set_option maxRecDepth 100000

abbrev Ar := ByteArray × List Int × List Int
abbrev encA (a : Ar) : List AV := [S a.1, ints a.2.1, ints a.2.2]
abbrev arrs (l : List Ar) : AV := .sl false 3 (l.map encA)
abbrev encB (b : Bool) : List AV := [B b]
abbrev bools (l : List Bool) : AV := .sl false 1 (l.map encB)

def splitE (a : Ar) (r : Int) : (List Int × List Int) × Int :=
  if checkE a.1 a.2.1 a.2.2 ≠ 0 then (([], []), 1) else if r < 0 ∨ (a.2.1.length : Int) < r then (([], []), 13) else ((a.2.1.take ((a.2.1.length : Int) - r).toNat, a.2.1.drop ((a.2.1.length : Int) - r).toNat), 0)
abbrev three (x : (List Int × List Int) × Int) : AV := .tup [ints x.1.1, ints x.1.2, I x.2]

theorem err3 {n : Int} (ok : Nat → Prop) (w : World) (v : Value) (h : RepD ok w (.tup [.nils, .nils, I n]) v) : RepD ok w (three (([], []), n)) v :=
  tup_imp (fun _ => cons_imp (fun _ => nil_imp) fun _ => cons_imp (fun _ => nil_imp) fun _ h => h) h

theorem splitE_len (a : Ar) (r : Int) : (splitE a r).1.1.length ≤ a.2.1.length := by
  unfold splitE
  split
  · simp
  split
  · simp
  · simp; omega

theorem split (e : ByteArray) (ds xs : List Int) (r : Int) (hd : ds.length ≤ 1000000) (hx : xs.length ≤ 1000000) (hr : r ≤ 9223372036854775807) : Meets Try.prog 11 [arr e ds xs, I r] (three (splitE (e, ds, xs) r)) := by
  have hv := isValid e ds xs hd hx
  unfold splitE
  simp only
  generalize checkE e ds xs = k at *
  by_cases hk : k = 0
  case neg =>
    rw [if_pos hk]
    refine Meets.weak (r0 := .tup [.nils, .nils, I 1]) ?_ err3
    rw [show (k == 0) = false by simpa using hk] at hv
    refine meets_of (X := false) Ty.mixed Try.func11 (by kernel_rfl) rfl (by kernel_rfl) (by simp) ?_; rw [Try.ntmps11, Try.results11]
    simp only [awp_reg, awp_seq, seqQ_n, awpOps_nil, awpOps_one, awpOp_is, isCallV, callW_is, callV_is, putK_is, updK_is, put_s, upd_s, slot_is, pureOp, apureO, astepO, killT, aev, cv, cvc, elO_s, loadA_p, cellsA, cellOk, argT, Bool.false_eq_true, ↓reduceIte, List.getElem?_cons_zero, List.length_cons, List.length_nil, List.map_cons, List.map_nil, List.nil_append, List.append_nil, List.take_succ_cons, List.drop_zero, Bool.true_and, true_and, Nat.reduceAdd, Nat.reduceEqDiff, Nat.zero_add, Nat.le_refl, List.take_nil, Ty.td24]
    refine call_meets (hv) (by simp only [aev, cv, cvc, toD_c, toD_agg, toD_sl, consO_some, toDL_nil, toDL_cons, Option.map_some]) ?_; simp only [awp_reg, awp_seq, awp_cond, awp_ret, seqQ_n, seqQ_r, awpOps_nil, awpOps_one, awpOp_is, putK_is, put_s, upd_s, slot_is, retA_is, pureOp, apureO, killT, aev, cv, cvc, condA_t, flat_c, ownsV_c, ownsV_agg, ownsV_sl, ownsL_nil, ownsL_cons, toD_c, toD_nils, toD_tup, consO_some, toDL_nil, toDL_cons, notExit, resA_nil, resA_tmp, oneA_2, ↓reduceIte, List.append_nil, Option.map_some, Bool.and_self, Bool.or_true, Bool.not_false, and_self, Nat.reduceEqDiff, List.isEmpty_nil]
  subst hk
  rw [if_neg (by simp)]
  rw [beq_self_eq_true] at hv
  by_cases h1 : r < 0
  · rw [if_pos (Or.inl h1)]
    refine Meets.weak (r0 := .tup [.nils, .nils, I 13]) ?_ err3
    refine meets_of (X := false) Ty.mixed Try.func11 (by kernel_rfl) rfl (by kernel_rfl) (by simp) ?_; rw [Try.ntmps11, Try.results11]
    simp only [awp_reg, awp_seq, seqQ_n, awpOps_nil, awpOps_one, awpOp_is, isCallV, callW_is, callV_is, putK_is, updK_is, put_s, upd_s, slot_is, pureOp, apureO, astepO, killT, aev, cv, cvc, elO_s, loadA_p, cellsA, cellOk, argT, Bool.false_eq_true, ↓reduceIte, List.getElem?_cons_zero, List.length_cons, List.length_nil, List.map_cons, List.map_nil, List.nil_append, List.append_nil, List.take_succ_cons, List.drop_zero, Bool.true_and, true_and, Nat.reduceAdd, Nat.reduceEqDiff, Nat.zero_add, Nat.le_refl, List.take_nil, Ty.td24]
    refine call_meets (hv) (by simp only [aev, cv, cvc, toD_c, toD_agg, toD_sl, consO_some, toDL_nil, toDL_cons, Option.map_some, h1]) ?_; simp only [awp_skip, awp_reg, awp_seq, awp_cond, awp_ret, seqQ_n, seqQ_r, awpOps_nil, awpOps_one, awpOps_if, awpOp_is, putK_is, put_s, upd_s, slot_is, retA_is, pureOp, apureO, killT, aev, cv, cvc, binK, elO_s, elO_none, lenA, lenK, loadA_p, yieldA, guardA_ft, condA_t, condA_f, pickA_t, flat_c, ownsV_c, ownsV_agg, ownsV_sl, ownsL_nil, ownsL_cons, toD_c, toD_nils, toD_tup, consO_some, toDL_nil, toDL_cons, notExit, resA_nil, resA_tmp, oneA_2, Bool.false_eq_true, ↓reduceIte, List.getElem?_cons_zero, List.getElem?_cons_succ, List.length_cons, List.length_nil, List.append_nil, List.getElem?_toArray, Option.bind_some, Option.map_some, Bool.and_true, Bool.true_and, Bool.and_self, Bool.or_true, Bool.not_true, true_and, and_true, and_self, ne_eq, not_false_eq_true, reduceCtorEq, Nat.reduceAdd, Nat.reduceEqDiff, Nat.zero_add, List.isEmpty_nil, Option.isSome_some, decide_true, Ty.td22, Ty.td24, h1]
  by_cases h2 : (ds.length : Int) < r
  · rw [if_pos (Or.inr h2)]
    refine Meets.weak (r0 := .tup [.nils, .nils, I 13]) ?_ err3
    refine meets_of (X := false) Ty.mixed Try.func11 (by kernel_rfl) rfl (by kernel_rfl) (by simp) ?_; rw [Try.ntmps11, Try.results11]
    simp only [awp_reg, awp_seq, seqQ_n, awpOps_nil, awpOps_one, awpOp_is, isCallV, callW_is, callV_is, putK_is, updK_is, put_s, upd_s, slot_is, pureOp, apureO, astepO, killT, aev, cv, cvc, elO_s, loadA_p, cellsA, cellOk, argT, Bool.false_eq_true, ↓reduceIte, List.getElem?_cons_zero, List.length_cons, List.length_nil, List.map_cons, List.map_nil, List.nil_append, List.append_nil, List.take_succ_cons, List.drop_zero, Bool.true_and, true_and, Nat.reduceAdd, Nat.reduceEqDiff, Nat.zero_add, Nat.le_refl, List.take_nil, Ty.td24]
    refine call_meets (hv) (by simp only [aev, cv, cvc, toD_c, toD_agg, toD_sl, consO_some, toDL_nil, toDL_cons, Option.map_some, h1, wrap_in (x := (ds.length : Int) - r) (by omega) (by omega), show (ds.length : Int) - r < 0 by omega]) ?_; simp only [awp_skip, awp_reg, awp_seq, awp_cond, awp_ret, seqQ_n, seqQ_r, awpOps_nil, awpOps_one, awpOps_if, awpOp_is, awpO_is, putK_is, put_s, upd_s, slot_is, retA_is, pureOp, apureO, killT, aev, cv, cvc, binK, elO_s, elO_none, lenA, lenK, loadA_p, yieldA, guardA_ff, condA_t, condA_f, pickA_f, flat_c, ownsV_c, ownsV_agg, ownsV_sl, ownsL_nil, ownsL_cons, toD_c, toD_nils, toD_tup, consO_some, toDL_nil, toDL_cons, notExit, resA_nil, resA_tmp, oneA_2, Bool.false_eq_true, ↓reduceIte, List.getElem?_cons_zero, List.getElem?_cons_succ, List.length_cons, List.length_nil, List.append_nil, List.getElem?_toArray, Option.bind_some, Option.map_some, Bool.and_true, Bool.true_and, Bool.and_self, Bool.or_true, Bool.not_true, true_and, and_true, and_self, ne_eq, not_false_eq_true, reduceCtorEq, Nat.reduceAdd, Nat.reduceEqDiff, Nat.zero_add, List.isEmpty_nil, Option.isSome_some, decide_true, decide_false, Ty.td22, Ty.td24, h1, List.length_map, wrap_in (x := (ds.length : Int) - r) (by omega) (by omega), show (ds.length : Int) - r < 0 by omega]
  rw [if_neg (by omega)]
  have hw : IntKind.i64.wrap ((ds.length : Int) - r) = ((ds.length : Int) - r) := wrap_in (by omega) (by omega)
  have h3 : ¬ (ds.length : Int) - r < 0 := by omega
  have h4 : List.take (ds.length - ((ds.length : Int) - r).toNat) (ds.drop ((ds.length : Int) - r).toNat) = ds.drop ((ds.length : Int) - r).toNat := List.take_of_length_le (by simp)
  refine meets_of (X := false) Ty.mixed Try.func11 (by kernel_rfl) rfl (by kernel_rfl) (by simp) ?_; rw [Try.ntmps11, Try.results11]
  simp only [awp_reg, awp_seq, seqQ_n, awpOps_nil, awpOps_one, awpOp_is, isCallV, callW_is, callV_is, putK_is, updK_is, put_s, upd_s, slot_is, pureOp, apureO, astepO, killT, aev, cv, cvc, elO_s, loadA_p, cellsA, cellOk, argT, Bool.false_eq_true, ↓reduceIte, List.getElem?_cons_zero, List.length_cons, List.length_nil, List.map_cons, List.map_nil, List.nil_append, List.append_nil, List.take_succ_cons, List.drop_zero, Bool.true_and, true_and, Nat.reduceAdd, Nat.reduceEqDiff, Nat.zero_add, Nat.le_refl, List.take_nil, Ty.td24]
  refine call_meets (hv) (by simp only [aev, cv, cvc, toD_c, toD_agg, toD_sl, consO_some, toDL_nil, toDL_cons, Option.map_some, h1, hw, h3, ← List.map_drop, ← List.map_take]) ?_; simp only [awp_skip, awp_reg, awp_regD, awp_seq, awp_cond, seqQ_n, awpOps_nil, awpOps_one, awpOps_if, awpOpsD_one, awpOp_is, isCallV, awpOpD_is, callWD_is, callVD_is, awpO_is, lastOnly_nil, lastOnly_cons, putK_is, put_s, upd_s, slot_is, keepOp, pureOp, apureO, sliceA_sl, boundsA, killT, aev, cv, cvc, binK, elO_s, elO_none, lenA, lenK, loadA_p, yieldA, guardA_ff, condA_f, pickA_f, flat_c, ownsV_c, ownsV_agg, ownsV_sl, ownsL_nil, ownsL_cons, Bool.false_eq_true, ↓reduceIte, List.getElem?_cons_zero, List.getElem?_cons_succ, List.length_cons, List.length_nil, List.map_cons, List.map_nil, List.append_nil, List.getElem?_toArray, Option.bind_some, Option.map_some, Option.map_none, List.drop_zero, Bool.true_and, Bool.or_true, Bool.not_true, true_and, ne_eq, not_false_eq_true, reduceCtorEq, Nat.reduceAdd, Nat.reduceEqDiff, Nat.zero_add, Nat.sub_zero, List.isEmpty_nil, Option.isSome_some, decide_false, Ty.td3, Ty.td22, Ty.td24, h1, List.length_map, hw, h3, ← List.map_drop, ← List.map_take]
  refine ⟨by omega, by omega, ?_⟩
  refine calld_meets (cloneInts (ds.take ((ds.length : Int) - r).toNat) (by simp; omega)) (by simp only [aev, cv, cvc, toD_sl, consO_some, toDL_nil, toDL_cons, ← List.map_drop, ← List.map_take, h4]) (by simp only [aev, cv, cvc, flat_sl, ownsV_sl, ownsL_nil, ownsL_cons, List.append_nil, Bool.or_true, List.isEmpty_nil, ← List.map_drop, ← List.map_take, h4]) ?_; simp only [awpOpsD_one, isCallV, awpOpD_is, callWD_is, callVD_is, putK_is, put_s, slot_is, keepOp, pureOp, apureO, sliceA_sl, boundsA, aev, cv, cvc, elO_s, loadA_p, Bool.false_eq_true, ↓reduceIte, List.getElem?_cons_zero, List.getElem?_cons_succ, List.length_cons, List.length_nil, List.map_cons, List.map_nil, List.append_nil, Option.map_some, Option.map_none, Bool.true_and, true_and, ne_eq, not_false_eq_true, reduceCtorEq, Nat.reduceAdd, Nat.reduceEqDiff, Nat.zero_add, Ty.td3, Ty.td22, Ty.td24, List.length_map, ← List.map_drop, ← List.map_take, h4]
  refine ⟨by omega, by omega, ?_⟩
  refine calld_meets (cloneInts (ds.drop ((ds.length : Int) - r).toNat) (by simp; omega)) (by simp only [aev, cv, cvc, toD_sl, consO_some, toDL_nil, toDL_cons]) (by simp only [aev, cv, cvc, flat_sl, ownsV_sl, ownsL_nil, ownsL_cons, List.append_nil, Bool.or_true, List.isEmpty_nil]) ?_; simp only [awp_ret, seqQ_n, awpOpsD_nil, awpOpsD_one, awpOpD_is, putK_is, put_s, slot_is, retA_is, keepOp, pureOp, apureO, aev, cv, cvc, toD_c, toD_tup, toD_sl, consO_some, toDL_nil, toDL_cons, notExit, resA_nil, resA_tmp, oneA_2, ↓reduceIte, Option.map_some, Bool.and_self, and_self, Nat.reduceEqDiff]

theorem refSplit (e : ByteArray) (ds xs : List Int) (r : Int) (hd : ds.length ≤ 1000000) (hx : xs.length ≤ 1000000) (hr : r ≤ 9223372036854775807) : Meets Try.prog 12 [arr e ds xs, I r] (three (splitE (e, ds, xs) r)) := by
  have hv := refValid e ds xs hd hx
  unfold splitE
  simp only
  generalize checkE e ds xs = k at *
  by_cases hk : k = 0
  case neg =>
    rw [if_pos hk]
    refine Meets.weak (r0 := .tup [.nils, .nils, I 1]) ?_ err3
    rw [show (k == 0) = false by simpa using hk] at hv
    refine meets_of (X := false) Ty.mixed Try.func12 (by kernel_rfl) rfl (by kernel_rfl) (by simp) ?_; rw [Try.ntmps12, Try.results12]
    simp only [awp_reg, awp_seq, seqQ_n, awpOps_nil, awpOps_one, awpOp_is, isCallV, callW_is, callV_is, putK_is, updK_is, put_s, upd_s, slot_is, pureOp, apureO, astepO, killT, aev, cv, cvc, elO_s, loadA_p, cellsA, cellOk, argT, Bool.false_eq_true, ↓reduceIte, List.getElem?_cons_zero, List.length_cons, List.length_nil, List.map_cons, List.map_nil, List.nil_append, List.append_nil, List.take_succ_cons, List.drop_zero, Bool.true_and, true_and, Nat.reduceAdd, Nat.reduceEqDiff, Nat.zero_add, Nat.le_refl, List.take_nil, Ty.td24]
    refine call_meets (hv) (by simp only [aev, cv, cvc, toD_c, toD_agg, toD_sl, consO_some, toDL_nil, toDL_cons, Option.map_some]) ?_; simp only [awp_reg, awp_seq, awp_cond, awp_ret, seqQ_n, seqQ_r, awpOps_nil, awpOps_one, awpOp_is, putK_is, put_s, upd_s, slot_is, retA_is, pureOp, apureO, killT, aev, cv, cvc, condA_t, flat_c, ownsV_c, ownsV_agg, ownsV_sl, ownsL_nil, ownsL_cons, toD_c, toD_nils, toD_tup, consO_some, toDL_nil, toDL_cons, notExit, resA_nil, resA_tmp, oneA_2, ↓reduceIte, List.append_nil, Option.map_some, Bool.and_self, Bool.or_true, Bool.not_false, and_self, Nat.reduceEqDiff, List.isEmpty_nil]
  subst hk
  rw [if_neg (by simp)]
  rw [beq_self_eq_true] at hv
  by_cases h1 : r < 0
  · rw [if_pos (Or.inl h1)]
    refine Meets.weak (r0 := .tup [.nils, .nils, I 13]) ?_ err3
    refine meets_of (X := false) Ty.mixed Try.func12 (by kernel_rfl) rfl (by kernel_rfl) (by simp) ?_; rw [Try.ntmps12, Try.results12]
    simp only [awp_reg, awp_seq, seqQ_n, awpOps_nil, awpOps_one, awpOp_is, isCallV, callW_is, callV_is, putK_is, updK_is, put_s, upd_s, slot_is, pureOp, apureO, astepO, killT, aev, cv, cvc, elO_s, loadA_p, cellsA, cellOk, argT, Bool.false_eq_true, ↓reduceIte, List.getElem?_cons_zero, List.length_cons, List.length_nil, List.map_cons, List.map_nil, List.nil_append, List.append_nil, List.take_succ_cons, List.drop_zero, Bool.true_and, true_and, Nat.reduceAdd, Nat.reduceEqDiff, Nat.zero_add, Nat.le_refl, List.take_nil, Ty.td24]
    refine call_meets (hv) (by simp only [aev, cv, cvc, toD_c, toD_agg, toD_sl, consO_some, toDL_nil, toDL_cons, Option.map_some, h1]) ?_; simp only [awp_skip, awp_reg, awp_seq, awp_cond, awp_ret, seqQ_n, seqQ_r, awpOps_nil, awpOps_one, awpOps_if, awpOp_is, putK_is, put_s, upd_s, slot_is, retA_is, pureOp, apureO, killT, aev, cv, cvc, binK, yieldA, guardA_ft, condA_t, condA_f, pickA_t, flat_c, ownsV_c, ownsV_agg, ownsV_sl, ownsL_nil, ownsL_cons, toD_c, toD_nils, toD_tup, consO_some, toDL_nil, toDL_cons, notExit, resA_nil, resA_tmp, oneA_2, ↓reduceIte, List.getElem?_cons_zero, List.getElem?_cons_succ, List.append_nil, List.getElem?_toArray, Option.bind_some, Option.map_some, Bool.and_self, Bool.or_true, Bool.not_true, and_self, reduceCtorEq, Nat.reduceEqDiff, List.isEmpty_nil, decide_true, h1]
  by_cases h2 : (ds.length : Int) < r
  · rw [if_pos (Or.inr h2)]
    refine Meets.weak (r0 := .tup [.nils, .nils, I 13]) ?_ err3
    refine meets_of (X := false) Ty.mixed Try.func12 (by kernel_rfl) rfl (by kernel_rfl) (by simp) ?_; rw [Try.ntmps12, Try.results12]
    simp only [awp_reg, awp_seq, seqQ_n, awpOps_nil, awpOps_one, awpOp_is, isCallV, callW_is, callV_is, putK_is, updK_is, put_s, upd_s, slot_is, pureOp, apureO, astepO, killT, aev, cv, cvc, elO_s, loadA_p, cellsA, cellOk, argT, Bool.false_eq_true, ↓reduceIte, List.getElem?_cons_zero, List.length_cons, List.length_nil, List.map_cons, List.map_nil, List.nil_append, List.append_nil, List.take_succ_cons, List.drop_zero, Bool.true_and, true_and, Nat.reduceAdd, Nat.reduceEqDiff, Nat.zero_add, Nat.le_refl, List.take_nil, Ty.td24]
    refine call_meets (hv) (by simp only [aev, cv, cvc, toD_c, toD_agg, toD_sl, consO_some, toDL_nil, toDL_cons, Option.map_some, h1, h2]) ?_; simp only [awp_skip, awp_reg, awp_seq, awp_cond, awp_ret, seqQ_n, seqQ_r, awpOps_nil, awpOps_one, awpOps_if, awpOp_is, awpO_is, putK_is, put_s, upd_s, slot_is, retA_is, pureOp, apureO, killT, aev, cv, cvc, binK, elO_s, elO_none, lenA, lenK, loadA_p, yieldA, guardA_ff, condA_t, condA_f, pickA_f, flat_c, ownsV_c, ownsV_agg, ownsV_sl, ownsL_nil, ownsL_cons, toD_c, toD_nils, toD_tup, consO_some, toDL_nil, toDL_cons, notExit, resA_nil, resA_tmp, oneA_2, Bool.false_eq_true, ↓reduceIte, List.getElem?_cons_zero, List.getElem?_cons_succ, List.length_cons, List.length_nil, List.append_nil, List.getElem?_toArray, Option.bind_some, Option.map_some, Bool.and_true, Bool.true_and, Bool.and_self, Bool.or_true, Bool.not_true, true_and, and_true, and_self, ne_eq, not_false_eq_true, reduceCtorEq, Nat.reduceAdd, Nat.reduceEqDiff, Nat.zero_add, List.isEmpty_nil, Option.isSome_some, decide_true, decide_false, Ty.td22, Ty.td24, h1, h2, List.length_map]
  rw [if_neg (by omega)]
  have hw : IntKind.i64.wrap ((ds.length : Int) - r) = ((ds.length : Int) - r) := wrap_in (by omega) (by omega)
  have h4 : List.take (ds.length - ((ds.length : Int) - r).toNat) (ds.drop ((ds.length : Int) - r).toNat) = ds.drop ((ds.length : Int) - r).toNat := List.take_of_length_le (by simp)
  refine meets_of (X := false) Ty.mixed Try.func12 (by kernel_rfl) rfl (by kernel_rfl) (by simp) ?_; rw [Try.ntmps12, Try.results12]
  simp only [awp_reg, awp_seq, seqQ_n, awpOps_nil, awpOps_one, awpOp_is, isCallV, callW_is, callV_is, putK_is, updK_is, put_s, upd_s, slot_is, pureOp, apureO, astepO, killT, aev, cv, cvc, elO_s, loadA_p, cellsA, cellOk, argT, Bool.false_eq_true, ↓reduceIte, List.getElem?_cons_zero, List.length_cons, List.length_nil, List.map_cons, List.map_nil, List.nil_append, List.append_nil, List.take_succ_cons, List.drop_zero, Bool.true_and, true_and, Nat.reduceAdd, Nat.reduceEqDiff, Nat.zero_add, Nat.le_refl, List.take_nil, Ty.td24]
  refine call_meets (hv) (by simp only [aev, cv, cvc, toD_c, toD_agg, toD_sl, consO_some, toDL_nil, toDL_cons, Option.map_some, h1, h2, hw, ← List.map_drop, ← List.map_take]) ?_; simp only [awp_skip, awp_reg, awp_regD, awp_seq, awp_cond, seqQ_n, awpOps_nil, awpOps_one, awpOps_if, awpOpsD_one, awpOp_is, isCallV, awpOpD_is, callWD_is, callVD_is, awpO_is, lastOnly_nil, lastOnly_cons, putK_is, put_s, upd_s, slot_is, keepOp, pureOp, apureO, sliceA_sl, boundsA, killT, aev, cv, cvc, binK, elO_s, elO_none, lenA, lenK, loadA_p, yieldA, guardA_ff, condA_f, pickA_f, flat_c, ownsV_c, ownsV_agg, ownsV_sl, ownsL_nil, ownsL_cons, Bool.false_eq_true, ↓reduceIte, List.getElem?_cons_zero, List.getElem?_cons_succ, List.length_cons, List.length_nil, List.map_cons, List.map_nil, List.append_nil, List.getElem?_toArray, Option.bind_some, Option.map_some, Option.map_none, List.drop_zero, Bool.true_and, Bool.or_true, Bool.not_true, true_and, ne_eq, not_false_eq_true, reduceCtorEq, Nat.reduceAdd, Nat.reduceEqDiff, Nat.zero_add, Nat.sub_zero, List.isEmpty_nil, Option.isSome_some, decide_false, Ty.td3, Ty.td22, Ty.td24, h1, h2, List.length_map, hw, ← List.map_drop, ← List.map_take]
  refine ⟨by omega, by omega, ?_⟩
  refine calld_meets (refCopy (ds.take ((ds.length : Int) - r).toNat) (by simp; omega)) (by simp only [aev, cv, cvc, toD_sl, consO_some, toDL_nil, toDL_cons, ← List.map_drop, ← List.map_take, h4]) (by simp only [aev, cv, cvc, flat_sl, ownsV_sl, ownsL_nil, ownsL_cons, List.append_nil, Bool.or_true, List.isEmpty_nil, ← List.map_drop, ← List.map_take, h4]) ?_; simp only [awpOpsD_one, isCallV, awpOpD_is, callWD_is, callVD_is, putK_is, put_s, slot_is, keepOp, pureOp, apureO, sliceA_sl, boundsA, aev, cv, cvc, elO_s, loadA_p, Bool.false_eq_true, ↓reduceIte, List.getElem?_cons_zero, List.getElem?_cons_succ, List.length_cons, List.length_nil, List.map_cons, List.map_nil, List.append_nil, Option.map_some, Option.map_none, Bool.true_and, true_and, ne_eq, not_false_eq_true, reduceCtorEq, Nat.reduceAdd, Nat.reduceEqDiff, Nat.zero_add, Ty.td3, Ty.td22, Ty.td24, List.length_map, ← List.map_drop, ← List.map_take, h4]
  refine ⟨by omega, by omega, ?_⟩
  refine calld_meets (refCopy (ds.drop ((ds.length : Int) - r).toNat) (by simp; omega)) (by simp only [aev, cv, cvc, toD_sl, consO_some, toDL_nil, toDL_cons]) (by simp only [aev, cv, cvc, flat_sl, ownsV_sl, ownsL_nil, ownsL_cons, List.append_nil, Bool.or_true, List.isEmpty_nil]) ?_; simp only [awp_ret, seqQ_n, awpOpsD_nil, awpOpsD_one, awpOpD_is, putK_is, put_s, slot_is, retA_is, keepOp, pureOp, apureO, aev, cv, cvc, toD_c, toD_tup, toD_sl, consO_some, toDL_nil, toDL_cons, notExit, resA_nil, resA_tmp, oneA_2, ↓reduceIte, Option.map_some, Bool.and_self, and_self, Nat.reduceEqDiff]
end Go.Proofs.Ytoobaeebgnbpjaa.B1
