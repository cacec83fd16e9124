/- Arrays: Index. -/
import Derived.Test.YtimagnkdgpfamaaA2
namespace Go.Proofs.Ytimagnkdgpfamaa.A8
open Go Go.Proofs.Ytimagnkdgpfamaa.Eng Go.Proofs.Ytimagnkdgpfamaa Go.RowKit Go.Proofs.Ytimagnkdgpfamaa.A1 Go.Proofs.Ytimagnkdgpfamaa.A2
set_option linter.unusedSimpArgs false
set_option linter.unusedVariables false
set_option linter.unusedSectionVars false
set_option maxRecDepth 100000

/-- The index of an offset, and what is left of the offset, from the last dimension on. -/
def idxR : List Int → Int → List Int × Int
  | [], o => ([], o)
  | d :: ds, o => ((idxR ds o).2.tmod d :: (idxR ds o).1, IntKind.i64.wrap ((idxR ds o).2.tdiv d))
def indexE (ds : List Int) (o : Int) : List Int × Int :=
  if (sizeE ds).2 ≠ 0 then ([], (sizeE ds).2) else if o < 0 ∨ (sizeE ds).1 ≤ o then ([], 2) else ((idxR ds o).1, 0)
abbrev twoL (x : List Int × Int) : AV := .tup [ints x.1, I x.2]
theorem twoL_imp {k : Int} (ok : Nat → Prop) (w : World) (v : Value) (h : RepD ok w (.tup [.nils, I k]) v) : RepD ok w (twoL ([], k)) v :=
  tup_imp (fun _ => cons_imp (fun _ => nil_imp) fun _ h => h) h

theorem idxR_len : ∀ (ds : List Int) (o : Int), (idxR ds o).1.length = ds.length
  | [], _ => rfl
  | d :: ds, o => by simp [idxR, idxR_len ds o]

theorem nonzero {ds : List Int} {n o : Int} (h : sizeE ds = (n, 0)) (h0 : 0 ≤ o) (h1 : o < n) : ∀ d ∈ ds, d ≠ 0 := by
  unfold sizeE at h
  split at h
  · simp at h
  split at h
  · simp at h
  split at h
  · simp at h; omega
  rename_i hz
  intro d hd e
  subst e
  exact hz (List.any_eq_true.2 ⟨0, hd, by simp⟩)

theorem backward (zs : List Int) : Meets Try.prog 75 [ints zs] (.fn 79 [.dptr [ints zs]]) := by
  refine meets_of (X := false) Ty.mixed Try.func75 (by kernel_rfl) rfl (by kernel_rfl) (by simp) ?_; rw [Try.ntmps75, Try.results75]
  simp only [awp_reg, awp_seq, awp_ret, seqQ_n, awpOps_nil, awpOps_one, awpOp_is, isCallV, putK_is, updK_is, put_s, upd_s, slot_is, retA_is, pureOp, apureO, astepO, killT, aev, cv, cvc, cellsA, cellOk, isD_sl, isDL_nil, isDL_cons, toD_fn, toD_ptr, consO_some, toDL_nil, toDL_cons, notExit, resA_nil, resA_tmp, oneA_1, argT, Bool.false_eq_true, ↓reduceIte, List.getElem?_cons_zero, List.length_nil, List.map_cons, List.map_nil, List.nil_append, Option.map_some, List.drop_zero, Bool.and_self, and_self, Nat.reduceEqDiff, List.size_toArray]

/-- The row behind the rounds: j places are left. -/
def rowAt (ds : List Int) (o : Int) (j : Nat) : List Int := List.replicate j 0 ++ (idxR (ds.drop j) o).1
theorem rowAt_len {ds : List Int} {o : Int} {j : Nat} (h : j ≤ ds.length) : (rowAt ds o j).length = ds.length := by
  rw [rowAt, List.length_append, List.length_replicate, idxR_len, List.length_drop]; omega
theorem rowAt_step {ds : List Int} {o : Int} {i : Nat} (h : i < ds.length) : (rowAt ds o (i + 1)).set i ((idxR (ds.drop (i + 1)) o).2.tmod ds[i]) = rowAt ds o i ∧ (idxR (ds.drop i) o).2 = IntKind.i64.wrap ((idxR (ds.drop (i + 1)) o).2.tdiv ds[i]) := by
  rw [rowAt, rowAt, List.drop_eq_getElem_cons h, idxR]
  refine ⟨?_, rfl⟩
  apply List.ext_getElem?
  intro k
  simp only [List.getElem?_set, List.getElem?_append, List.length_append, List.length_replicate, List.getElem?_replicate, List.length_cons]
  grind

theorem index (ds : List Int) (o : Int) (hd : ds.length ≤ 1000000) : Meets Try.prog 69 [ints ds, I o] (twoL (indexE ds o)) := by
  have hs := size ds hd
  have hnz := @nonzero ds
  unfold indexE
  generalize sizeE ds = s at *
  obtain ⟨n, e⟩ := s
  simp only at hnz ⊢
  by_cases he : e = 0
  case neg =>
    rw [if_pos he]
    refine Meets.weak (r0 := .tup [.nils, I e]) ?_ twoL_imp
    refine meets_of (X := false) Ty.mixed Try.func69 (by kernel_rfl) rfl (by kernel_rfl) (by simp) ?_; rw [Try.ntmps69, Try.results69]
    simp only [awp_reg, awp_seq, seqQ_n, awpOps_nil, awpOps_one, awpOp_is, isCallV, callW_is, callV_is, putK_is, updK_is, put_s, upd_s, slot_is, pureOp, apureO, astepO, killT, aev, cv, cvc, cellsA, cellOk, argT, Bool.false_eq_true, ↓reduceIte, List.length_nil, List.map_cons, List.map_nil, List.nil_append, List.append_nil, Bool.true_and, Value.oneCell', true_and, reduceCtorEq, Nat.zero_add]
    refine call_meets (hs) (by simp only [aev, cv, cvc, toD_sl, consO_some, toDL_nil, toDL_cons, show (e != 0) = true by simpa using he] <;> rfl) ?_; simp only [awp_reg, awp_seq, awp_cond, awp_ret, seqQ_n, seqQ_r, awpOps_nil, awpOps_one, awpOp_is, putK_is, put_s, upd_s, slot_is, retA_is, pureOp, apureO, killT, aev, cv, cvc, binK, elO_s, condA_t, flat_c, flat_tup, flatL_nil, flatL_cons, ownsV_sl, ownsL_nil, ownsL_cons, toD_c, toD_nils, toD_tup, consO_some, toDL_nil, toDL_cons, notExit, resA_nil, resA_tmp, oneA_2, ↓reduceIte, List.getElem?_cons_zero, List.getElem?_cons_succ, List.append_nil, Option.map_some, Bool.and_self, Bool.or_true, and_self, Nat.reduceEqDiff, List.isEmpty_nil, show (e != 0) = true by simpa using he]
  subst he
  rw [if_neg (by simp)]
  by_cases h1 : o < 0
  · rw [if_pos (Or.inl h1)]
    refine Meets.weak (r0 := .tup [.nils, I 2]) ?_ twoL_imp
    refine meets_of (X := false) Ty.mixed Try.func69 (by kernel_rfl) rfl (by kernel_rfl) (by simp) ?_; rw [Try.ntmps69, Try.results69]
    simp only [awp_reg, awp_seq, seqQ_n, awpOps_nil, awpOps_one, awpOp_is, isCallV, callW_is, callV_is, putK_is, updK_is, put_s, upd_s, slot_is, pureOp, apureO, astepO, killT, aev, cv, cvc, cellsA, cellOk, argT, Bool.false_eq_true, ↓reduceIte, List.length_nil, List.map_cons, List.map_nil, List.nil_append, List.append_nil, Bool.true_and, Value.oneCell', true_and, reduceCtorEq, Nat.zero_add]
    refine call_meets (hs) (by simp only [aev, cv, cvc, toD_sl, consO_some, toDL_nil, toDL_cons, h1] <;> rfl) ?_; simp only [awp_skip, awp_reg, awp_seq, awp_cond, awp_ret, seqQ_n, seqQ_r, awpOps_nil, awpOps_one, awpOps_if, awpOp_is, putK_is, put_s, upd_s, slot_is, retA_is, pureOp, apureO, killT, aev, cv, cvc, binK, elO_s, loadA_p, yieldA, guardA_ft, condA_t, condA_f, pickA_t, flat_c, flat_tup, flatL_nil, flatL_cons, ownsV_sl, ownsL_nil, ownsL_cons, toD_c, toD_nils, toD_tup, consO_some, toDL_nil, toDL_cons, notExit, resA_nil, resA_tmp, oneA_2, Bool.false_eq_true, ↓reduceIte, List.getElem?_cons_zero, List.getElem?_cons_succ, List.length_cons, List.length_nil, List.append_nil, List.getElem?_toArray, Option.bind_some, Option.map_some, List.drop_zero, Bool.and_self, Bool.or_true, and_self, Nat.reduceEqDiff, Nat.zero_add, List.isEmpty_nil, decide_true, Ty.td3, bne_self_eq_false, h1]
  by_cases h2 : n ≤ o
  · rw [if_pos (Or.inr h2)]
    refine Meets.weak (r0 := .tup [.nils, I 2]) ?_ twoL_imp
    refine meets_of (X := false) Ty.mixed Try.func69 (by kernel_rfl) rfl (by kernel_rfl) (by simp) ?_; rw [Try.ntmps69, Try.results69]
    simp only [awp_reg, awp_seq, seqQ_n, awpOps_nil, awpOps_one, awpOp_is, isCallV, callW_is, callV_is, putK_is, updK_is, put_s, upd_s, slot_is, pureOp, apureO, astepO, killT, aev, cv, cvc, cellsA, cellOk, argT, Bool.false_eq_true, ↓reduceIte, List.length_nil, List.map_cons, List.map_nil, List.nil_append, List.append_nil, Bool.true_and, Value.oneCell', true_and, reduceCtorEq, Nat.zero_add]
    refine call_meets (hs) (by simp only [aev, cv, cvc, toD_sl, consO_some, toDL_nil, toDL_cons, h1, h2] <;> rfl) ?_; simp only [awp_skip, awp_reg, awp_seq, awp_cond, awp_ret, seqQ_n, seqQ_r, awpOps_nil, awpOps_one, awpOps_if, awpOp_is, awpO_is, putK_is, put_s, upd_s, slot_is, retA_is, pureOp, apureO, killT, aev, cv, cvc, binK, elO_s, loadA_p, yieldA, guardA_ff, condA_t, condA_f, pickA_f, flat_c, flat_tup, flatL_nil, flatL_cons, ownsV_sl, ownsL_nil, ownsL_cons, toD_c, toD_nils, toD_tup, consO_some, toDL_nil, toDL_cons, notExit, resA_nil, resA_tmp, oneA_2, Bool.false_eq_true, ↓reduceIte, List.getElem?_cons_zero, List.getElem?_cons_succ, List.length_cons, List.length_nil, List.append_nil, List.getElem?_toArray, Option.bind_some, Option.map_some, List.drop_zero, Bool.and_self, Bool.or_true, and_self, Nat.reduceEqDiff, Nat.zero_add, List.isEmpty_nil, decide_true, decide_false, Ty.td3, bne_self_eq_false, h1, h2]
  rw [if_neg (by omega)]
  have hnz' := @hnz n o rfl (by omega) (by omega)
  have hb := backward ds
  refine meets_of (X := false) Ty.mixed Try.func69 (by kernel_rfl) rfl (by kernel_rfl) (by simp) ?_; rw [Try.ntmps69, Try.results69]
  simp only [awp_reg, awp_seq, seqQ_n, awpOps_nil, awpOps_one, awpOp_is, isCallV, callW_is, callV_is, putK_is, updK_is, put_s, upd_s, slot_is, pureOp, apureO, astepO, killT, aev, cv, cvc, cellsA, cellOk, argT, Bool.false_eq_true, ↓reduceIte, List.length_nil, List.map_cons, List.map_nil, List.nil_append, List.append_nil, Bool.true_and, Value.oneCell', true_and, reduceCtorEq, Nat.zero_add]
  refine call_meets (hs) (by simp only [aev, cv, cvc, toD_sl, consO_some, toDL_nil, toDL_cons, h1, h2] <;> rfl) ?_; simp only [awp_skip, awp_reg, awp_seq, awp_cond, seqQ_n, awpOps_nil, awpOps_one, awpOps_if, awpOp_is, isCallV, callW_is, callV_is, awpO_is, putK_is, updK_is, put_s, upd_n, upd_s, slot_is, pureOp, apureO, astepO, killT, aev, cv, cvc, binK, elO_s, lenA, lenK, loadA_p, storeA, cellsA, cellOk, setAll, yieldA, guardA_ff, condA_f, pickA_f, flat_c, flat_tup, flatL_nil, flatL_cons, ownsV_sl, ownsL_nil, ownsL_cons, Int.natCast_nonneg, Bool.false_eq_true, ↓reduceIte, List.getElem?_cons_zero, List.getElem?_cons_succ, List.length_cons, List.length_nil, List.map_cons, List.map_nil, List.cons_append, List.nil_append, List.append_nil, List.set_cons_zero, List.set_cons_succ, List.getElem?_toArray, Option.bind_some, List.drop_zero, List.all_cons, List.all_nil, Bool.true_and, Bool.and_self, Bool.or_true, Value.oneCell', true_and, and_self, reduceCtorEq, Nat.reduceAdd, Nat.reduceLT, Nat.reduceEqDiff, Nat.zero_add, List.isEmpty_nil, Int.toNat_natCast, Option.isSome_some, decide_false, Nat.le_refl, Int.le_refl, Ty.td3, Ty.td22, bne_self_eq_false, h1, h2, List.length_map]
  refine ⟨by omega, by omega, ?_⟩
  refine call_meets (hb) (by simp only [aev, cv, cvc, toD_sl, consO_some, toDL_nil, toDL_cons] <;> rfl) ?_; simp only [awp_range, awp_block, seqQ_n, awpOps_nil, upd_s, killT, aev, cv, cvc, flat_fn, ownsV_sl, ownsL_nil, ownsL_cons, ↓reduceIte, List.append_nil, Bool.or_true, List.isEmpty_nil]
  refine range_inl (X := false) Ty.mixed rfl Try.func79 (by kernel_rfl) rfl (by kernel_rfl) (by rw [Try.results79]) (by simp) (by kernel_rfl) (by kernel_rfl) (by kernel_rfl) (by kernel_rfl) (by simp) ?_; intro l; rw [Try.ntmps79]; simp only [awp_reg, awp_seq, awp_block, awp_loop, seqQ_n, awpOps_nil, awpOps_one, awpOp_is, shiftT, putK_is, put_s, slot_is, pureOp, apureO, aev, cv, cvc, binK, elO_s, elO_none, lenA, lenK, loadA_d, argT, Bool.false_eq_true, ↓reduceIte, List.getElem?_cons_zero, List.length_cons, List.length_nil, List.cons_append, List.nil_append, Bool.true_and, true_and, reduceCtorEq, Nat.reduceAdd, Nat.zero_add, Nat.add_zero, Option.isSome_some, Ty.td22, List.length_map, wrap_in (x := (ds.length : Int) - 1) (by omega) (by omega)]
  have e0 : (rowAt ds o ds.length).map enc = List.replicate ds.length [.c (.int .i64 0)] := by rw [rowAt, List.drop_length, idxR, List.append_nil, List.map_replicate]
  have e1 : (idxR (ds.drop ds.length) o).2 = o := by rw [List.drop_length, idxR]
  refine loop_k (fun j : Nat => j ≤ ds.length) (fun j => ⟨19, [(3, I ((j : Int) - 1)), (0, .c (.func (.yield l) #[] #[])), (1, .dptr [ints ds]), (27, .ptr 2 0), (22, .ptr 0 0)], [some (.var 3 [I (idxR (ds.drop j) o).2]), some (.row 3 1 ((rowAt ds o j).map enc)), some (.var 22 [.own 1 1 ds.length])]⟩) (fun j => j) ds.length (Nat.le_refl _) (by simp only [slot_is, aev, cv, cvc, Weak, ↓reduceIte, Bool.and_self, and_self, reduceCtorEq, Nat.reduceEqDiff]) rfl (by simp only [e0, e1]) ?_
  intro j hj K hK
  simp only at hK
  cases j with
  | zero =>
    have ht : List.take ds.length (List.map enc (idxR ds o).1) = List.map enc (idxR ds o).1 := List.take_of_length_le (by rw [List.length_map, idxR_len]; exact Nat.le_refl _)
    simp only [rangeQ_is, awp_reg, awp_seq, awp_cond, awp_exit, awp_ret, seqQ_n, seqQ_e, loopQ_e, blkQ_n, blkQ_e, awpOps_nil, awpOps_one, awpOp_is, unshift, putK_is, put_s, slot_is, retA_is, pureOp, apureO, aev, cv, cvc, binK, elO_s, loadA_p, condA_f, elemsA, toD_c, toD_tup, toD_agg, toD_own, consO_some, toDL_nil, toDL_cons, notExit, resA_nil, resA_tmp, oneA_2, Bool.false_eq_true, ↓reduceIte, List.getElem?_cons_zero, List.getElem?_cons_succ, List.length_cons, List.length_nil, Option.map_some, List.drop_zero, Bool.true_and, Bool.and_self, true_and, and_self, Nat.reduceLeDiff, Nat.reduceEqDiff, Nat.reduceSub, Nat.zero_add, Nat.le_refl, Ty.td22, show ((0 : Nat) : Int) - 1 = -1 by omega, show decide ((0 : Int) ≤ -1) = false by decide, List.length_map, idxR_len ds o, ht, show rowAt ds o 0 = (idxR ds o).1 from rfl]
  | succ i =>
    have hi : i < ds.length := by omega
    have hd0 := hnz' ds[i] (List.getElem_mem _)
    have hx : ds[i]? = some ds[i] := List.getElem?_eq_getElem hi
    obtain ⟨s1, s2⟩ := rowAt_step (o := o) hi
    generalize ds[i] = d at *
    have hlen := rowAt_len (o := o) (show i + 1 ≤ ds.length from hj)
    have hrow : (rowAt ds o (i + 1))[i]? = some ((rowAt ds o (i + 1))[i]'(by omega)) := List.getElem?_eq_getElem _
    generalize (rowAt ds o (i + 1))[i]'(by omega) = old at *
    have hset : (List.map enc (rowAt ds o (i + 1))).set i [.c (.int .i64 ((idxR (ds.drop (i + 1)) o).2.tmod d))] = List.map enc (rowAt ds o i) := by rw [← s1, List.map_set]
    simp only [callV_yield, bodyY_is, roundQ_is, zipT, lowT, awp_skip, awp_reg, awp_regD, awp_seq, awp_cond, awp_block, seqQ_n, loopQ_n, blkQ_n, awpOps_nil, awpOps_one, awpOpsD_one, awpOp_is, isCallV, callW_is, shiftT, unshift, awpOpD_is, lastOnly_cons, putK_is, updK_is, put_s, upd_n, slot_is, keepOp, pureOp, apureO, astepO, killT, aev, cv, cvc, binK, elO_s, loadA_d, loadA_p, storeA, cellsA, cellOk, setAll, condA_t, condA_f, isD_c, isDL_nil, isDL_cons, Int.natCast_nonneg, Bool.false_eq_true, ↓reduceIte, List.getElem?_cons_zero, List.getElem?_cons_succ, List.length_cons, List.length_nil, List.map_cons, List.map_nil, List.cons_append, List.nil_append, List.set_cons_zero, List.set_cons_succ, Option.map_some, List.drop_zero, Bool.true_and, Bool.and_self, Bool.not_true, Value.oneCell', true_and, and_self, ne_eq, not_false_eq_true, reduceCtorEq, Nat.reduceAdd, Nat.reduceLT, Nat.reduceLeDiff, Nat.reduceEqDiff, Nat.reduceSub, Nat.zero_add, Nat.add_zero, List.isEmpty_nil, Int.toNat_natCast, decide_true, Nat.le_refl, List.size_toArray, Ty.td3, Ty.td22, show (((i + 1 : Nat)) : Int) - 1 = (i : Int) by omega, List.getElem?_map, hx, hd0, hrow, hi, Nat.mul_one, Nat.div_one, Nat.mod_one, hset, ← s2, wrap_in (x := (i : Int) - 1) (by omega) (by omega)]
    refine hK i _ (by omega) (by omega) ?_ rfl rfl
    simp only [slot_is, aev, cv, cvc, Weak, ↓reduceIte, Bool.and_self, and_self, reduceCtorEq, Nat.reduceEqDiff]

theorem refIndex (ds : List Int) (o : Int) (hd : ds.length ≤ 1000000) : Meets Try.prog 50 [ints ds, I o] (twoL (indexE ds o)) := by
  have hs := refSize ds hd
  have hnz := @nonzero ds
  unfold indexE
  generalize sizeE ds = s at *
  obtain ⟨n, e⟩ := s
  simp only at hnz ⊢
  by_cases he : e = 0
  case neg =>
    rw [if_pos he]
    refine Meets.weak (r0 := .tup [.nils, I e]) ?_ twoL_imp
    refine meets_of (X := false) Ty.mixed Try.func50 (by kernel_rfl) rfl (by kernel_rfl) (by simp) ?_; rw [Try.ntmps50, Try.results50]
    simp only [awp_reg, awp_seq, seqQ_n, awpOps_nil, awpOps_one, awpOp_is, isCallV, callW_is, callV_is, putK_is, put_s, slot_is, pureOp, apureO, aev, cv, cvc, argT, Bool.false_eq_true, ↓reduceIte, List.map_cons, List.map_nil, List.append_nil, reduceCtorEq, Nat.zero_add]
    refine call_meets (hs) (by simp only [aev, cv, cvc, toD_sl, consO_some, toDL_nil, toDL_cons, show (e != 0) = true by simpa using he] <;> rfl) ?_; simp only [awp_reg, awp_seq, awp_cond, awp_ret, seqQ_n, seqQ_r, awpOps_nil, awpOps_one, awpOp_is, putK_is, put_s, upd_s, slot_is, retA_is, pureOp, apureO, killT, aev, cv, cvc, binK, elO_s, condA_t, flat_c, flat_tup, flatL_nil, flatL_cons, ownsV_sl, ownsL_nil, ownsL_cons, toD_c, toD_nils, toD_tup, consO_some, toDL_nil, toDL_cons, notExit, resA_nil, resA_tmp, oneA_2, ↓reduceIte, List.getElem?_cons_zero, List.getElem?_cons_succ, List.append_nil, Option.map_some, Bool.and_self, Bool.or_true, and_self, Nat.reduceEqDiff, List.isEmpty_nil, show (e != 0) = true by simpa using he]
  subst he
  rw [if_neg (by simp)]
  by_cases h1 : o < 0
  · rw [if_pos (Or.inl h1)]
    refine Meets.weak (r0 := .tup [.nils, I 2]) ?_ twoL_imp
    refine meets_of (X := false) Ty.mixed Try.func50 (by kernel_rfl) rfl (by kernel_rfl) (by simp) ?_; rw [Try.ntmps50, Try.results50]
    simp only [awp_reg, awp_seq, seqQ_n, awpOps_nil, awpOps_one, awpOp_is, isCallV, callW_is, callV_is, putK_is, put_s, slot_is, pureOp, apureO, aev, cv, cvc, argT, Bool.false_eq_true, ↓reduceIte, List.map_cons, List.map_nil, List.append_nil, reduceCtorEq, Nat.zero_add]
    refine call_meets (hs) (by simp only [aev, cv, cvc, toD_sl, consO_some, toDL_nil, toDL_cons, h1] <;> rfl) ?_; simp only [awp_skip, awp_reg, awp_seq, awp_cond, awp_ret, seqQ_n, seqQ_r, awpOps_nil, awpOps_one, awpOps_if, awpOp_is, putK_is, put_s, upd_s, slot_is, retA_is, pureOp, apureO, killT, aev, cv, cvc, binK, elO_s, yieldA, guardA_ft, condA_t, condA_f, pickA_t, flat_c, flat_tup, flatL_nil, flatL_cons, ownsV_sl, ownsL_nil, ownsL_cons, toD_c, toD_nils, toD_tup, consO_some, toDL_nil, toDL_cons, notExit, resA_nil, resA_tmp, oneA_2, ↓reduceIte, List.getElem?_cons_zero, List.getElem?_cons_succ, List.append_nil, List.getElem?_toArray, Option.bind_some, Option.map_some, Bool.and_self, Bool.or_true, and_self, reduceCtorEq, Nat.reduceEqDiff, List.isEmpty_nil, decide_true, bne_self_eq_false, h1]
  by_cases h2 : n ≤ o
  · rw [if_pos (Or.inr h2)]
    refine Meets.weak (r0 := .tup [.nils, I 2]) ?_ twoL_imp
    refine meets_of (X := false) Ty.mixed Try.func50 (by kernel_rfl) rfl (by kernel_rfl) (by simp) ?_; rw [Try.ntmps50, Try.results50]
    simp only [awp_reg, awp_seq, seqQ_n, awpOps_nil, awpOps_one, awpOp_is, isCallV, callW_is, callV_is, putK_is, put_s, slot_is, pureOp, apureO, aev, cv, cvc, argT, Bool.false_eq_true, ↓reduceIte, List.map_cons, List.map_nil, List.append_nil, reduceCtorEq, Nat.zero_add]
    refine call_meets (hs) (by simp only [aev, cv, cvc, toD_sl, consO_some, toDL_nil, toDL_cons, h1, h2] <;> rfl) ?_; simp only [awp_skip, awp_reg, awp_seq, awp_cond, awp_ret, seqQ_n, seqQ_r, awpOps_nil, awpOps_one, awpOps_if, awpOp_is, awpO_is, putK_is, put_s, upd_s, slot_is, retA_is, pureOp, apureO, killT, aev, cv, cvc, binK, elO_s, yieldA, guardA_ff, condA_t, condA_f, pickA_f, flat_c, flat_tup, flatL_nil, flatL_cons, ownsV_sl, ownsL_nil, ownsL_cons, toD_c, toD_nils, toD_tup, consO_some, toDL_nil, toDL_cons, notExit, resA_nil, resA_tmp, oneA_2, ↓reduceIte, List.getElem?_cons_zero, List.getElem?_cons_succ, List.append_nil, List.getElem?_toArray, Option.bind_some, Option.map_some, Bool.and_self, Bool.or_true, and_self, reduceCtorEq, Nat.reduceEqDiff, List.isEmpty_nil, decide_true, decide_false, bne_self_eq_false, h1, h2]
  rw [if_neg (by omega)]
  have hnz' := @hnz n o rfl (by omega) (by omega)
  refine meets_of (X := false) Ty.mixed Try.func50 (by kernel_rfl) rfl (by kernel_rfl) (by simp) ?_; rw [Try.ntmps50, Try.results50]
  simp only [awp_reg, awp_seq, seqQ_n, awpOps_nil, awpOps_one, awpOp_is, isCallV, callW_is, callV_is, putK_is, put_s, slot_is, pureOp, apureO, aev, cv, cvc, argT, Bool.false_eq_true, ↓reduceIte, List.map_cons, List.map_nil, List.append_nil, reduceCtorEq, Nat.zero_add]
  refine call_meets (hs) (by simp only [aev, cv, cvc, toD_sl, consO_some, toDL_nil, toDL_cons, h1, h2, wrap_in (x := (ds.length : Int) - 1) (by omega) (by omega)] <;> rfl) ?_; simp only [awp_skip, awp_reg, awp_seq, awp_cond, awp_block, awp_loop, seqQ_n, awpOps_nil, awpOps_one, awpOps_if, awpOp_is, isCallV, awpO_is, putK_is, updK_is, put_s, upd_s, slot_is, pureOp, apureO, astepO, killT, aev, cv, cvc, binK, elO_s, lenA, lenK, yieldA, guardA_ff, condA_f, pickA_f, flat_c, flat_tup, flatL_nil, flatL_cons, ownsV_sl, ownsL_nil, ownsL_cons, Int.natCast_nonneg, Bool.false_eq_true, ↓reduceIte, List.getElem?_cons_zero, List.getElem?_cons_succ, List.length_cons, List.length_nil, List.map_cons, List.map_nil, List.nil_append, List.append_nil, List.getElem?_toArray, Option.bind_some, List.all_cons, List.all_nil, Bool.true_and, Bool.and_self, Bool.or_true, Value.oneCell', true_and, and_self, reduceCtorEq, Nat.reduceLT, Nat.reduceEqDiff, Nat.zero_add, List.isEmpty_nil, Int.toNat_natCast, Option.isSome_some, decide_false, Int.le_refl, Ty.td3, Ty.td22, bne_self_eq_false, h1, h2, List.length_map, wrap_in (x := (ds.length : Int) - 1) (by omega) (by omega)]
  refine ⟨by omega, by omega, ?_⟩
  have e0 : (rowAt ds o ds.length).map enc = List.replicate ds.length [.c (.int .i64 0)] := by rw [rowAt, List.drop_length, idxR, List.append_nil, List.map_replicate]
  have e1 : (idxR (ds.drop ds.length) o).2 = o := by rw [List.drop_length, idxR]
  refine loop_k (fun j : Nat => j ≤ ds.length) (fun j => ⟨51, [(9, I ((j : Int) - 1)), (8, .own 0 1 ds.length), (1, I (idxR (ds.drop j) o).2), (0, ints ds)], [some (.row 3 1 ((rowAt ds o j).map enc))]⟩) (fun j => j) ds.length (Nat.le_refl _) (by simp only [slot_is, aev, cv, cvc, Weak, ↓reduceIte, Bool.and_self, and_self, reduceCtorEq, Nat.reduceEqDiff, e1]) rfl (by simp only [e0]) ?_
  intro j hj K hK
  simp only at hK
  cases j with
  | zero =>
    have ht : List.take ds.length (List.map enc (idxR ds o).1) = List.map enc (idxR ds o).1 := List.take_of_length_le (by rw [List.length_map, idxR_len]; exact Nat.le_refl _)
    simp only [awp_reg, awp_seq, awp_cond, awp_exit, awp_ret, seqQ_n, seqQ_e, loopQ_e, blkQ_e, awpOps_nil, awpOps_one, awpOp_is, putK_is, put_s, slot_is, retA_is, pureOp, apureO, aev, cv, cvc, binK, condA_f, elemsA, toD_c, toD_tup, toD_own, consO_some, toDL_nil, toDL_cons, notExit, resA_nil, resA_tmp, oneA_2, ↓reduceIte, List.getElem?_cons_zero, Option.map_some, List.drop_zero, Bool.and_self, and_self, Nat.reduceEqDiff, Nat.le_refl, show ((0 : Nat) : Int) - 1 = -1 by omega, show decide ((0 : Int) ≤ -1) = false by decide, List.length_map, idxR_len ds o, ht, show rowAt ds o 0 = (idxR ds o).1 from rfl]
  | succ i =>
    have hi : i < ds.length := by omega
    have hd0 := hnz' ds[i] (List.getElem_mem _)
    have hx : ds[i]? = some ds[i] := List.getElem?_eq_getElem hi
    obtain ⟨s1, s2⟩ := rowAt_step (o := o) hi
    generalize ds[i] = d at *
    have hlen := rowAt_len (o := o) (show i + 1 ≤ ds.length from hj)
    have hrow : (rowAt ds o (i + 1))[i]? = some ((rowAt ds o (i + 1))[i]'(by omega)) := List.getElem?_eq_getElem _
    generalize (rowAt ds o (i + 1))[i]'(by omega) = old at *
    have hset : (List.map enc (rowAt ds o (i + 1))).set i [.c (.int .i64 ((idxR (ds.drop (i + 1)) o).2.tmod d))] = List.map enc (rowAt ds o i) := by rw [← s1, List.map_set]
    simp only [awp_skip, awp_reg, awp_seq, awp_cond, awp_block, seqQ_n, loopQ_n, blkQ_n, awpOps_nil, awpOps_one, awpOp_is, isCallV, putK_is, updK_is, put_s, upd_n, slot_is, pureOp, apureO, astepO, killT, aev, cv, cvc, binK, elO_s, loadA_d, storeA, cellsA, cellOk, setAll, condA_t, isD_c, isDL_nil, isDL_cons, Int.natCast_nonneg, Bool.false_eq_true, ↓reduceIte, List.getElem?_cons_zero, List.length_cons, List.length_nil, List.set_cons_zero, Option.map_some, Bool.true_and, Bool.and_self, Value.oneCell', true_and, and_self, ne_eq, not_false_eq_true, reduceCtorEq, Nat.reduceEqDiff, Nat.zero_add, Int.toNat_natCast, decide_true, Nat.le_refl, Ty.td3, Ty.td22, show (((i + 1 : Nat)) : Int) - 1 = (i : Int) by omega, List.getElem?_map, hx, hd0, hrow, hi, Nat.mul_one, Nat.div_one, Nat.mod_one, hset, ← s2, wrap_in (x := (i : Int) - 1) (by omega) (by omega)]
    refine hK i _ (by omega) (by omega) ?_ rfl rfl
    simp only [slot_is, aev, cv, cvc, Weak, ↓reduceIte, Bool.and_self, and_self, reduceCtorEq, Nat.reduceEqDiff]

theorem refOffset (ds is : List Int) (hd : ds.length ≤ 1000000) (hn : is.length ≤ 1000000) : Meets Try.prog 44 [ints ds, ints is] (two (offsetE ds is)) := by
  have hs := refSize ds hd
  refine meets_of (X := false) Ty.mixed Try.func44 (by kernel_rfl) rfl (by kernel_rfl) (by simp) ?_; rw [Try.ntmps44, Try.results44]
  unfold offsetE
  generalize sizeE ds = s at *
  obtain ⟨n, e⟩ := s
  simp only [awp_reg, awp_seq, seqQ_n, awpOps_nil, awpOps_one, awpOp_is, isCallV, callW_is, callV_is, putK_is, put_s, slot_is, pureOp, apureO, aev, cv, cvc, argT, Bool.false_eq_true, ↓reduceIte, List.map_cons, List.map_nil, List.append_nil, ne_eq, reduceCtorEq, Nat.zero_add]
  by_cases he : e = 0
  case neg => refine call_meets (hs) (by simp only [aev, cv, cvc, toD_sl, consO_some, toDL_nil, toDL_cons, he, show (e != 0) = true by simpa using he] <;> rfl) ?_; simp only [awp_reg, awp_seq, awp_cond, awp_ret, seqQ_n, seqQ_r, awpOps_nil, awpOps_one, awpOp_is, putK_is, put_s, upd_s, slot_is, retA_is, pureOp, apureO, killT, aev, cv, cvc, binK, elO_s, condA_t, flat_c, flat_tup, flatL_nil, flatL_cons, ownsV_sl, ownsL_nil, ownsL_cons, toD_c, toD_tup, consO_some, toDL_nil, toDL_cons, notExit, resA_nil, resA_tmp, oneA_2, ↓reduceIte, List.getElem?_cons_zero, List.getElem?_cons_succ, List.append_nil, Option.map_some, Bool.and_self, Bool.or_true, and_self, not_false_eq_true, Nat.reduceEqDiff, List.isEmpty_nil, he, show (e != 0) = true by simpa using he]
  subst he
  by_cases hl : is.length = ds.length
  case neg =>
    have h1 : (((is.length : Nat) : Int) != ((ds.length : Nat) : Int)) = true := by simp; omega
    refine call_meets (hs) (by simp only [aev, cv, cvc, toD_sl, consO_some, toDL_nil, toDL_cons, h1] <;> rfl) ?_; simp only [awp_skip, awp_reg, awp_seq, awp_cond, awp_ret, seqQ_n, seqQ_r, awpOps_nil, awpOps_one, awpOp_is, putK_is, put_s, upd_s, slot_is, retA_is, pureOp, apureO, killT, aev, cv, cvc, binK, elO_s, lenA, lenK, condA_t, condA_f, flat_c, flat_tup, flatL_nil, flatL_cons, ownsV_sl, ownsL_nil, ownsL_cons, toD_c, toD_tup, consO_some, toDL_nil, toDL_cons, notExit, resA_nil, resA_tmp, oneA_2, ↓reduceIte, List.getElem?_cons_zero, List.getElem?_cons_succ, List.append_nil, Option.map_some, Bool.true_and, Bool.and_self, Bool.or_true, true_and, and_self, not_true_eq_false, reduceCtorEq, Nat.reduceEqDiff, List.isEmpty_nil, Option.isSome_some, Ty.td22, bne_self_eq_false, List.length_map, h1]
    simp [hl]
  have h1 : (((is.length : Nat) : Int) != ((ds.length : Nat) : Int)) = false := by simp [hl]
  refine call_meets (hs) (by simp only [aev, cv, cvc, toD_sl, consO_some, toDL_nil, toDL_cons, h1] <;> rfl) ?_; simp only [awp_skip, awp_reg, awp_seq, awp_cond, awp_block, awp_loop, seqQ_n, awpOps_nil, awpOps_one, awpOp_is, putK_is, put_s, upd_s, slot_is, pureOp, apureO, killT, aev, cv, cvc, binK, elO_s, lenA, lenK, condA_f, flat_c, flat_tup, flatL_nil, flatL_cons, ownsV_sl, ownsL_nil, ownsL_cons, ↓reduceIte, List.getElem?_cons_zero, List.getElem?_cons_succ, List.append_nil, Bool.true_and, Bool.and_self, Bool.or_true, true_and, and_self, not_true_eq_false, reduceCtorEq, Nat.reduceEqDiff, List.isEmpty_nil, Option.isSome_some, Ty.td22, bne_self_eq_false, List.length_map, h1]
  refine loop_k (fun x : Nat × Int => x.1 ≤ ds.length ∧ offE ds is 0 = offE (ds.drop x.1) (is.drop x.1) x.2) (fun x => ⟨57, [(9, I x.1), (8, I x.2), (0, ints ds), (1, ints is)], []⟩) (fun x => ds.length - x.1) (0, 0) ⟨Nat.zero_le _, rfl⟩ (by simp only [slot_is, aev, cv, cvc, Weak, ↓reduceIte, Bool.and_true, Bool.and_self, and_true, and_self, reduceCtorEq, Nat.reduceEqDiff]; simp) rfl rfl ?_
  rintro ⟨k, n⟩ ⟨hk, hi⟩ K hK
  simp only at hk hi hK
  simp only [awp_reg, awp_seq, awp_cond, seqQ_n, awpOps_nil, awpOps_one, awpOp_is, putK_is, put_s, slot_is, pureOp, apureO, aev, cv, cvc, binK, elO_s, lenA, lenK, ↓reduceIte, Bool.true_and, true_and, reduceCtorEq, Nat.reduceEqDiff, Option.isSome_some, Ty.td22, List.length_map]
  refine condA_dec (fun hlt => ?_) (fun hge => ?_)
  · have hlt2 : k < ds.length := by omega
    have hlt' : k < is.length := by omega
    have hx : is[k]? = some is[k] := List.getElem?_eq_getElem hlt'
    have hy : ds[k]? = some ds[k] := List.getElem?_eq_getElem hlt2
    rw [off_step hlt2 hlt'] at hi
    generalize is[k] = x at *
    generalize ds[k] = y at *
    by_cases h1 : x < 0
    · rw [if_pos (Or.inl h1)] at hi
      simp only [awp_skip, awp_reg, awp_regD, awp_seq, awp_cond, awp_block, awp_ret, seqQ_n, seqQ_r, loopQ_r, blkQ_r, awpOps_nil, awpOps_one, awpOpsD_nil, awpOpsD_one, awpOpsD_if, awpOp_is, awpOpD_is, lastOnly_nil, lastOnly_cons, putK_is, put_s, slot_is, retA_is, keepOp, pureOp, apureO, aev, cv, cvc, binK, elO_s, loadA_d, yieldA, guardA_ft, condA_t, pickA_t, toD_c, toD_tup, consO_some, toDL_nil, toDL_cons, notExit, resA_nil, resA_tmp, oneA_2, Int.natCast_nonneg, Bool.false_eq_true, ↓reduceIte, List.getElem?_cons_zero, List.getElem?_cons_succ, List.getElem?_toArray, Option.bind_some, Option.map_some, Bool.true_and, true_and, reduceCtorEq, Nat.reduceEqDiff, Int.toNat_natCast, decide_true, Ty.td3, Ty.td22, List.getElem?_map, hx, hy, h1]
      rw [hi]
      simp [hl]
    by_cases h2 : y ≤ x
    · rw [if_pos (Or.inr h2)] at hi
      simp only [awp_skip, awp_reg, awp_regD, awp_seq, awp_cond, awp_block, awp_ret, seqQ_n, seqQ_r, loopQ_r, blkQ_r, awpOps_nil, awpOps_one, awpOpsD_nil, awpOpsD_one, awpOpsD_if, awpOp_is, awpOpD_is, awpOD_is, lastOnly_nil, lastOnly_cons, putK_is, put_s, slot_is, retA_is, keepOp, pureOp, apureO, aev, cv, cvc, binK, elO_s, loadA_d, yieldA, guardA_ff, condA_t, pickA_f, toD_c, toD_tup, consO_some, toDL_nil, toDL_cons, notExit, resA_nil, resA_tmp, oneA_2, Int.natCast_nonneg, Bool.false_eq_true, ↓reduceIte, List.getElem?_cons_zero, List.getElem?_cons_succ, List.getElem?_toArray, Option.bind_some, Option.map_some, Bool.true_and, true_and, reduceCtorEq, Nat.reduceEqDiff, Int.toNat_natCast, decide_true, decide_false, Ty.td3, Ty.td22, List.getElem?_map, hx, hy, h1, h2]
      rw [hi]
      simp [hl]
    rw [if_neg (by omega)] at hi
    simp only [awp_skip, awp_reg, awp_regD, awp_seq, awp_cond, awp_block, seqQ_n, loopQ_n, blkQ_n, awpOps_nil, awpOps_one, awpOpsD_nil, awpOpsD_one, awpOpsD_if, awpOp_is, awpOpD_is, awpOD_is, lastOnly_nil, lastOnly_cons, putK_is, put_s, slot_is, keepOp, pureOp, apureO, aev, cv, cvc, binK, elO_s, loadA_d, yieldA, guardA_ff, condA_f, pickA_f, Int.natCast_nonneg, Bool.false_eq_true, ↓reduceIte, List.getElem?_cons_zero, List.getElem?_cons_succ, List.getElem?_toArray, Option.bind_some, Option.map_some, Bool.true_and, true_and, reduceCtorEq, Nat.reduceEqDiff, Int.toNat_natCast, decide_false, Ty.td3, Ty.td22, List.getElem?_map, hx, hy, h1, h2, wrap_in (x := (k : Int) + 1) (by omega) (by omega)]
    refine hK (k + 1, IntKind.i64.wrap (IntKind.i64.wrap (n * y) + x)) _ ⟨hlt2, hi⟩ (by simp; omega) ?_ rfl rfl
    simp only [slot_is, aev, cv, cvc, Weak, ↓reduceIte, Bool.and_true, Bool.and_self, and_true, and_self, reduceCtorEq, Nat.reduceEqDiff]
    simp
  · have hk' : k = ds.length := by omega
    simp only [awp_reg, awp_seq, awp_exit, awp_ret, seqQ_n, seqQ_e, loopQ_e, blkQ_e, awpOps_nil, awpOps_one, awpOp_is, putK_is, put_s, slot_is, retA_is, pureOp, apureO, aev, cv, cvc, toD_c, toD_tup, consO_some, toDL_nil, toDL_cons, notExit, resA_nil, resA_tmp, oneA_2, ↓reduceIte, Option.map_some, Bool.true_and, true_and, Nat.reduceEqDiff]
    rw [hi, hk', List.drop_length]
    simp [offE, hl]
end Go.Proofs.Ytimagnkdgpfamaa.A8
