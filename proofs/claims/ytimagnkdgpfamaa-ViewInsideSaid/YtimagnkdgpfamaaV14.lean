/- Views: the law ViewInside. -/
import Derived.Test.YtimagnkdgpfamaaV13
import Derived.Test.YtimagnkdgpfamaaV8
import Derived.Test.YtimagnkdgpfamaaEngIn
namespace Go.Proofs.Ytimagnkdgpfamaa.V14
open Go Go.Proofs.Ytimagnkdgpfamaa.Eng Go.Proofs.Ytimagnkdgpfamaa Go.RowKit Go.Proofs.Ytimagnkdgpfamaa.A1 Go.Proofs.Ytimagnkdgpfamaa.A2 Go.Proofs.Ytimagnkdgpfamaa.A3 Go.Proofs.Ytimagnkdgpfamaa.A4 Go.Proofs.Ytimagnkdgpfamaa.A5 Go.Proofs.Ytimagnkdgpfamaa.A8 Go.Proofs.Ytimagnkdgpfamaa.A10 Go.Proofs.Ytimagnkdgpfamaa.V1 Go.Proofs.Ytimagnkdgpfamaa.V2 Go.Proofs.Ytimagnkdgpfamaa.V3 Go.Proofs.Ytimagnkdgpfamaa.V4 Go.Proofs.Ytimagnkdgpfamaa.V5 Go.Proofs.Ytimagnkdgpfamaa.V6 Go.Proofs.Ytimagnkdgpfamaa.V7 Go.Proofs.Ytimagnkdgpfamaa.V8 Go.Proofs.Ytimagnkdgpfamaa.V11 Go.Proofs.Ytimagnkdgpfamaa.V12 Go.Proofs.Ytimagnkdgpfamaa.V13
set_option linter.unusedSimpArgs false
set_option linter.unusedVariables false
set_option linter.unusedSectionVars false
set_option maxRecDepth 100000

theorem refSizeL (zs : List Int) (h : (6 : Int) < zs.length) : Meets Try.prog 28 [ints zs] (two (0, 13)) := by
  refine meets_of (X := false) Ty.mixed Try.func28 (by kernel_rfl) rfl (by kernel_rfl) (by simp) ?_; rw [Try.ntmps28, Try.results28]
  simp only [awp_reg, awp_seq, awp_cond, awp_ret, seqQ_n, seqQ_r, awpOps_nil, awpOps_one, awpOp_is, putK_is, put_s, slot_is, retA_is, pureOp, apureO, aev, cv, cvc, binK, elO_s, lenA, lenK, condA_t, toD_c, toD_tup, consO_some, toDL_nil, toDL_cons, notExit, resA_nil, resA_tmp, oneA_2, argT, ↓reduceIte, Option.map_some, Bool.and_true, Bool.true_and, Bool.and_self, true_and, and_true, and_self, reduceCtorEq, Nat.reduceEqDiff, Option.isSome_some, decide_true, Ty.td22, List.length_map, h]

theorem doAny (o : Int) (ds ss : List Int) (k n : Int) (hd : ds.length ≤ 1000) (hs : ss.length ≤ 1000) : Meets Try.prog 21 [vw o ds ss, .agg [I k, I n]] (tupV (stp k n o ds ss)) := by
  by_cases hk : 1 ≤ k ∧ k ≤ 7
  · exact doP o ds ss k n hk.1 hk.2 hd hs
  have n1 : k ≠ 1 := by omega
  have n2 : k ≠ 2 := by omega
  have n3 : k ≠ 3 := by omega
  have n4 : k ≠ 4 := by omega
  have n5 : k ≠ 5 := by omega
  have n6 : k ≠ 6 := by omega
  have c := vchu o ds ss hd hs n
  rw [show stp k n o ds ss = stepE o ds ss 1 (chuC (lst ds 1) (lst ss 1) n) by simp [stp, n1, n2, n3, n4, n5, n6]]
  generalize stepE o ds ss 1 (chuC (lst ds 1) (lst ss 1) n) = r at *
  refine meets_of (X := true) Ty.mixed Try.func21 (by kernel_rfl) rfl (by kernel_rfl) (by simp) ?_; rw [Try.ntmps21, Try.results21]
  simp only [awp_skip, awp_reg, awp_seq, awp_cond, awp_block, seqQ_n, blkQ_n, awpOps_nil, awpOps_one, awpOp_is, isCallV, callW_is, callV_is, putK_is, updK_is, put_s, upd_s, slot_is, pureOp, apureO, astepO, killT, aev, cv, cvc, binK, elO_s, loadA_p, cellsA, cellOk, condA_f, argT, Bool.false_eq_true, ↓reduceIte, List.getElem?_cons_zero, List.getElem?_cons_succ, List.length_cons, List.length_nil, List.map_cons, List.map_nil, List.cons_append, List.nil_append, List.append_nil, List.take_succ_cons, List.drop_zero, List.all_cons, List.all_nil, Bool.true_and, Bool.and_self, Value.oneCell', true_and, and_self, ne_eq, not_false_eq_true, reduceCtorEq, Nat.reduceAdd, Nat.reduceEqDiff, Nat.zero_add, Nat.le_refl, List.take_nil, Ty.td3, Ty.td28, Ty.td45, show (k == 1) = false by simpa using n1, show (k == 2) = false by simpa using n2, show (k == 3) = false by simpa using n3, show (k == 4) = false by simpa using n4, show (k == 5) = false by simpa using n5, show (k == 6) = false by simpa using n6]
  refine call_meets (c) (by simp only [aev, cv, cvc, toD_c, toD_agg, toD_sl, consO_some, toDL_nil, toDL_cons, Option.map_some]) ?_; simp only [awp_ret, seqQ_n, awpOps_nil, awpOps_one, awpOp_is, isCallV, putK_is, updK_is, put_s, upd_n, upd_s, slot_is, retA_is, pureOp, apureO, astepO, killT, aev, cv, cvc, elO_s, loadA_p, storeA, cellsA, cellOk, setAll, flat_c, flat_tup, flat_agg, flat_sl, flatL_nil, flatL_cons, ownsV_c, ownsV_agg, ownsV_sl, ownsL_nil, ownsL_cons, toD_c, toD_tup, toD_agg, toD_sl, consO_some, toDL_nil, toDL_cons, notExit, resA_nil, resA_tmp, resA_cell, oneA_2, Bool.false_eq_true, ↓reduceIte, List.getElem?_cons_zero, List.getElem?_cons_succ, List.length_cons, List.length_nil, List.append_nil, List.set_cons_zero, List.set_cons_succ, Option.map_some, List.take_succ_cons, List.drop_zero, Bool.and_true, Bool.true_and, Bool.and_false, Bool.and_self, Bool.or_true, true_and, and_true, and_self, Nat.reduceAdd, Nat.reduceEqDiff, Nat.zero_add, List.isEmpty_nil, Nat.le_refl, List.take_nil, Ty.td28]

abbrev encS (x : Int × Int) : List AV := [I x.1, I x.2]
abbrev stepsV (l : List (Int × Int)) : AV := .sl false 2 (l.map encS)

set_option maxHeartbeats 2000000 in
theorem law (ds : List Int) (l : List (Int × Int)) (hd : ds.length ≤ maxLen) (hl : l.length ≤ maxLen) : Meets Try.prog 6 [ints ds, stepsV l] (B true) := by
  have hd' : ds.length ≤ 9223372036854775807 := Nat.le_trans hd (by unfold maxLen; omega)
  have hl' : l.length ≤ 9223372036854775807 := Nat.le_trans hl (by unfold maxLen; omega)
  have ha := awake
  by_cases h8 : (8 : Int) < ds.length
  · have hz := refSizeL ds (by omega)
    refine meets_of (X := true) Ty.mixed Try.func6 (by kernel_rfl) rfl (by kernel_rfl) (by simp) ?_; rw [Try.ntmps6, Try.results6]
    simp only [awp_reg, awp_seq, seqQ_n, awpOps_nil, awpOps_one, awpOp_is, isCallV, callW_is, callV_is, putK_is, put_s, pureOp, apureO, aev, cv, cvc, argT, Bool.false_eq_true, ↓reduceIte, List.map_nil, List.append_nil, Nat.zero_add]
    refine call_meets (ha) (by simp only [aev, cv, cvc, toDL_nil]) ?_; simp only [awp_skip, awp_reg, awp_seq, awp_cond, seqQ_n, awpOps_nil, awpOps_one, awpOp_is, isCallV, callW_is, callV_is, putK_is, put_s, upd_s, slot_is, pureOp, apureO, killT, aev, cv, cvc, condA_f, flat_c, ownsL_nil, Bool.false_eq_true, ↓reduceIte, List.map_cons, List.map_nil, List.append_nil, Bool.or_true, Bool.not_true, reduceCtorEq, List.isEmpty_nil]
    refine call_meets (hz) (by simp only [aev, cv, cvc, toD_sl, consO_some, toDL_nil, toDL_cons, h8]) ?_; simp only [awp_reg, awp_seq, awp_cond, awp_ret, seqQ_n, seqQ_r, awpOps_nil, awpOps_one, awpOps_if, awpOp_is, putK_is, put_s, upd_s, slot_is, retA_is, pureOp, apureO, killT, aev, cv, cvc, binK, elO_s, lenA, lenK, yieldA, guardA_ft, condA_t, pickA_t, flat_c, flat_tup, flatL_nil, flatL_cons, ownsV_sl, ownsL_nil, ownsL_cons, toD_c, notExit, resA_nil, resA_tmp, oneA_1, ↓reduceIte, List.getElem?_cons_zero, List.getElem?_cons_succ, List.append_nil, List.getElem?_toArray, Option.bind_some, Bool.and_true, Bool.true_and, Bool.and_self, Bool.or_true, true_and, and_true, and_self, reduceCtorEq, Nat.reduceEqDiff, List.isEmpty_nil, Option.isSome_some, decide_true, Ty.td22, List.length_map, h8]
  have hz := refSize ds (by omega)
  have hb := sizeE_bound ds
  by_cases hl8 : (8 : Int) < l.length
  · generalize sizeE ds = z at *
    refine meets_of (X := true) Ty.mixed Try.func6 (by kernel_rfl) rfl (by kernel_rfl) (by simp) ?_; rw [Try.ntmps6, Try.results6]
    simp only [awp_reg, awp_seq, seqQ_n, awpOps_nil, awpOps_one, awpOp_is, isCallV, callW_is, callV_is, putK_is, put_s, pureOp, apureO, aev, cv, cvc, argT, Bool.false_eq_true, ↓reduceIte, List.map_nil, List.append_nil, Nat.zero_add]
    refine call_meets (ha) (by simp only [aev, cv, cvc, toDL_nil]) ?_; simp only [awp_skip, awp_reg, awp_seq, awp_cond, seqQ_n, awpOps_nil, awpOps_one, awpOp_is, isCallV, callW_is, callV_is, putK_is, put_s, upd_s, slot_is, pureOp, apureO, killT, aev, cv, cvc, condA_f, flat_c, ownsL_nil, Bool.false_eq_true, ↓reduceIte, List.map_cons, List.map_nil, List.append_nil, Bool.or_true, Bool.not_true, reduceCtorEq, List.isEmpty_nil]
    refine call_meets (hz) (by simp only [aev, cv, cvc, toD_sl, consO_some, toDL_nil, toDL_cons, h8, hl8]) ?_; simp only [awp_reg, awp_seq, awp_cond, awp_ret, seqQ_n, seqQ_r, awpOps_nil, awpOps_one, awpOps_if, awpOp_is, awpO_is, putK_is, put_s, upd_s, slot_is, retA_is, pureOp, apureO, killT, aev, cv, cvc, binK, elO_s, lenA, lenK, yieldA, guardA_ft, guardA_ff, condA_t, pickA_t, pickA_f, flat_c, flat_tup, flatL_nil, flatL_cons, ownsV_sl, ownsL_nil, ownsL_cons, toD_c, notExit, resA_nil, resA_tmp, oneA_1, ↓reduceIte, List.getElem?_cons_zero, List.getElem?_cons_succ, List.append_nil, List.getElem?_toArray, Option.bind_some, Bool.and_true, Bool.true_and, Bool.and_self, Bool.or_true, true_and, and_true, and_self, reduceCtorEq, Nat.reduceEqDiff, List.isEmpty_nil, Option.isSome_some, decide_true, decide_false, Ty.td22, Ty.td58, List.length_map, h8, hl8]
  by_cases he : (sizeE ds).2 = 0
  case neg =>
    generalize sizeE ds = z at *
    refine meets_of (X := true) Ty.mixed Try.func6 (by kernel_rfl) rfl (by kernel_rfl) (by simp) ?_; rw [Try.ntmps6, Try.results6]
    simp only [awp_reg, awp_seq, seqQ_n, awpOps_nil, awpOps_one, awpOp_is, isCallV, callW_is, callV_is, putK_is, put_s, pureOp, apureO, aev, cv, cvc, argT, Bool.false_eq_true, ↓reduceIte, List.map_nil, List.append_nil, Nat.zero_add]
    refine call_meets (ha) (by simp only [aev, cv, cvc, toDL_nil]) ?_; simp only [awp_skip, awp_reg, awp_seq, awp_cond, seqQ_n, awpOps_nil, awpOps_one, awpOp_is, isCallV, callW_is, callV_is, putK_is, put_s, upd_s, slot_is, pureOp, apureO, killT, aev, cv, cvc, condA_f, flat_c, ownsL_nil, Bool.false_eq_true, ↓reduceIte, List.map_cons, List.map_nil, List.append_nil, Bool.or_true, Bool.not_true, reduceCtorEq, List.isEmpty_nil]
    refine call_meets (hz) (by simp only [aev, cv, cvc, toD_sl, consO_some, toDL_nil, toDL_cons, h8, hl8, show (z.2 != 0) = true by simpa using he]) ?_; simp only [awp_reg, awp_seq, awp_cond, awp_ret, seqQ_n, seqQ_r, awpOps_nil, awpOps_one, awpOps_if, awpOp_is, awpO_is, putK_is, put_s, upd_s, slot_is, retA_is, pureOp, apureO, killT, aev, cv, cvc, binK, elO_s, lenA, lenK, yieldA, guardA_ft, guardA_ff, condA_t, pickA_t, pickA_f, flat_c, flat_tup, flatL_nil, flatL_cons, ownsV_sl, ownsL_nil, ownsL_cons, toD_c, notExit, resA_nil, resA_tmp, oneA_1, ↓reduceIte, List.getElem?_cons_zero, List.getElem?_cons_succ, List.append_nil, List.getElem?_toArray, Option.bind_some, Bool.and_true, Bool.true_and, Bool.and_self, Bool.or_true, true_and, and_true, and_self, reduceCtorEq, Nat.reduceEqDiff, List.isEmpty_nil, Option.isSome_some, decide_false, Ty.td22, Ty.td58, List.length_map, h8, hl8, show (z.2 != 0) = true by simpa using he]
  have hsz : sizeE ds = ((sizeE ds).1, 0) := Prod.ext rfl he
  by_cases hn100 : (100 : Int) < (sizeE ds).1
  · generalize sizeE ds = z at *
    refine meets_of (X := true) Ty.mixed Try.func6 (by kernel_rfl) rfl (by kernel_rfl) (by simp) ?_; rw [Try.ntmps6, Try.results6]
    simp only [awp_reg, awp_seq, seqQ_n, awpOps_nil, awpOps_one, awpOp_is, isCallV, callW_is, callV_is, putK_is, put_s, pureOp, apureO, aev, cv, cvc, argT, Bool.false_eq_true, ↓reduceIte, List.map_nil, List.append_nil, Nat.zero_add]
    refine call_meets (ha) (by simp only [aev, cv, cvc, toDL_nil]) ?_; simp only [awp_skip, awp_reg, awp_seq, awp_cond, seqQ_n, awpOps_nil, awpOps_one, awpOp_is, isCallV, callW_is, callV_is, putK_is, put_s, upd_s, slot_is, pureOp, apureO, killT, aev, cv, cvc, condA_f, flat_c, ownsL_nil, Bool.false_eq_true, ↓reduceIte, List.map_cons, List.map_nil, List.append_nil, Bool.or_true, Bool.not_true, reduceCtorEq, List.isEmpty_nil]
    refine call_meets (hz) (by simp only [aev, cv, cvc, toD_sl, consO_some, toDL_nil, toDL_cons, h8, hl8, show (z.2 != 0) = false by simpa using he]) ?_; simp only [awp_reg, awp_seq, awp_cond, awp_ret, seqQ_n, seqQ_r, awpOps_nil, awpOps_one, awpOps_if, awpOp_is, awpO_is, putK_is, put_s, upd_s, slot_is, retA_is, pureOp, apureO, killT, aev, cv, cvc, binK, elO_s, lenA, lenK, yieldA, guardA_ff, condA_t, pickA_f, flat_c, flat_tup, flatL_nil, flatL_cons, ownsV_sl, ownsL_nil, ownsL_cons, toD_c, notExit, resA_nil, resA_tmp, oneA_1, ↓reduceIte, List.getElem?_cons_zero, List.getElem?_cons_succ, List.append_nil, List.getElem?_toArray, Option.bind_some, Bool.and_true, Bool.true_and, Bool.and_self, Bool.or_true, true_and, and_true, and_self, reduceCtorEq, Nat.reduceEqDiff, List.isEmpty_nil, Option.isSome_some, decide_true, decide_false, Ty.td22, Ty.td58, List.length_map, h8, hl8, show (z.2 != 0) = false by simpa using he, hn100]
  have hI := of_inv hsz
  have o1 := vof ds (by omega)
  rw [show ofV ds = ((0, ds, (strd ds).1), 0) by unfold ofV; rw [if_neg (by simp [he])]] at o1
  rw [hsz] at hz
  obtain ⟨hn0, -⟩ := hb
  have hn1 : (sizeE ds).1 ≤ 100 := by omega
  generalize (sizeE ds).1 = n at *
  have hsl := strd_len ds
  generalize (strd ds).1 = st at *
  refine meets_of (X := true) Ty.mixed Try.func6 (by kernel_rfl) rfl (by kernel_rfl) (by simp) ?_; rw [Try.ntmps6, Try.results6]
  simp only [awp_reg, awp_seq, seqQ_n, awpOps_nil, awpOps_one, awpOp_is, isCallV, callW_is, callV_is, putK_is, put_s, pureOp, apureO, aev, cv, cvc, argT, Bool.false_eq_true, ↓reduceIte, List.map_nil, List.append_nil, Nat.zero_add]
  refine call_meets (ha) (by simp only [aev, cv, cvc, toDL_nil]) ?_; simp only [awp_skip, awp_reg, awp_seq, awp_cond, seqQ_n, awpOps_nil, awpOps_one, awpOp_is, isCallV, callW_is, callV_is, putK_is, put_s, upd_s, slot_is, pureOp, apureO, killT, aev, cv, cvc, condA_f, flat_c, ownsL_nil, Bool.false_eq_true, ↓reduceIte, List.map_cons, List.map_nil, List.append_nil, Bool.or_true, Bool.not_true, reduceCtorEq, List.isEmpty_nil]
  refine call_meets (hz) (by simp only [aev, cv, cvc, toD_sl, consO_some, toDL_nil, toDL_cons, h8, hl8]) ?_; simp only [awp_skip, awp_reg, awp_seq, awp_cond, seqQ_n, awpOps_nil, awpOps_one, awpOps_if, awpOp_is, isCallV, callW_is, callV_is, awpO_is, putK_is, put_s, upd_s, slot_is, pureOp, apureO, killT, aev, cv, cvc, binK, elO_s, lenA, lenK, yieldA, guardA_ff, condA_f, pickA_f, flat_c, flat_tup, flatL_nil, flatL_cons, ownsV_sl, ownsL_nil, ownsL_cons, Bool.false_eq_true, ↓reduceIte, List.getElem?_cons_zero, List.getElem?_cons_succ, List.map_cons, List.map_nil, List.append_nil, List.getElem?_toArray, Option.bind_some, Bool.true_and, Bool.and_self, Bool.or_true, true_and, and_self, reduceCtorEq, Nat.reduceEqDiff, List.isEmpty_nil, Option.isSome_some, decide_false, Ty.td22, Ty.td58, List.length_map, h8, hl8, bne_self_eq_false, hn100]
  refine call_meets (o1) (by simp only [aev, cv, cvc, toD_sl, consO_some, toDL_nil, toDL_cons]) ?_; simp only [awp_skip, awp_reg, awp_seq, awp_cond, awp_block, awp_loop, seqQ_n, awpOps_nil, awpOps_one, awpOp_is, isCallV, putK_is, updK_is, put_s, upd_n, upd_s, slot_is, pureOp, apureO, astepO, killT, aev, cv, cvc, binK, elO_s, lenA, lenK, storeA, cellsA, cellOk, setAll, condA_f, flat_c, flat_tup, flat_agg, flat_sl, flatL_nil, flatL_cons, ownsV_sl, ownsL_nil, ownsL_cons, Bool.false_eq_true, ↓reduceIte, List.getElem?_cons_zero, List.getElem?_cons_succ, List.length_cons, List.length_nil, List.map_cons, List.map_nil, List.nil_append, List.append_nil, List.set_cons_zero, List.set_cons_succ, List.all_cons, List.all_nil, Bool.and_true, Bool.true_and, Bool.and_false, Bool.and_self, Bool.or_true, Value.oneCell', true_and, and_true, and_self, reduceCtorEq, Nat.reduceAdd, Nat.reduceEqDiff, Nat.zero_add, List.isEmpty_nil, Option.isSome_some, Nat.le_refl, Ty.td28, Ty.td58, bne_self_eq_false]
  refine loop_g (fun x : Nat × Int × List Int × List Int => x.1 ≤ l.length ∧ Inv n x.2.1 x.2.2.1 x.2.2.2) (fun x => ⟨85, [(47, I x.1), (46, I l.length), (45, stepsV l), (7, .ptr 0 0), (5, I n)], [some (.var 28 [I x.2.1, ints x.2.2.1, ints x.2.2.2])]⟩) (fun x => l.length - x.1) (0, 0, ds, st) ⟨Nat.zero_le _, hI⟩ (by simp only [slot_is, aev, cv, cvc, Weak, ↓reduceIte, Bool.and_true, Bool.and_self, and_true, and_self, Nat.reduceEqDiff, List.length_map]; simp) rfl (.inl rfl) ?_
  rintro ⟨j, o, es, ss⟩ ⟨hj, hi⟩ K hK
  simp only at hj hi hK
  simp only [awp_reg, awp_seq, awp_cond, seqQ_n, awpOps_nil, awpOps_one, awpOp_is, putK_is, put_s, slot_is, pureOp, apureO, aev, cv, cvc, binK, ↓reduceIte, Bool.true_and, true_and, Nat.reduceEqDiff]
  refine condA_dec (fun hlt => ?_) (fun hge => ?_)
  · have hlt' : j < l.length := by omega
    have hx : l[j]? = some l[j] := List.getElem?_eq_getElem hlt'
    generalize l[j] = x at *
    obtain ⟨k, y⟩ := x
    have hk1 : IntKind.i64.wrap ((j : Int) + 1) = (j : Int) + 1 := wrap_in (by omega) (by omega)
    obtain ⟨p1, p2, _⟩ := formed_dims hi.1
    have c1 := doAny o es ss k y (by omega) (by omega)
    have hv := stp_inv k y hn1 hi
    generalize stp k y o es ss = r at *
    obtain ⟨⟨o', es', ss'⟩, e⟩ := r
    simp only at hv
    by_cases he0 : e = 0
    case neg =>
      have hff := formed_ok hi.1
      obtain ⟨q1, q2, _⟩ := formed_dims hi.1
      obtain ⟨_, m, hm⟩ := hff
      have s1 := refSize es (by omega)
      rw [hm] at s1
      have v1 := vvalid n o es ss (by omega) (by omega)
      rw [inv_vv ⟨hn0, hn1⟩ hi] at v1
      have v2 := rvalid n o es ss (by omega) (by omega)
      rw [inv_rv ⟨hn0, hn1⟩ hi] at v2
      simp only [awp_skip, awp_reg, awp_seq, awp_block, seqQ_n, awpOps_nil, awpOps_one, awpOp_is, isCallV, callW_is, callV_is, putK_is, updK_is, put_s, upd_n, upd_s, slot_is, pureOp, apureO, astepO, killT, aev, cv, cvc, elO_s, loadA_d, loadA_p, storeA, cellsA, cellOk, setAll, Int.natCast_nonneg, Bool.false_eq_true, ↓reduceIte, List.getElem?_cons_zero, List.getElem?_cons_succ, List.length_cons, List.length_nil, List.map_cons, List.map_nil, List.cons_append, List.nil_append, List.append_nil, List.set_cons_zero, List.set_cons_succ, Option.map_some, List.take_succ_cons, List.drop_zero, List.all_cons, List.all_nil, Bool.true_and, Bool.and_self, Value.oneCell', true_and, and_self, Nat.reduceAdd, Nat.reduceEqDiff, Nat.zero_add, Int.toNat_natCast, Nat.le_refl, List.take_nil, Ty.td28, Ty.td45, Ty.td58, List.getElem?_map, hx, List.length_map]
      repeat refine ⟨by omega, ?_⟩
      refine call_meets (c1) (by simp only [aev, cv, cvc, toD_c, toD_agg, toD_sl, consO_some, toDL_nil, toDL_cons, Option.map_some, hk1, show (e == 0) = false by simpa using he0]) ?_; simp only [awp_skip, awp_reg, awp_seq, awp_cond, seqQ_n, awpOps_nil, awpOps_one, awpOp_is, isCallV, callW_is, callV_is, putK_is, updK_is, put_s, upd_n, upd_s, slot_is, pureOp, apureO, astepO, killT, aev, cv, cvc, binK, elO_s, loadA_p, storeA, cellsA, cellOk, setAll, condA_f, flat_c, flat_tup, flat_agg, flat_sl, flatL_nil, flatL_cons, ownsV_c, ownsV_agg, ownsV_sl, ownsL_nil, ownsL_cons, Bool.false_eq_true, ↓reduceIte, List.getElem?_cons_zero, List.getElem?_cons_succ, List.length_cons, List.length_nil, List.map_cons, List.map_nil, List.cons_append, List.nil_append, List.append_nil, List.set_cons_zero, List.set_cons_succ, List.all_cons, List.all_nil, Bool.and_true, Bool.true_and, Bool.and_false, Bool.and_self, Bool.or_true, Value.oneCell', true_and, and_true, and_self, ne_eq, not_false_eq_true, reduceCtorEq, Nat.reduceAdd, Nat.reduceEqDiff, Nat.zero_add, List.isEmpty_nil, Nat.le_refl, Ty.td22, Ty.td28, hk1, show (e == 0) = false by simpa using he0]
      refine call_meets (s1) (by simp only [aev, cv, cvc, toD_sl, consO_some, toDL_nil, toDL_cons]) ?_; simp only [awp_reg, awp_seq, seqQ_n, awpOps_nil, awpOps_one, awpOps_if, awpOp_is, isCallV, callW_is, callV_is, awpO_is, putK_is, put_s, upd_s, slot_is, pureOp, apureO, killT, aev, cv, cvc, binK, elO_s, loadA_p, yieldA, guardA_ff, flat_c, flat_tup, flatL_nil, flatL_cons, ownsV_sl, ownsL_nil, ownsL_cons, Bool.false_eq_true, ↓reduceIte, List.getElem?_cons_zero, List.getElem?_cons_succ, List.length_cons, List.length_nil, List.map_cons, List.map_nil, List.append_nil, List.getElem?_toArray, Option.bind_some, List.take_succ_cons, List.drop_zero, Bool.true_and, Bool.and_self, Bool.or_true, true_and, and_self, Nat.reduceAdd, Nat.reduceEqDiff, Nat.zero_add, List.isEmpty_nil, Nat.le_refl, List.take_nil, Ty.td28, bne_self_eq_false]
      by_cases h300 : (m : Int) ≤ 300
      · refine call_meets (v1) (by simp only [aev, cv, cvc, toD_c, toD_agg, toD_sl, consO_some, toDL_nil, toDL_cons, Option.map_some]) ?_; simp only [awpOps_one, awpOps_if, awpOp_is, isCallV, callW_is, callV_is, awpO_is, putK_is, put_s, upd_s, slot_is, pureOp, apureO, killT, aev, cv, cvc, binK, elO_s, loadA_p, yieldA, guardA_tt, guardA_ff, pickA_f, flat_c, ownsV_c, ownsV_agg, ownsV_sl, ownsL_nil, ownsL_cons, Bool.false_eq_true, ↓reduceIte, List.getElem?_cons_zero, List.getElem?_cons_succ, List.length_cons, List.length_nil, List.map_cons, List.map_nil, List.append_nil, List.getElem?_toArray, Option.bind_some, List.take_succ_cons, List.drop_zero, Bool.true_and, Bool.or_true, Bool.not_true, true_and, Nat.reduceAdd, Nat.reduceEqDiff, Nat.zero_add, List.isEmpty_nil, decide_true, Nat.le_refl, List.take_nil, Ty.td28, h300]
        refine call_meets (v2) (by simp only [aev, cv, cvc, toD_c, toD_agg, toD_sl, consO_some, toDL_nil, toDL_cons, Option.map_some, hk1]) ?_; simp only [awp_skip, awp_reg, awp_cond, seqQ_n, loopQ_n, blkQ_n, awpOps_nil, awpOps_one, awpOps_if, awpOp_is, awpO_is, putK_is, put_s, upd_s, slot_is, pureOp, apureO, killT, aev, cv, cvc, binK, yieldA, guardA_tt, guardA_ff, condA_f, pickA_t, pickA_f, flat_c, ownsV_c, ownsV_agg, ownsV_sl, ownsL_nil, ownsL_cons, ↓reduceIte, List.getElem?_cons_zero, List.getElem?_cons_succ, List.append_nil, List.getElem?_toArray, Option.bind_some, Bool.true_and, Bool.or_true, Bool.not_true, true_and, Nat.reduceEqDiff, List.isEmpty_nil, hk1]
        refine hK (j + 1, o, es, ss) _ ⟨hlt', hi⟩ (by simp only; omega) ?_ rfl (.trim rfl rfl rfl)
        simp only [slot_is, aev, cv, cvc, Weak, ↓reduceIte, Bool.and_true, Bool.and_self, and_true, and_self, Nat.reduceEqDiff]
        simp
      · refine call_meets (v1) (by simp only [aev, cv, cvc, toD_c, toD_agg, toD_sl, consO_some, toDL_nil, toDL_cons, Option.map_some, hk1]) ?_; simp only [awp_skip, awp_reg, awp_cond, seqQ_n, loopQ_n, blkQ_n, awpOps_nil, awpOps_one, awpOps_if, awpOp_is, awpO_is, putK_is, put_s, upd_s, slot_is, pureOp, apureO, killT, aev, cv, cvc, binK, yieldA, guardA_tf, guardA_ff, condA_f, pickA_f, flat_c, ownsV_c, ownsV_agg, ownsV_sl, ownsL_nil, ownsL_cons, ↓reduceIte, List.getElem?_cons_zero, List.getElem?_cons_succ, List.append_nil, List.getElem?_toArray, Option.bind_some, Bool.true_and, Bool.or_true, Bool.not_true, true_and, Nat.reduceEqDiff, List.isEmpty_nil, decide_false, h300, hk1]
        refine hK (j + 1, o, es, ss) _ ⟨hlt', hi⟩ (by simp only; omega) ?_ rfl (.trim rfl rfl rfl)
        simp only [slot_is, aev, cv, cvc, Weak, ↓reduceIte, Bool.and_true, Bool.and_self, and_true, and_self, Nat.reduceEqDiff]
        simp
    have hi' := hv he0
    subst he0
    have hff := formed_ok hi'.1
    obtain ⟨q1, q2, _⟩ := formed_dims hi'.1
    obtain ⟨_, m, hm⟩ := hff
    have s1 := refSize es' (by omega)
    rw [hm] at s1
    have v1 := vvalid n o' es' ss' (by omega) (by omega)
    rw [inv_vv ⟨hn0, hn1⟩ hi'] at v1
    have v2 := rvalid n o' es' ss' (by omega) (by omega)
    rw [inv_rv ⟨hn0, hn1⟩ hi'] at v2
    simp only [awp_skip, awp_reg, awp_seq, awp_block, seqQ_n, awpOps_nil, awpOps_one, awpOp_is, isCallV, callW_is, callV_is, putK_is, updK_is, put_s, upd_n, upd_s, slot_is, pureOp, apureO, astepO, killT, aev, cv, cvc, elO_s, loadA_d, loadA_p, storeA, cellsA, cellOk, setAll, Int.natCast_nonneg, Bool.false_eq_true, ↓reduceIte, List.getElem?_cons_zero, List.getElem?_cons_succ, List.length_cons, List.length_nil, List.map_cons, List.map_nil, List.cons_append, List.nil_append, List.append_nil, List.set_cons_zero, List.set_cons_succ, Option.map_some, List.take_succ_cons, List.drop_zero, List.all_cons, List.all_nil, Bool.true_and, Bool.and_self, Value.oneCell', true_and, and_self, Nat.reduceAdd, Nat.reduceEqDiff, Nat.zero_add, Int.toNat_natCast, Nat.le_refl, List.take_nil, Ty.td28, Ty.td45, Ty.td58, List.getElem?_map, hx, List.length_map]
    repeat refine ⟨by omega, ?_⟩
    refine call_meets (c1) (by simp only [aev, cv, cvc, toD_c, toD_agg, toD_sl, consO_some, toDL_nil, toDL_cons, Option.map_some, hk1]) ?_; simp only [awp_reg, awp_seq, awp_cond, seqQ_n, awpOps_nil, awpOps_one, awpOp_is, isCallV, callW_is, callV_is, putK_is, updK_is, put_s, upd_n, upd_s, slot_is, pureOp, apureO, astepO, killT, aev, cv, cvc, binK, elO_s, loadA_p, storeA, cellsA, cellOk, setAll, condA_t, flat_c, flat_tup, flat_agg, flat_sl, flatL_nil, flatL_cons, ownsV_c, ownsV_agg, ownsV_sl, ownsL_nil, ownsL_cons, Bool.false_eq_true, ↓reduceIte, List.getElem?_cons_zero, List.getElem?_cons_succ, List.length_cons, List.length_nil, List.map_cons, List.map_nil, List.cons_append, List.nil_append, List.append_nil, List.set_cons_zero, List.set_cons_succ, List.take_succ_cons, List.drop_zero, List.all_cons, List.all_nil, Bool.and_true, Bool.true_and, Bool.and_false, Bool.and_self, Bool.or_true, Value.oneCell', true_and, and_true, and_self, ne_eq, not_false_eq_true, reduceCtorEq, Nat.reduceAdd, Nat.reduceEqDiff, Nat.zero_add, List.isEmpty_nil, Nat.le_refl, List.take_nil, Ty.td22, Ty.td28, hk1, beq_self_eq_true]
    refine call_meets (s1) (by simp only [aev, cv, cvc, toD_sl, consO_some, toDL_nil, toDL_cons]) ?_; simp only [awp_reg, awp_seq, seqQ_n, awpOps_nil, awpOps_one, awpOps_if, awpOp_is, isCallV, callW_is, callV_is, awpO_is, putK_is, put_s, upd_s, slot_is, pureOp, apureO, killT, aev, cv, cvc, binK, elO_s, loadA_p, yieldA, guardA_ff, flat_c, flat_tup, flatL_nil, flatL_cons, ownsV_sl, ownsL_nil, ownsL_cons, Bool.false_eq_true, ↓reduceIte, List.getElem?_cons_zero, List.getElem?_cons_succ, List.length_cons, List.length_nil, List.map_cons, List.map_nil, List.append_nil, List.getElem?_toArray, Option.bind_some, List.take_succ_cons, List.drop_zero, Bool.true_and, Bool.and_self, Bool.or_true, true_and, and_self, Nat.reduceAdd, Nat.reduceEqDiff, Nat.zero_add, List.isEmpty_nil, Nat.le_refl, List.take_nil, Ty.td28, bne_self_eq_false]
    by_cases h300 : (m : Int) ≤ 300
    · refine call_meets (v1) (by simp only [aev, cv, cvc, toD_c, toD_agg, toD_sl, consO_some, toDL_nil, toDL_cons, Option.map_some]) ?_; simp only [awpOps_one, awpOps_if, awpOp_is, isCallV, callW_is, callV_is, awpO_is, putK_is, put_s, upd_s, slot_is, pureOp, apureO, killT, aev, cv, cvc, binK, elO_s, loadA_p, yieldA, guardA_tt, guardA_ff, pickA_f, flat_c, ownsV_c, ownsV_agg, ownsV_sl, ownsL_nil, ownsL_cons, Bool.false_eq_true, ↓reduceIte, List.getElem?_cons_zero, List.getElem?_cons_succ, List.length_cons, List.length_nil, List.map_cons, List.map_nil, List.append_nil, List.getElem?_toArray, Option.bind_some, List.take_succ_cons, List.drop_zero, Bool.true_and, Bool.or_true, Bool.not_true, true_and, Nat.reduceAdd, Nat.reduceEqDiff, Nat.zero_add, List.isEmpty_nil, decide_true, Nat.le_refl, List.take_nil, Ty.td28, h300]
      refine call_meets (v2) (by simp only [aev, cv, cvc, toD_c, toD_agg, toD_sl, consO_some, toDL_nil, toDL_cons, Option.map_some, hk1]) ?_; simp only [awp_skip, awp_reg, awp_cond, seqQ_n, loopQ_n, blkQ_n, awpOps_nil, awpOps_one, awpOps_if, awpOp_is, awpO_is, putK_is, put_s, upd_s, slot_is, pureOp, apureO, killT, aev, cv, cvc, binK, yieldA, guardA_tt, guardA_ff, condA_f, pickA_t, pickA_f, flat_c, ownsV_c, ownsV_agg, ownsV_sl, ownsL_nil, ownsL_cons, ↓reduceIte, List.getElem?_cons_zero, List.getElem?_cons_succ, List.append_nil, List.getElem?_toArray, Option.bind_some, Bool.true_and, Bool.or_true, Bool.not_true, true_and, Nat.reduceEqDiff, List.isEmpty_nil, hk1]
      refine hK (j + 1, o', es', ss') _ ⟨hlt', hi'⟩ (by simp only; omega) ?_ rfl (.trim rfl rfl rfl)
      simp only [slot_is, aev, cv, cvc, Weak, ↓reduceIte, Bool.and_true, Bool.and_self, and_true, and_self, Nat.reduceEqDiff]
      simp
    · refine call_meets (v1) (by simp only [aev, cv, cvc, toD_c, toD_agg, toD_sl, consO_some, toDL_nil, toDL_cons, Option.map_some, hk1]) ?_; simp only [awp_skip, awp_reg, awp_cond, seqQ_n, loopQ_n, blkQ_n, awpOps_nil, awpOps_one, awpOps_if, awpOp_is, awpO_is, putK_is, put_s, upd_s, slot_is, pureOp, apureO, killT, aev, cv, cvc, binK, yieldA, guardA_tf, guardA_ff, condA_f, pickA_f, flat_c, ownsV_c, ownsV_agg, ownsV_sl, ownsL_nil, ownsL_cons, ↓reduceIte, List.getElem?_cons_zero, List.getElem?_cons_succ, List.append_nil, List.getElem?_toArray, Option.bind_some, Bool.true_and, Bool.or_true, Bool.not_true, true_and, Nat.reduceEqDiff, List.isEmpty_nil, decide_false, h300, hk1]
      refine hK (j + 1, o', es', ss') _ ⟨hlt', hi'⟩ (by simp only; omega) ?_ rfl (.trim rfl rfl rfl)
      simp only [slot_is, aev, cv, cvc, Weak, ↓reduceIte, Bool.and_true, Bool.and_self, and_true, and_self, Nat.reduceEqDiff]
      simp
  · simp only [awp_reg, awp_seq, awp_exit, awp_ret, seqQ_n, seqQ_e, loopQ_e, blkQ_e, awpOps_nil, awpOps_one, awpOp_is, putK_is, put_s, slot_is, retA_is, pureOp, apureO, aev, cv, cvc, toD_c, notExit, resA_nil, resA_tmp, oneA_1, ↓reduceIte, Bool.and_self, and_self]

theorem es_two {ok : Nat → Prop} {w : World} {b : Nat} : ∀ (l : List (Int × Int)) (o : Nat), (∀ i (hi : i < l.length), w.cell? ⟨b, o + i * 2, none⟩ = some (.int .i64 l[i].1) ∧ w.cell? ⟨b, o + (i * 2 + 1), none⟩ = some (.int .i64 l[i].2)) → RepEs ok w 2 b o (l.map encS)
  | [], _, _ => trivial
  | x :: l, o, h => by
    obtain ⟨h1, h2⟩ := h 0 (by simp)
    simp only [Nat.zero_mul, Nat.add_zero, Nat.zero_add, List.getElem_cons_zero] at h1 h2
    refine ⟨rfl, ⟨⟨_, h1, rfl, rfl⟩, ⟨_, h2, rfl, rfl⟩, trivial⟩, es_two l (o + 2) fun i hi => ?_⟩
    have := h (i + 1) (by simpa using hi)
    rw [show o + 2 + i * 2 = o + (i + 1) * 2 by omega, show o + 2 + (i * 2 + 1) = o + ((i + 1) * 2 + 1) by omega]
    simpa using this
theorem in_steps {w : World} {A : Option Addr} {cap : Nat} {rows : List (List Int)} (hl : LiesR w .i64 2 w.heap.size A rows) (hc : rows.length ≤ cap ∧ cap ≤ maxLen) (hn : A = none → cap = 0) : ∃ l : List (Int × Int), l.length = rows.length ∧ RepD (fun b => b < w.heap.size) w (stepsV l) (.slice A rows.length cap) := by
  refine ⟨rows.map fun r => (r.getD 0 0, r.getD 1 0), by simp, A, cap, by simp, ⟨fun h => (by cases h), hn, by simpa using hc.1⟩, fun h0 => ?_⟩
  simp only [List.length_map] at h0
  obtain ⟨ad, rfl, hb, hcell⟩ := hl h0
  have h1 := hcell 0 h0 0 (by omega)
  have hs : ad.spot = none := spot_none (a := ad) (by simpa [Addr.add] using h1)
  obtain ⟨b, o, sp⟩ := ad
  obtain rfl : sp = none := hs
  refine ⟨b, o, rfl, hb, es_two _ o fun i hi => ?_⟩
  have hi' : i < rows.length := by simpa using hi
  have g1 := hcell i hi' 0 (by omega)
  have g2 := hcell i hi' 1 (by omega)
  rw [Eng.add_plain] at g1 g2
  rw [List.getElem_map]
  have e : rows.getD i [] = rows[i] := by rw [List.getD_eq_getElem?_getD, List.getElem?_eq_getElem hi']; rfl
  rw [e] at g1 g2
  exact ⟨by simpa using g1, g2⟩

theorem end_ (W : World) {v0 : Value} (zs : List Int) (h0 : RepD (fun b => b < W.heap.size) W (ints zs) v0) (hl0 : zs.length ≤ maxLen) (hw0 : ∀ z ∈ zs, (Lit.int .i64 z).wf = true) (A : Option Addr) (cap : Nat) (rows : List (List Int)) (hl : LiesR W .i64 2 W.heap.size A rows) (hw : ∀ z ∈ rows, z.length = 2 ∧ ∀ x ∈ z, (Lit.int .i64 x).wf = true) (hc : rows.length ≤ cap ∧ cap ≤ maxLen) (hn : A = none → cap = 0) :
    Calls Try.prog 6 #[v0, .slice A rows.length cap] W fun e w' => e = .returned (.bool true) ∧ Below W.heap.size W w' := by
  obtain ⟨l, hll, hr⟩ := in_steps hl hc hn
  exact law_of (law zs l hl0 (by omega)) (vs := [v0, .slice A rows.length cap]) ⟨_, _, rfl, h0, _, _, rfl, hr, rfl⟩
end Go.Proofs.Ytimagnkdgpfamaa.V14
