/- Arrays: the law of Size, Offset and Index. -/
import Derived.Test.YtnoaknemndjpmaaDoorA7
import Derived.Test.YtnoaknemndjpmaaDoorA8
namespace Go.Proofs.YtnoaknemndjpmaaDoor.A9
open Go Go.Proofs.YtnoaknemndjpmaaDoor.Eng Go.Proofs.YtnoaknemndjpmaaDoor Go.RowKit Go.Proofs.YtnoaknemndjpmaaDoor.A1 Go.Proofs.YtnoaknemndjpmaaDoor.A2 Go.Proofs.YtnoaknemndjpmaaDoor.A4 Go.Proofs.YtnoaknemndjpmaaDoor.A7 Go.Proofs.YtnoaknemndjpmaaDoor.A8
set_option linter.unusedSimpArgs false
set_option linter.unusedVariables false
set_option maxRecDepth 100000

theorem indexE_len (ds : List Int) (o : Int) : (indexE ds o).1.length ≤ ds.length := by
  unfold indexE
  split
  · simp
  split
  · simp
  · rw [idxR_len]; exact Nat.le_refl _

theorem law (ds is : List Int) (o : Int) (hd : ds.length ≤ maxLen) (hn : is.length ≤ maxLen) : Meets Tryd.prog 3 [ints ds, ints is, I o] (B true) := by
  have ha := awake
  refine meets_of Ty.mixed Tryd.func3 (by kernel_rfl) rfl (by kernel_rfl) (by simp) ?_; rw [Tryd.ntmps3, Tryd.results3]
  simp only [awp_reg, awp_seq, seqQ_n, awpOps_nil, awpOps_one, awpOp_is, isCallV, callW_is, callV_is, putK_is, put_s, pureOp, apureO, aev, cv, cvc, argT, Bool.false_eq_true, ↓reduceIte, List.map_nil, List.append_nil, Nat.reduceAdd, Nat.zero_add]
  refine call_meets (ha) (by simp only [aev, cv, cvc, toDL_nil]) ?_; simp only [awp_skip, awp_reg, awp_seq, awp_cond, seqQ_n, awpOps_nil, awpOps_one, awpOps_if, awpOp_is, putK_is, put_s, upd_s, slot_is, pureOp, apureO, killT, aev, cv, cvc, binK, elO_s, lenA, lenK, yieldA, condA_f, flat_c, ownsL_nil, ↓reduceIte, List.getElem?_cons_zero, List.getElem?_cons_succ, List.getElem?_toArray, Option.bind_some, Bool.true_and, Bool.or_true, Bool.not_true, true_and, reduceCtorEq, List.isEmpty_nil, Option.isSome_some, Ty.td22]
  by_cases h1 : (8 : Int) < ds.length
  · simp only [awp_reg, awp_seq, awp_cond, awp_ret, seqQ_n, seqQ_r, awpOps_nil, awpOps_one, awpOps_if, awpOp_is, putK_is, put_s, slot_is, retA_is, pureOp, apureO, aev, cv, cvc, yieldA, guardA_ft, condA_t, pickA_t, toD_c, notExit, resA_nil, resA_tmp, oneA_1, ↓reduceIte, List.getElem?_cons_zero, List.getElem?_cons_succ, List.getElem?_toArray, Option.bind_some, Bool.and_self, and_self, Nat.reduceEqDiff, decide_true, List.length_map, h1]
  by_cases h2 : (8 : Int) < is.length
  · simp only [awp_reg, awp_seq, awp_cond, awp_ret, seqQ_n, seqQ_r, awpOps_nil, awpOps_one, awpOps_if, awpOp_is, awpO_is, putK_is, put_s, slot_is, retA_is, pureOp, apureO, aev, cv, cvc, binK, elO_s, lenA, lenK, yieldA, guardA_ff, condA_t, pickA_f, toD_c, notExit, resA_nil, resA_tmp, oneA_1, ↓reduceIte, List.getElem?_cons_zero, List.getElem?_cons_succ, List.getElem?_toArray, Option.bind_some, Bool.and_true, Bool.true_and, Bool.and_self, true_and, and_true, and_self, reduceCtorEq, Nat.reduceEqDiff, Option.isSome_some, decide_true, decide_false, Ty.td22, List.length_map, h1, h2]
  simp only [awp_skip, awp_reg, awp_seq, awp_cond, seqQ_n, awpOps_nil, awpOps_one, awpOps_if, awpOp_is, isCallV, callW_is, callV_is, awpO_is, putK_is, put_s, slot_is, pureOp, apureO, aev, cv, cvc, binK, elO_s, lenA, lenK, yieldA, guardA_ff, condA_f, pickA_f, Bool.false_eq_true, ↓reduceIte, List.getElem?_cons_zero, List.getElem?_cons_succ, List.map_cons, List.map_nil, List.append_nil, List.getElem?_toArray, Option.bind_some, Bool.true_and, true_and, reduceCtorEq, Nat.reduceEqDiff, Option.isSome_some, decide_false, Ty.td22, List.length_map, h1, h2]
  have b1 : ds.length ≤ 1000000 := by omega
  have b2 : is.length ≤ 1000000 := by omega
  have s1 := size ds b1
  have s2 := refSize ds b1
  have o1 := offset ds is b1 b2
  have o2 := refOffset ds is b1 b2
  have i1 := index ds o b1
  have i2 := refIndex ds o b1
  have hl := indexE_len ds o
  generalize sizeE ds = s at *
  generalize offsetE ds is = f at *
  generalize indexE ds o = x at *
  obtain ⟨a, e⟩ := s
  obtain ⟨b, g⟩ := f
  obtain ⟨l, k⟩ := x
  simp only at hl
  have m1 := sameInts l l (by omega) (by omega)
  rw [beq_self_eq_true] at m1
  refine call_meets (s1) (by simp only [aev, cv, cvc, toD_sl, consO_some, toDL_nil, toDL_cons]) ?_; simp only [awp_reg, awp_seq, seqQ_n, awpOps_nil, awpOps_one, awpOp_is, isCallV, callW_is, callV_is, putK_is, put_s, upd_s, slot_is, pureOp, apureO, killT, aev, cv, cvc, elO_s, flat_c, flat_tup, flatL_nil, flatL_cons, ownsV_sl, ownsL_nil, ownsL_cons, Bool.false_eq_true, ↓reduceIte, List.getElem?_cons_zero, List.getElem?_cons_succ, List.map_cons, List.map_nil, List.append_nil, Bool.and_self, Bool.or_true, and_self, reduceCtorEq, Nat.reduceEqDiff, List.isEmpty_nil]
  refine call_meets (s2) (by simp only [aev, cv, cvc, toD_sl, consO_some, toDL_nil, toDL_cons]) ?_; simp only [awp_reg, awp_seq, seqQ_n, awpOps_nil, awpOps_one, awpOp_is, isCallV, callW_is, callV_is, putK_is, put_s, upd_s, slot_is, pureOp, apureO, killT, aev, cv, cvc, elO_s, flat_c, flat_tup, flatL_nil, flatL_cons, ownsV_sl, ownsL_nil, ownsL_cons, Bool.false_eq_true, ↓reduceIte, List.getElem?_cons_zero, List.getElem?_cons_succ, List.map_cons, List.map_nil, List.append_nil, Bool.and_self, Bool.or_true, and_self, reduceCtorEq, Nat.reduceEqDiff, List.isEmpty_nil]
  refine call_meets (o1) (by simp only [aev, cv, cvc, toD_sl, consO_some, toDL_nil, toDL_cons]) ?_; simp only [awp_reg, awp_seq, seqQ_n, awpOps_nil, awpOps_one, awpOp_is, isCallV, callW_is, callV_is, putK_is, put_s, upd_s, slot_is, pureOp, apureO, killT, aev, cv, cvc, elO_s, flat_c, flat_tup, flatL_nil, flatL_cons, ownsV_sl, ownsL_nil, ownsL_cons, Bool.false_eq_true, ↓reduceIte, List.getElem?_cons_zero, List.getElem?_cons_succ, List.map_cons, List.map_nil, List.append_nil, Bool.and_self, Bool.or_true, and_self, reduceCtorEq, Nat.reduceEqDiff, List.isEmpty_nil]
  refine call_meets (o2) (by simp only [aev, cv, cvc, toD_sl, consO_some, toDL_nil, toDL_cons]) ?_; simp only [awp_reg, awp_seq, seqQ_n, awpOps_nil, awpOps_one, awpOp_is, isCallV, callW_is, callV_is, putK_is, put_s, upd_s, slot_is, pureOp, apureO, killT, aev, cv, cvc, elO_s, flat_c, flat_tup, flatL_nil, flatL_cons, ownsV_sl, ownsL_nil, ownsL_cons, Bool.false_eq_true, ↓reduceIte, List.getElem?_cons_zero, List.getElem?_cons_succ, List.map_cons, List.map_nil, List.append_nil, Bool.and_self, Bool.or_true, and_self, reduceCtorEq, Nat.reduceEqDiff, List.isEmpty_nil]
  refine call_meets (i1) (by simp only [aev, cv, cvc, toD_c, toD_sl, consO_some, toDL_nil, toDL_cons]) ?_; simp only [awp_reg, awp_seq, seqQ_n, awpOps_nil, awpOps_one, awpOp_is, isCallV, callW_is, callV_is, putK_is, put_s, upd_s, slot_is, pureOp, apureO, killT, aev, cv, cvc, elO_s, flat_c, flat_tup, flat_sl, flatL_nil, flatL_cons, ownsV_c, ownsV_sl, ownsL_nil, ownsL_cons, Bool.false_eq_true, ↓reduceIte, List.getElem?_cons_zero, List.getElem?_cons_succ, List.map_cons, List.map_nil, List.append_nil, Bool.and_true, Bool.and_self, Bool.or_true, and_true, and_self, reduceCtorEq, Nat.reduceEqDiff, List.isEmpty_nil]
  refine call_meets (i2) (by simp only [aev, cv, cvc, toD_c, toD_sl, consO_some, toDL_nil, toDL_cons]) ?_; simp only [awp_reg, awp_seq, seqQ_n, awpOps_nil, awpOps_one, awpOps_if, awpOp_is, isCallV, callW_is, callV_is, awpO_is, putK_is, put_s, upd_s, slot_is, pureOp, apureO, killT, aev, cv, cvc, binK, elO_s, yieldA, guardA_tt, pickA_t, flat_c, flat_tup, flat_sl, flatL_nil, flatL_cons, ownsV_c, ownsV_sl, ownsL_nil, ownsL_cons, Bool.false_eq_true, ↓reduceIte, List.getElem?_cons_zero, List.getElem?_cons_succ, List.map_cons, List.map_nil, List.append_nil, List.getElem?_toArray, Option.bind_some, Bool.and_true, Bool.true_and, Bool.and_self, Bool.or_true, true_and, and_true, and_self, Nat.reduceEqDiff, List.isEmpty_nil, beq_self_eq_true]
  refine call_meets (m1) (by simp only [aev, cv, cvc, toD_sl, consO_some, toDL_nil, toDL_cons]) ?_; simp only [awp_ret, seqQ_n, awpOps_nil, awpOps_one, awpOps_if, awpOp_is, awpO_is, putK_is, put_s, upd_s, slot_is, retA_is, pureOp, apureO, killT, aev, cv, cvc, binK, yieldA, guardA_tt, pickA_t, flat_c, ownsV_sl, ownsL_nil, ownsL_cons, toD_c, notExit, resA_nil, resA_tmp, oneA_1, ↓reduceIte, List.getElem?_cons_zero, List.getElem?_cons_succ, List.append_nil, List.getElem?_toArray, Option.bind_some, Bool.and_self, Bool.or_true, and_self, Nat.reduceEqDiff, List.isEmpty_nil, beq_self_eq_true]

theorem end_ (W : World) (_ : True) {v0 v1 : Value} (ds : List Int) (h0 : RepD (fun b => b < W.heap.size) W (ints ds) v0) (hd : ds.length ≤ maxLen) (_ : ∀ z ∈ ds, (Lit.int .i64 z).wf = true) (is : List Int) (h1 : RepD (fun b => b < W.heap.size) W (ints is) v1) (hn : is.length ≤ maxLen) (_ : ∀ z ∈ is, (Lit.int .i64 z).wf = true) (o : Int) (_ : (Lit.int .i64 o).wf = true) :
    Calls Tryd.prog 3 #[v0, v1, .int .i64 o] W fun e w' => e = .returned (.bool true) ∧ Below W.heap.size W w' :=
  law_of (law ds is o hd hn) (vs := [v0, v1, .int .i64 o]) ⟨_, _, rfl, h0, _, _, rfl, h1, _, _, rfl, rfl, rfl⟩
end Go.Proofs.YtnoaknemndjpmaaDoor.A9
