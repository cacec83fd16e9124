/- Cells: the law of Check. -/
import Derived.Test.YtoobaeebgnbpjaaB7
namespace Go.Proofs.Ytoobaeebgnbpjaa.B8
open Go Go.Proofs.Ytoobaeebgnbpjaa.Eng Go.Proofs.Ytoobaeebgnbpjaa Go.RowKit Go.Proofs.Ytoobaeebgnbpjaa.A1 Go.Proofs.Ytoobaeebgnbpjaa.A2 Go.Proofs.Ytoobaeebgnbpjaa.A3 Go.Proofs.Ytoobaeebgnbpjaa.A4 Go.Proofs.Ytoobaeebgnbpjaa.A5 Go.Proofs.Ytoobaeebgnbpjaa.B1 Go.Proofs.Ytoobaeebgnbpjaa.B2 Go.Proofs.Ytoobaeebgnbpjaa.B4 Go.Proofs.Ytoobaeebgnbpjaa.B5 Go.Proofs.Ytoobaeebgnbpjaa.B6 Go.Proofs.Ytoobaeebgnbpjaa.B7
set_option linter.unusedSimpArgs false
set_option linter.unusedVariables false
set_option maxRecDepth 100000

theorem law (fr : List Int) (A : List (List Int)) (R : List Int) (l : List Ar) (hf : fr.length ≤ maxLen) (hA : A.length ≤ maxLen) (hR : R.length ≤ maxLen) (hl : l.length ≤ maxLen) (hq : ∀ r ∈ R, r ≤ 9223372036854775807) :
    Meets Try.prog 5 [ints fr, .agg [lists A, ints R], arrs l] (B true) := by
  have ha := awake
  have hfw := fewList l hl
  refine meets_of Ty.mixed Try.func5 (by kernel_rfl) rfl (by kernel_rfl) (by simp) ?_; rw [Try.ntmps5, Try.results5]
  simp only [awp_reg, awp_seq, seqQ_n, awpOps_nil, awpOps_one, awpOp_is, isCallV, callW_is, callV_is, putK_is, updK_is, put_s, upd_s, slot_is, pureOp, apureO, astepO, killT, aev, cv, cvc, cellsA, cellOk, argT, Bool.false_eq_true, ↓reduceIte, List.length_nil, List.map_nil, List.nil_append, List.append_nil, Bool.true_and, true_and, reduceCtorEq, Nat.reduceAdd, Nat.zero_add]
  refine call_meets (ha) (by simp only [aev, cv, cvc, toDL_nil]) ?_; simp only [awp_skip, awp_reg, awp_seq, awp_cond, seqQ_n, awpOps_nil, awpOps_one, awpOps_if, awpOp_is, putK_is, put_s, upd_s, slot_is, pureOp, apureO, killT, aev, cv, cvc, binK, elO_s, lenA, lenK, yieldA, condA_f, flat_c, ownsL_nil, ↓reduceIte, List.getElem?_cons_zero, List.getElem?_cons_succ, List.getElem?_toArray, Option.bind_some, Bool.true_and, Bool.or_true, Bool.not_true, true_and, reduceCtorEq, List.isEmpty_nil, Option.isSome_some, Ty.td22]
  by_cases h1 : (8 : Int) < fr.length
  · simp only [awp_reg, awp_seq, awp_cond, awp_ret, seqQ_n, seqQ_r, awpOps_nil, awpOps_one, awpOps_if, awpOp_is, putK_is, put_s, slot_is, retA_is, pureOp, apureO, aev, cv, cvc, yieldA, guardA_ft, condA_t, pickA_t, toD_c, notExit, resA_nil, resA_tmp, oneA_1, ↓reduceIte, List.getElem?_cons_zero, List.getElem?_cons_succ, List.getElem?_toArray, Option.bind_some, Bool.and_self, and_self, Nat.reduceEqDiff, decide_true, List.length_map, h1]
  by_cases h2 : (6 : Int) < A.length
  · simp only [awp_reg, awp_seq, awp_cond, awp_ret, seqQ_n, seqQ_r, awpOps_nil, awpOps_one, awpOps_if, awpOp_is, awpO_is, putK_is, put_s, slot_is, retA_is, pureOp, apureO, aev, cv, cvc, binK, elO_s, elO_none, lenA, lenK, loadA_p, yieldA, guardA_ft, guardA_ff, condA_t, pickA_t, pickA_f, toD_c, notExit, resA_nil, resA_tmp, oneA_1, Bool.false_eq_true, ↓reduceIte, List.getElem?_cons_zero, List.getElem?_cons_succ, List.length_cons, List.length_nil, List.getElem?_toArray, Option.bind_some, Bool.and_true, Bool.true_and, Bool.and_self, true_and, and_true, and_self, ne_eq, not_false_eq_true, reduceCtorEq, Nat.reduceAdd, Nat.reduceEqDiff, Nat.zero_add, Option.isSome_some, decide_true, decide_false, Ty.td40, Ty.td42, List.length_map, h1, h2]
  by_cases h3 : (6 : Int) < R.length
  · simp only [awp_reg, awp_seq, awp_cond, awp_ret, seqQ_n, seqQ_r, awpOps_nil, awpOps_one, awpOps_if, awpOp_is, awpO_is, putK_is, put_s, slot_is, retA_is, pureOp, apureO, aev, cv, cvc, binK, elO_s, elO_none, lenA, lenK, loadA_p, yieldA, guardA_ft, guardA_ff, condA_t, pickA_t, pickA_f, toD_c, notExit, resA_nil, resA_tmp, oneA_1, Bool.false_eq_true, ↓reduceIte, List.getElem?_cons_zero, List.getElem?_cons_succ, List.length_cons, List.length_nil, List.getElem?_toArray, Option.bind_some, Bool.and_true, Bool.true_and, Bool.and_self, true_and, and_true, and_self, ne_eq, not_false_eq_true, reduceCtorEq, Nat.reduceAdd, Nat.reduceEqDiff, Nat.zero_add, Option.isSome_some, decide_true, decide_false, Ty.td22, Ty.td40, Ty.td42, List.length_map, h1, h2, h3]
  simp only [awpOps_one, awpOps_if, awpOp_is, isCallV, callW_is, callV_is, awpO_is, putK_is, put_s, slot_is, pureOp, apureO, aev, cv, cvc, binK, elO_s, elO_none, lenA, lenK, loadA_p, yieldA, guardA_ff, pickA_f, Bool.false_eq_true, ↓reduceIte, List.getElem?_cons_zero, List.getElem?_cons_succ, List.length_cons, List.length_nil, List.map_cons, List.map_nil, List.append_nil, List.getElem?_toArray, Option.bind_some, Bool.true_and, true_and, ne_eq, not_false_eq_true, reduceCtorEq, Nat.reduceAdd, Nat.reduceEqDiff, Nat.zero_add, Option.isSome_some, decide_false, Ty.td22, Ty.td40, Ty.td42, List.length_map, h1, h2, h3]
  cases hfl : fewL l with
  | false =>
    rw [hfl] at hfw
    refine call_meets (hfw) (by simp only [aev, cv, cvc, toD_sl, consO_some, toDL_nil, toDL_cons]) ?_; simp only [awp_reg, awp_seq, awp_cond, awp_ret, seqQ_n, seqQ_r, awpOps_nil, awpOps_one, awpOps_if, awpOp_is, awpO_is, putK_is, put_s, upd_s, slot_is, retA_is, pureOp, apureO, killT, aev, cv, cvc, yieldA, guardA_ff, condA_t, pickA_f, flat_c, ownsV_sl, ownsL_nil, ownsL_cons, toD_c, notExit, resA_nil, resA_tmp, oneA_1, ↓reduceIte, List.getElem?_cons_zero, List.getElem?_cons_succ, List.append_nil, List.getElem?_toArray, Option.bind_some, Bool.and_self, Bool.or_true, Bool.not_false, and_self, Nat.reduceEqDiff, List.isEmpty_nil]
  | true =>
  rw [hfl] at hfw
  refine call_meets (hfw) (by simp only [aev, cv, cvc, toD_sl, consO_some, toDL_nil, toDL_cons]) ?_; simp only [awp_skip, awp_reg, awp_seq, awp_cond, awp_block, awp_loop, seqQ_n, awpOps_nil, awpOps_one, awpOps_if, awpOp_is, awpO_is, putK_is, put_s, upd_s, slot_is, pureOp, apureO, killT, aev, cv, cvc, elO_s, elO_none, lenA, lenK, loadA_p, yieldA, guardA_ff, condA_f, pickA_f, flat_c, ownsV_sl, ownsL_nil, ownsL_cons, Bool.false_eq_true, ↓reduceIte, List.getElem?_cons_zero, List.getElem?_cons_succ, List.length_cons, List.length_nil, List.append_nil, List.getElem?_toArray, Option.bind_some, Bool.true_and, Bool.or_true, Bool.not_true, true_and, ne_eq, not_false_eq_true, reduceCtorEq, Nat.reduceAdd, Nat.reduceEqDiff, Nat.zero_add, List.isEmpty_nil, Option.isSome_some, Ty.td40, Ty.td42, List.length_map]
  obtain ⟨l1, l2⟩ := fewL_ex hfl
  refine loop_k (fun k : Nat => k ≤ A.length ∧ ∀ (i : Nat) a, i < k → A[i]? = some a → a.length ≤ 8) (fun k => ⟨82, [(38, I k), (37, I A.length), (36, lists A), (4, .ptr 0 0), (0, ints fr), (2, arrs l)], [some (.var 42 [lists A, ints R])]⟩) (fun k => A.length - k) 0 ⟨Nat.zero_le _, fun i a h => by omega⟩ (by simp only [slot_is, aev, cv, cvc, Weak, ↓reduceIte, Bool.and_true, Bool.and_self, and_true, and_self, reduceCtorEq, Nat.reduceEqDiff]; simp) rfl rfl ?_
  rintro k ⟨hk, hi⟩ K hK
  simp only at hK
  simp only [awp_reg, awp_seq, awp_cond, seqQ_n, awpOps_nil, awpOps_one, awpOp_is, putK_is, put_s, slot_is, pureOp, apureO, aev, cv, cvc, binK, ↓reduceIte, Bool.true_and, true_and, Nat.reduceEqDiff]
  refine condA_dec (fun hlt => ?_) (fun hge => ?_)
  · have hlt' : k < A.length := by omega
    have hx : A[k]? = some A[k] := List.getElem?_eq_getElem hlt'
    have hnext : A[k].length ≤ 8 → ∀ (i : Nat) a, i < k + 1 → A[i]? = some a → a.length ≤ 8 := fun h i a h1 h2 => by
      rcases Nat.lt_or_ge i k with h3 | h3
      · exact hi i a h3 h2
      · obtain rfl : i = k := by omega
        rw [hx] at h2
        cases h2
        exact h
    generalize A[k] = ax at *
    by_cases h4 : (8 : Int) < ax.length
    · simp only [awp_skip, awp_reg, awp_seq, awp_cond, awp_block, awp_ret, seqQ_n, seqQ_r, loopQ_r, blkQ_r, awpOps_nil, awpOps_one, awpOp_is, putK_is, put_s, slot_is, retA_is, pureOp, apureO, aev, cv, cvc, binK, elO_s, elO_none, lenA, lenK, loadA_d, condA_t, toD_c, notExit, resA_nil, resA_tmp, oneA_1, Int.natCast_nonneg, Bool.false_eq_true, ↓reduceIte, List.getElem?_cons_zero, Option.map_some, Bool.and_true, Bool.true_and, Bool.and_self, true_and, and_true, and_self, Nat.reduceEqDiff, Int.toNat_natCast, Option.isSome_some, decide_true, Ty.td22, Ty.td40, List.getElem?_map, hx, List.length_map, h4]
    have p1 := pick fr ax (by omega) (by omega)
    have p2 := refPick fr ax (by omega) (by omega)
    have hpl := pickE_len fr ax
    generalize pickE fr ax = p at *
    obtain ⟨own, okb⟩ := p
    simp only at hpl
    have s1 := sameInts own own (by omega) (by omega)
    rw [beq_self_eq_true] at s1
    simp only [awp_skip, awp_reg, awp_seq, awp_cond, awp_block, seqQ_n, awpOps_nil, awpOps_one, awpOp_is, isCallV, callW_is, callV_is, putK_is, put_s, slot_is, pureOp, apureO, aev, cv, cvc, binK, elO_s, elO_none, lenA, lenK, loadA_d, condA_f, Int.natCast_nonneg, Bool.false_eq_true, ↓reduceIte, List.getElem?_cons_zero, List.map_cons, List.map_nil, List.append_nil, Option.map_some, Bool.true_and, true_and, reduceCtorEq, Nat.reduceEqDiff, Int.toNat_natCast, Option.isSome_some, decide_false, Ty.td22, Ty.td40, List.getElem?_map, hx, List.length_map, h4]
    refine call_meets (p1) (by simp only [aev, cv, cvc, toD_sl, consO_some, toDL_nil, toDL_cons]) ?_; simp only [awp_reg, awp_seq, seqQ_n, awpOps_nil, awpOps_one, awpOp_is, isCallV, callW_is, callV_is, putK_is, put_s, upd_s, slot_is, pureOp, apureO, killT, aev, cv, cvc, elO_s, flat_c, flat_tup, flat_sl, flatL_nil, flatL_cons, ownsV_sl, ownsL_nil, ownsL_cons, Bool.false_eq_true, ↓reduceIte, List.getElem?_cons_zero, List.getElem?_cons_succ, List.map_cons, List.map_nil, List.append_nil, Bool.and_true, Bool.and_self, Bool.or_true, and_true, and_self, reduceCtorEq, Nat.reduceEqDiff, List.isEmpty_nil]
    refine call_meets (p2) (by simp only [aev, cv, cvc, toD_sl, consO_some, toDL_nil, toDL_cons]) ?_; simp only [awp_reg, awp_seq, seqQ_n, awpOps_nil, awpOps_one, awpOp_is, isCallV, callW_is, callV_is, putK_is, put_s, upd_s, slot_is, pureOp, apureO, killT, aev, cv, cvc, elO_s, flat_c, flat_tup, flat_sl, flatL_nil, flatL_cons, ownsV_sl, ownsL_nil, ownsL_cons, Bool.false_eq_true, ↓reduceIte, List.getElem?_cons_zero, List.getElem?_cons_succ, List.map_cons, List.map_nil, List.append_nil, Bool.and_true, Bool.and_self, Bool.or_true, and_true, and_self, Nat.reduceEqDiff, List.isEmpty_nil]
    refine call_meets (s1) (by simp only [aev, cv, cvc, toD_sl, consO_some, toDL_nil, toDL_cons, wrap_in (x := (k : Int) + 1) (by omega) (by omega)]) ?_; simp only [awp_skip, awp_reg, awp_cond, seqQ_n, loopQ_n, blkQ_n, awpOps_nil, awpOps_one, awpOps_if, awpOp_is, awpO_is, putK_is, put_s, upd_s, slot_is, pureOp, apureO, killT, aev, cv, cvc, binK, elO_s, yieldA, guardA_ff, condA_f, pickA_f, flat_c, ownsV_sl, ownsL_nil, ownsL_cons, ↓reduceIte, List.getElem?_cons_zero, List.getElem?_cons_succ, List.append_nil, List.getElem?_toArray, Option.bind_some, Bool.true_and, Bool.or_true, Bool.not_true, true_and, Nat.reduceEqDiff, List.isEmpty_nil, Ty.td4, beq_self_eq_true, wrap_in (x := (k : Int) + 1) (by omega) (by omega)]
    refine hK (k + 1) _ ⟨hlt', hnext (by omega)⟩ (by omega) ?_ rfl rfl
    simp only [slot_is, aev, cv, cvc, Weak, ↓reduceIte, Bool.and_true, Bool.and_self, and_true, and_self, reduceCtorEq, Nat.reduceEqDiff]
    simp
  · have hk' : k = A.length := by omega
    have hAm : ∀ a ∈ A, a.length ≤ 1000000 := fun a ha => by
      obtain ⟨i, h, rfl⟩ := List.getElem_of_mem ha
      have := hi i A[i] (by omega) (List.getElem?_eq_getElem h)
      omega
    have c1 := check20 fr A R l (by omega) hAm (by omega) l2 hq
    have c2 := refCheck20 fr A R l (by omega) hAm (by omega) l2 hq
    generalize checkAll fr A R l = c at *
    simp only [awp_regD, awp_seq, awp_exit, seqQ_n, seqQ_e, loopQ_e, blkQ_e, awpOpsD_one, isCallV, awpOpD_is, callWD_is, callVD_is, putK_is, put_s, slot_is, keepOp, pureOp, apureO, aev, cv, cvc, elO_s, loadA_p, Bool.false_eq_true, ↓reduceIte, List.getElem?_cons_zero, List.getElem?_cons_succ, List.length_cons, List.length_nil, List.map_cons, List.map_nil, List.append_nil, Bool.true_and, true_and, ne_eq, not_false_eq_true, reduceCtorEq, Nat.reduceAdd, Nat.reduceEqDiff, Nat.zero_add, Ty.td22, Ty.td40, Ty.td42]
    refine calld_meets (c1) (by simp only [aev, cv, cvc, toD_sl, consO_some, toDL_nil, toDL_cons]) (by simp only [aev, cv, cvc, flat_c, ownsV_sl, ownsL_nil, ownsL_cons, List.append_nil, Bool.or_true, List.isEmpty_nil]) ?_; simp only [awpOpsD_one, isCallV, awpOpD_is, callWD_is, callVD_is, putK_is, put_s, slot_is, keepOp, pureOp, apureO, aev, cv, cvc, elO_s, loadA_p, Bool.false_eq_true, ↓reduceIte, List.getElem?_cons_zero, List.getElem?_cons_succ, List.length_cons, List.length_nil, List.map_cons, List.map_nil, List.append_nil, Bool.true_and, true_and, ne_eq, not_false_eq_true, reduceCtorEq, Nat.reduceAdd, Nat.reduceEqDiff, Nat.zero_add, Ty.td22, Ty.td40, Ty.td42]
    refine calld_meets (c2) (by simp only [aev, cv, cvc, toD_sl, consO_some, toDL_nil, toDL_cons]) (by simp only [aev, cv, cvc, flat_c, ownsV_sl, ownsL_nil, ownsL_cons, List.append_nil, Bool.or_true, List.isEmpty_nil]) ?_; simp only [awp_ret, seqQ_n, awpOpsD_nil, awpOpsD_one, awpOpD_is, putK_is, put_s, slot_is, retA_is, keepOp, pureOp, apureO, aev, cv, cvc, binK, toD_c, notExit, resA_nil, resA_tmp, oneA_1, ↓reduceIte, Bool.and_self, and_self, Nat.reduceEqDiff, beq_self_eq_true]

theorem end_ (W : World) {v0 v1 v2 : Value} (fr : List Int) (h0 : RepD (fun b => b < W.heap.size) W (ints fr) v0) (hf : fr.length ≤ maxLen) (_ : ∀ z ∈ fr, (Lit.int .i64 z).wf = true) (A : List (List Int)) (R : List Int) (h1 : RepD (fun b => b < W.heap.size) W (.agg [lists A, ints R]) v1) (hA : A.length ≤ maxLen) (hR : R.length ≤ maxLen) (hw : ∀ z ∈ R, (Lit.int .i64 z).wf = true) (l : List Ar) (h2 : RepD (fun b => b < W.heap.size) W (arrs l) v2) (hl : l.length ≤ maxLen) :
    Calls Try.prog 5 #[v0, v1, v2] W fun e w' => e = .returned (.bool true) ∧ Below W.heap.size W w' :=
  law_of (law fr A R l hf hA hR hl (wf_le hw)) (vs := [v0, v1, v2]) ⟨_, _, rfl, h0, _, _, rfl, h1, _, _, rfl, h2, rfl⟩
end Go.Proofs.Ytoobaeebgnbpjaa.B8
