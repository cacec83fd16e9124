/- Structure: the table by its rows; all dimensions of results. -/
import Derived.Test.YtbmmemglkjeogaaS2
namespace Go.Proofs.Ytbmmemglkjeogaa.S3
open Go Go.Proofs.Ytbmmemglkjeogaa.Eng Go.Proofs.Ytbmmemglkjeogaa Go.RowKit Go.Proofs.Ytbmmemglkjeogaa.A1 Go.Proofs.Ytbmmemglkjeogaa.A2 Go.Proofs.Ytbmmemglkjeogaa.A3 Go.Proofs.Ytbmmemglkjeogaa.S1 Go.Proofs.Ytbmmemglkjeogaa.S2
set_option linter.unusedSimpArgs false
set_option linter.unusedVariables false
set_option linter.unusedSectionVars false
set_option maxRecDepth 100000

theorem d_drop (k a : Int) (ns : List Int) : Meets Try.prog 62 [I k, ints (a :: ns)] (twoI (wi k a [W (a - k)])) := by
  have h := within' k a [W (a - k)]
  generalize wi k a [W (a - k)] = r at *
  simp only [ints, List.map_cons, List.map_nil] at h
  refine meets_of (X := true) Ty.mixed Try.func62 (by kernel_rfl) rfl (by kernel_rfl) (by simp) ?_; rw [Try.ntmps62, Try.results62]
  simp only [awp_regX, awp_reg, awp_seq, seqQ_n, awpOps_nil, awpOps_one, awpOp_is, putK_is, put_s, pureOp, apureO, aev, cv, cvc, argT, ↓reduceIte, Nat.zero_add]
  refine drawS_wild ?_; simp (config := {maxSteps := 2000000}) only [isCallV, slot_is, slot.eq_1, pureOp, apureO, astepO, bsEnd_is, killT, aev, cv, cvc, binK, elO_s, loadA_d, cellsA, cellOk, setAll, fillA, chunk, isD_c, isDL_nil, isDL_cons, Bool.false_eq_true, ↓reduceIte, List.getElem?_cons_zero, List.length_cons, List.length_nil, List.map_cons, List.map_nil, List.cons_append, List.nil_append, List.append_nil, List.set_cons_zero, List.take_succ_cons, List.drop_zero, List.all_cons, List.all_nil, Bool.true_and, Bool.and_self, Bool.false_or, Bool.or_false, Value.oneCell', true_and, and_self, reduceCtorEq, Nat.reduceAdd, Nat.reduceMul, Nat.reduceLT, Nat.reduceLeDiff, Nat.reduceEqDiff, Nat.reduceMod, Nat.zero_add, List.mem_cons, List.not_mem_nil, or_false, false_or, Int.reduceToNat, List.range_succ, List.range_zero, decide_true, List.zipIdx_cons, List.zipIdx_nil, Nat.le_refl, List.drop_nil, List.take_nil, Int.le_refl, List.getElem?_nil, awpW_one, wRun_is, wOp_is, callXW_is, callXV_is, keepK_is, stepK_is, contW_is, nextW_s, confs_nil, confs_cons, conf_is, meet_nil, opV_move, opV_load, opV_binOp, opV_indexAddr, opV_buildSlice, opV_call, tch_move, tch_load, tch_binOp, tch_indexAddr, tch_buildSlice, rd_move, rd_load, rd_binOp, rd_indexAddr, rd_buildSlice, rd_callv, namesV_c, namesV_sl, namesV_dptr, namesV_own, namesV_agg, namesV_fn, namesL_nil, namesL_cons, namesH_nil, namesH_cons, namesB_row, killO_no, allLt_is, maskH_is, mergeH_is, setH_is, newL_is, refsT, refsH, refsV, Bool.or_self, List.getElem?_nil, Ty.td3, Ty.td22]
  repeat refine ⟨by omega, ?_⟩
  refine callx_freeze (h) (by simp (config := {maxSteps := 2000000}) only [aev, cv, cvc, elemsA, toD_c, toD_own, consO_some, toDL_nil, toDL_cons, ↓reduceIte, List.getElem?_cons_zero, List.length_cons, List.length_nil, Option.map_some, List.take_succ_cons, Bool.and_self, and_self, Nat.zero_add, Nat.le_refl, List.take_nil] <;> rfl) (by simp (config := {maxSteps := 2000000}) only [aev, cv, cvc, flat_c, flat_tup, flat_sl, flatL_nil, flatL_cons, ownsV_c, ownsV_own, ownsL_nil, ownsL_cons, List.nil_append, List.append_nil, Bool.and_true, Bool.and_self, and_true, and_self, List.isEmpty_cons, Bool.or_self]) ?_; simp (config := {maxSteps := 2000000}) only [awp_ret, seqQ_n, slot_is, retA_is, pureOp, apureO, killT, killH, aev, cv, cvc, elO_s, elemsA, dropL, ownsV_c, ownsV_own, ownsL_nil, ownsL_cons, toD_c, toD_tup, toD_sl, consO_some, toDL_nil, toDL_cons, killV_c, killV_nils, killV_sl, killV_own, killV_dptr, notExit, resA_nil, resA_tmp, oneA_2, Bool.false_eq_true, ↓reduceIte, List.getElem?_cons_zero, List.getElem?_cons_succ, List.length_cons, List.length_nil, List.map_cons, List.map_nil, List.cons_append, List.nil_append, List.append_nil, Option.map_some, Option.map_none, List.drop_succ_cons, List.all_cons, List.all_nil, Bool.and_true, Bool.true_and, Bool.and_self, Bool.or_true, Bool.false_or, Bool.or_false, true_and, and_true, and_self, Nat.reduceAdd, Nat.reduceLT, Nat.reduceLeDiff, Nat.reduceEqDiff, Nat.zero_add, List.mem_cons, List.not_mem_nil, or_false, false_or, List.range_succ, List.range_zero, decide_true, List.zipIdx_cons, List.zipIdx_nil, Nat.le_refl, List.drop_nil, List.any_cons, List.any_nil, List.getElem?_nil, awpW_nil, awpW_one, wRun_is, wOp_is, keepK_is, contW_is, nextW_s, confs_nil, confs_cons, conf_is, meet_nil, meet_cons, opV_assign, opV_extract, opV_call, tch_assign, tch_extract, tch_callv, rd_assign, rd_extract, rd_callv, namesV_c, namesV_sl, namesV_own, namesV_tup, namesV_fn, namesL_nil, namesL_cons, namesH_nil, namesH_cons, namesB_row, namesB_none, killO_n, allLt_is, maskH_is, mergeH_is, setH_is, newL_is, Bool.or_self, Nat.reduceBEq, List.getElem?_nil]
  first | exact ⟨by kernel_rfl, rfl⟩ | kernel_rfl
theorem d_windows (k a : Int) (ns : List Int) : Meets Try.prog 73 [I k, ints (a :: ns)] (twoI (wi k a [W (W (a - k) + 1), k])) := by
  have h := within' k a [W (W (a - k) + 1), k]
  generalize wi k a [W (W (a - k) + 1), k] = r at *
  simp only [ints, List.map_cons, List.map_nil] at h
  refine meets_of (X := true) Ty.mixed Try.func73 (by kernel_rfl) rfl (by kernel_rfl) (by simp) ?_; rw [Try.ntmps73, Try.results73]
  simp only [awp_regX, awp_reg, awp_seq, seqQ_n, awpOps_nil, awpOps_one, awpOp_is, putK_is, put_s, pureOp, apureO, aev, cv, cvc, argT, ↓reduceIte, Nat.zero_add]
  refine drawS_wild ?_; simp (config := {maxSteps := 2000000}) only [isCallV, slot_is, slot.eq_1, pureOp, apureO, astepO, bsEnd_is, killT, aev, cv, cvc, binK, elO_s, loadA_d, cellsA, cellOk, setAll, fillA, chunk, isD_c, isDL_nil, isDL_cons, Bool.false_eq_true, ↓reduceIte, List.getElem?_cons_zero, List.length_cons, List.length_nil, List.map_cons, List.map_nil, List.cons_append, List.nil_append, List.append_nil, List.set_cons_zero, List.set_cons_succ, List.take_succ_cons, List.take_zero, List.drop_succ_cons, List.drop_zero, List.all_cons, List.all_nil, Bool.true_and, Bool.and_self, Bool.false_or, Bool.or_false, Value.oneCell', true_and, and_self, reduceCtorEq, Nat.reduceAdd, Nat.reduceMul, Nat.reduceLT, Nat.reduceLeDiff, Nat.reduceEqDiff, Nat.reduceMod, Nat.zero_add, List.mem_cons, List.not_mem_nil, or_false, false_or, Int.reduceToNat, List.range_succ, List.range_zero, decide_true, List.zipIdx_cons, List.zipIdx_nil, Nat.le_refl, List.drop_nil, List.take_nil, Int.le_refl, List.getElem?_nil, awpW_one, wRun_is, wOp_is, callXW_is, callXV_is, keepK_is, stepK_is, contW_is, nextW_s, confs_nil, confs_cons, conf_is, meet_nil, opV_move, opV_load, opV_binOp, opV_indexAddr, opV_buildSlice, opV_call, tch_move, tch_load, tch_binOp, tch_indexAddr, tch_buildSlice, rd_move, rd_load, rd_binOp, rd_indexAddr, rd_buildSlice, rd_callv, namesV_c, namesV_sl, namesV_dptr, namesV_own, namesV_agg, namesV_fn, namesL_nil, namesL_cons, namesH_nil, namesH_cons, namesB_row, killO_no, allLt_is, maskH_is, mergeH_is, setH_is, newL_is, refsT, refsH, refsV, Bool.or_self, List.getElem?_nil, Ty.td3, Ty.td22]
  repeat refine ⟨by omega, ?_⟩
  refine callx_freeze (h) (by simp (config := {maxSteps := 2000000}) only [aev, cv, cvc, elemsA, toD_c, toD_own, consO_some, toDL_nil, toDL_cons, ↓reduceIte, List.getElem?_cons_zero, List.length_cons, List.length_nil, Option.map_some, List.take_succ_cons, Bool.and_self, and_self, Nat.reduceAdd, Nat.zero_add, Nat.le_refl, List.take_nil] <;> rfl) (by simp (config := {maxSteps := 2000000}) only [aev, cv, cvc, flat_c, flat_tup, flat_sl, flatL_nil, flatL_cons, ownsV_c, ownsV_own, ownsL_nil, ownsL_cons, List.nil_append, List.append_nil, Bool.and_true, Bool.and_self, and_true, and_self, List.isEmpty_cons, Bool.or_self]) ?_; simp (config := {maxSteps := 2000000}) only [awp_ret, seqQ_n, slot_is, retA_is, pureOp, apureO, killT, killH, aev, cv, cvc, elO_s, elemsA, dropL, ownsV_c, ownsV_own, ownsL_nil, ownsL_cons, toD_c, toD_tup, toD_sl, consO_some, toDL_nil, toDL_cons, killV_c, killV_nils, killV_sl, killV_own, killV_dptr, notExit, resA_nil, resA_tmp, oneA_2, Bool.false_eq_true, ↓reduceIte, List.getElem?_cons_zero, List.getElem?_cons_succ, List.length_cons, List.length_nil, List.map_cons, List.map_nil, List.cons_append, List.nil_append, List.append_nil, Option.map_some, Option.map_none, List.drop_succ_cons, List.all_cons, List.all_nil, Bool.and_true, Bool.true_and, Bool.and_self, Bool.or_true, Bool.false_or, Bool.or_false, true_and, and_true, and_self, Nat.reduceAdd, Nat.reduceLT, Nat.reduceLeDiff, Nat.reduceEqDiff, Nat.zero_add, List.mem_cons, List.not_mem_nil, or_false, false_or, List.range_succ, List.range_zero, decide_true, List.zipIdx_cons, List.zipIdx_nil, Nat.le_refl, List.drop_nil, List.any_cons, List.any_nil, List.getElem?_nil, awpW_nil, awpW_one, wRun_is, wOp_is, keepK_is, contW_is, nextW_s, confs_nil, confs_cons, conf_is, meet_nil, meet_cons, opV_assign, opV_extract, opV_call, tch_assign, tch_extract, tch_callv, rd_assign, rd_extract, rd_callv, namesV_c, namesV_sl, namesV_own, namesV_tup, namesV_fn, namesL_nil, namesL_cons, namesH_nil, namesH_cons, namesB_row, namesB_none, killO_n, allLt_is, maskH_is, mergeH_is, setH_is, newL_is, Bool.or_self, Nat.reduceBEq, List.getElem?_nil]
  first | exact ⟨by kernel_rfl, rfl⟩ | kernel_rfl

/-- The primitives. -/
inductive Op13 where
  | iota | fill | take | drop | reverse | append | transpose | diagonal | windows | chunk | index | update | pack
def opOf (e : ByteArray) : Option Op13 :=
  if is_iota e then some .iota else if is_fill e then some .fill else if is_take e then some .take else if is_drop e then some .drop else
  if is_reverse e then some .reverse else if is_append e then some .append else if is_transpose e then some .transpose else if is_diagonal e then some .diagonal else
  if is_windows e then some .windows else if is_chunk e then some .chunk else if is_index e then some .index else if is_update e then some .update else if is_pack e then some .pack else none
def rk : Op13 → List Int
  | .iota => []
  | .fill => [0]
  | .take => [1]
  | .drop => [1]
  | .reverse => [1]
  | .append => [1, 1]
  | .transpose => [2]
  | .diagonal => [2]
  | .windows => [1]
  | .chunk => [1]
  | .index => [1, 0]
  | .update => [1, 0, 0]
  | .pack => []
def sz : Op13 → Int
  | .iota => 1
  | .fill => 1
  | .take => 1
  | .drop => 1
  | .windows => 1
  | _ => 0
def dF : Op13 → FuncId
  | .iota => 57
  | .fill => 57
  | .take => 60
  | .drop => 62
  | .reverse => 93
  | .append => 67
  | .transpose => 69
  | .diagonal => 71
  | .windows => 73
  | .chunk => 75
  | .index => 93
  | .update => 93
  | .pack => 57
def dC : Op13 → List AV
  | .reverse => [.dptr [I 1]]
  | .index => [.dptr [I 0]]
  | .update => [.dptr [I 1]]
  | _ => []
def eF : Op13 → FuncId
  | .iota => 58
  | .fill => 59
  | .take => 55
  | .drop => 63
  | .reverse => 65
  | .append => 68
  | .transpose => 70
  | .diagonal => 72
  | .windows => 74
  | .chunk => 76
  | .index => 77
  | .update => 78
  | .pack => 79

abbrev rowV (o : Op13) : AV := .tup [.agg [ints (rk o), I (sz o), .fn (dF o) (dC o), .fn (eF o) []], B true]
abbrev noRow : AV := .tup [.agg [ints [], I 0, .c Value.nilFunc, .c Value.nilFunc], B false]
theorem find_row (e : ByteArray) : Meets Try.prog 37 [S e] (match opOf e with | some o => rowV o | none => noRow) := by
  refine Meets.weak (find e) fun ok w v hv => ?_
  have nil1 : ∀ {xs : List AV} {b : AV} {v : Value}, RepD ok w (.tup [.agg (.nils :: xs), b]) v → RepD ok w (.tup [.agg (ints [] :: xs), b]) v := fun h => tup_imp (fun _ => cons_imp (fun _ => agg_imp fun _ => cons_imp (fun _ => nil_imp) fun _ h => h) fun _ h => h) h
  unfold findE at hv
  unfold opOf
  by_cases h1 : is_iota e = true
  · rw [if_pos h1] at hv ⊢; exact nil1 hv
  rw [if_neg h1] at hv ⊢
  by_cases h1 : is_fill e = true
  · rw [if_pos h1] at hv ⊢; exact hv
  rw [if_neg h1] at hv ⊢
  by_cases h1 : is_take e = true
  · rw [if_pos h1] at hv ⊢; exact hv
  rw [if_neg h1] at hv ⊢
  by_cases h1 : is_drop e = true
  · rw [if_pos h1] at hv ⊢; exact hv
  rw [if_neg h1] at hv ⊢
  by_cases h1 : is_reverse e = true
  · rw [if_pos h1] at hv ⊢; exact hv
  rw [if_neg h1] at hv ⊢
  by_cases h1 : is_append e = true
  · rw [if_pos h1] at hv ⊢; exact hv
  rw [if_neg h1] at hv ⊢
  by_cases h1 : is_transpose e = true
  · rw [if_pos h1] at hv ⊢; exact hv
  rw [if_neg h1] at hv ⊢
  by_cases h1 : is_diagonal e = true
  · rw [if_pos h1] at hv ⊢; exact hv
  rw [if_neg h1] at hv ⊢
  by_cases h1 : is_windows e = true
  · rw [if_pos h1] at hv ⊢; exact hv
  rw [if_neg h1] at hv ⊢
  by_cases h1 : is_chunk e = true
  · rw [if_pos h1] at hv ⊢; exact hv
  rw [if_neg h1] at hv ⊢
  by_cases h1 : is_index e = true
  · rw [if_pos h1] at hv ⊢; exact hv
  rw [if_neg h1] at hv ⊢
  by_cases h1 : is_update e = true
  · rw [if_pos h1] at hv ⊢; exact hv
  rw [if_neg h1] at hv ⊢
  by_cases h1 : is_pack e = true
  · rw [if_pos h1] at hv ⊢; exact nil1 hv
  rw [if_neg h1] at hv ⊢
  exact nil1 hv

/-- The dimensions of the result, of the size or number and the dimensions of the arguments. -/
def dm (o : Op13) (k : Int) (ns : List Int) : List Int × Int :=
  match o with
  | .iota => wi k (max k 0) [k]
  | .fill => wi k (max k 0) [k]
  | .take => wi k (ns.getD 0 0) [k]
  | .drop => wi k (ns.getD 0 0) [W (ns.getD 0 0 - k)]
  | .reverse => ([ns.getD 0 0], 0)
  | .append => ([W (ns.getD 0 0 + ns.getD 1 0)], 0)
  | .transpose => ([ns.getD 1 0, ns.getD 0 0], 0)
  | .diagonal => if ns.getD 0 0 ≠ ns.getD 1 0 then ([], 14) else ([ns.getD 0 0], 0)
  | .windows => wi k (ns.getD 0 0) [W (W (ns.getD 0 0 - k) + 1), k]
  | .chunk => if k < 1 ∨ 64 < k then ([], 2) else if (ns.getD 0 0).tmod k ≠ 0 then ([], 14) else ([W ((ns.getD 0 0).tdiv k), k], 0)
  | .index => ([], 0)
  | .update => ([ns.getD 0 0], 0)
  | .pack => wi k (max k 0) [k]

theorem dims_ (o : Op13) (k : Int) (ns : List Int) (hn : ns.length = (rk o).sum.toNat) : Meets Try.prog (dF o) ([I k, ints ns] ++ dC o) (twoI (dm o k ns)) := by
  cases o
  case iota => exact d_length k ns
  case fill => exact d_length k ns
  case pack => exact d_length k ns
  case index => exact d_fixed0 k ns
  case append => match ns, hn with | [a, b], _ => exact d_append k a b []
  case transpose => match ns, hn with | [a, b], _ => exact d_transpose k a b []
  case diagonal => match ns, hn with | [a, b], _ => exact d_diagonal k a b []
  case take => match ns, hn with | [a], _ => exact d_take k a []
  case drop => match ns, hn with | [a], _ => exact d_drop k a []
  case windows => match ns, hn with | [a], _ => exact d_windows k a []
  case chunk => match ns, hn with | [a], _ => exact d_chunk k a []
  case reverse => match ns, hn with | [a], _ => exact d_fixed1 k a []
  case update => match ns, hn with | [a], _ => exact d_fixed1 k a []
end Go.Proofs.Ytbmmemglkjeogaa.S3
