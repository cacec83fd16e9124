/- Structure: names, forms, ranks and types. -/
import Derived.Test.YtbmmemglkjeogaaS5
namespace Go.Proofs.Ytbmmemglkjeogaa.S6
open Go Go.Proofs.Ytbmmemglkjeogaa.Eng Go.Proofs.Ytbmmemglkjeogaa Go.RowKit Go.Proofs.Ytbmmemglkjeogaa.A1 Go.Proofs.Ytbmmemglkjeogaa.A2 Go.Proofs.Ytbmmemglkjeogaa.A3 Go.Proofs.Ytbmmemglkjeogaa.S1 Go.Proofs.Ytbmmemglkjeogaa.S2 Go.Proofs.Ytbmmemglkjeogaa.S3 Go.Proofs.Ytbmmemglkjeogaa.S4 Go.Proofs.Ytbmmemglkjeogaa.S5
set_option linter.unusedSimpArgs false
set_option linter.unusedVariables false
set_option linter.unusedSectionVars false
set_option maxRecDepth 100000

def ix : Op13 → Nat
  | .iota => 0
  | .fill => 1
  | .take => 2
  | .drop => 3
  | .reverse => 4
  | .append => 5
  | .transpose => 6
  | .diagonal => 7
  | .windows => 8
  | .chunk => 9
  | .index => 10
  | .update => 11
  | .pack => 12
def lit : Op13 → List UInt8
  | .iota => ByteArray.toList ⟨#[105, 111, 116, 97]⟩
  | .fill => ByteArray.toList ⟨#[102, 105, 108, 108]⟩
  | .take => ByteArray.toList ⟨#[116, 97, 107, 101]⟩
  | .drop => ByteArray.toList ⟨#[100, 114, 111, 112]⟩
  | .reverse => ByteArray.toList ⟨#[114, 101, 118, 101, 114, 115, 101]⟩
  | .append => ByteArray.toList ⟨#[97, 112, 112, 101, 110, 100]⟩
  | .transpose => ByteArray.toList ⟨#[116, 114, 97, 110, 115, 112, 111, 115, 101]⟩
  | .diagonal => ByteArray.toList ⟨#[100, 105, 97, 103, 111, 110, 97, 108]⟩
  | .windows => ByteArray.toList ⟨#[119, 105, 110, 100, 111, 119, 115]⟩
  | .chunk => ByteArray.toList ⟨#[99, 104, 117, 110, 107]⟩
  | .index => ByteArray.toList ⟨#[105, 110, 100, 101, 120]⟩
  | .update => ByteArray.toList ⟨#[117, 112, 100, 97, 116, 101]⟩
  | .pack => ByteArray.toList ⟨#[112, 97, 99, 107]⟩
theorem lit_beq (o o' : Op13) : (lit o == lit o') = (ix o == ix o') := by
  cases o <;> cases o' <;> kernel_rfl
theorem op_lit {e : ByteArray} {o : Op13} (h : opOf e = some o) : e.toList = lit o := by
  unfold opOf at h
  by_cases h1 : is_iota e = true
  · rw [if_pos h1] at h; cases h; exact beq_iff_eq.1 h1
  rw [if_neg h1] at h
  by_cases h1 : is_fill e = true
  · rw [if_pos h1] at h; cases h; exact beq_iff_eq.1 h1
  rw [if_neg h1] at h
  by_cases h1 : is_take e = true
  · rw [if_pos h1] at h; cases h; exact beq_iff_eq.1 h1
  rw [if_neg h1] at h
  by_cases h1 : is_drop e = true
  · rw [if_pos h1] at h; cases h; exact beq_iff_eq.1 h1
  rw [if_neg h1] at h
  by_cases h1 : is_reverse e = true
  · rw [if_pos h1] at h; cases h; exact beq_iff_eq.1 h1
  rw [if_neg h1] at h
  by_cases h1 : is_append e = true
  · rw [if_pos h1] at h; cases h; exact beq_iff_eq.1 h1
  rw [if_neg h1] at h
  by_cases h1 : is_transpose e = true
  · rw [if_pos h1] at h; cases h; exact beq_iff_eq.1 h1
  rw [if_neg h1] at h
  by_cases h1 : is_diagonal e = true
  · rw [if_pos h1] at h; cases h; exact beq_iff_eq.1 h1
  rw [if_neg h1] at h
  by_cases h1 : is_windows e = true
  · rw [if_pos h1] at h; cases h; exact beq_iff_eq.1 h1
  rw [if_neg h1] at h
  by_cases h1 : is_chunk e = true
  · rw [if_pos h1] at h; cases h; exact beq_iff_eq.1 h1
  rw [if_neg h1] at h
  by_cases h1 : is_index e = true
  · rw [if_pos h1] at h; cases h; exact beq_iff_eq.1 h1
  rw [if_neg h1] at h
  by_cases h1 : is_update e = true
  · rw [if_pos h1] at h; cases h; exact beq_iff_eq.1 h1
  rw [if_neg h1] at h
  by_cases h1 : is_pack e = true
  · rw [if_pos h1] at h; cases h; exact beq_iff_eq.1 h1
  rw [if_neg h1] at h
  cases h
theorem op_is {e : ByteArray} {o : Op13} (h : opOf e = some o) (o' : Op13) : (e.toList == lit o') = (ix o == ix o') := by
  rw [op_lit h, lit_beq]
theorem op_no {e : ByteArray} (h : opOf e = none) (o' : Op13) : (e.toList == lit o') = false := by
  unfold opOf at h
  by_cases h_iota : is_iota e = true
  · rw [if_pos h_iota] at h; cases h
  rw [if_neg h_iota] at h
  by_cases h_fill : is_fill e = true
  · rw [if_pos h_fill] at h; cases h
  rw [if_neg h_fill] at h
  by_cases h_take : is_take e = true
  · rw [if_pos h_take] at h; cases h
  rw [if_neg h_take] at h
  by_cases h_drop : is_drop e = true
  · rw [if_pos h_drop] at h; cases h
  rw [if_neg h_drop] at h
  by_cases h_reverse : is_reverse e = true
  · rw [if_pos h_reverse] at h; cases h
  rw [if_neg h_reverse] at h
  by_cases h_append : is_append e = true
  · rw [if_pos h_append] at h; cases h
  rw [if_neg h_append] at h
  by_cases h_transpose : is_transpose e = true
  · rw [if_pos h_transpose] at h; cases h
  rw [if_neg h_transpose] at h
  by_cases h_diagonal : is_diagonal e = true
  · rw [if_pos h_diagonal] at h; cases h
  rw [if_neg h_diagonal] at h
  by_cases h_windows : is_windows e = true
  · rw [if_pos h_windows] at h; cases h
  rw [if_neg h_windows] at h
  by_cases h_chunk : is_chunk e = true
  · rw [if_pos h_chunk] at h; cases h
  rw [if_neg h_chunk] at h
  by_cases h_index : is_index e = true
  · rw [if_pos h_index] at h; cases h
  rw [if_neg h_index] at h
  by_cases h_update : is_update e = true
  · rw [if_pos h_update] at h; cases h
  rw [if_neg h_update] at h
  by_cases h_pack : is_pack e = true
  · rw [if_pos h_pack] at h; cases h
  rw [if_neg h_pack] at h
  cases o'
  · exact Bool.eq_false_iff.2 h_iota
  · exact Bool.eq_false_iff.2 h_fill
  · exact Bool.eq_false_iff.2 h_take
  · exact Bool.eq_false_iff.2 h_drop
  · exact Bool.eq_false_iff.2 h_reverse
  · exact Bool.eq_false_iff.2 h_append
  · exact Bool.eq_false_iff.2 h_transpose
  · exact Bool.eq_false_iff.2 h_diagonal
  · exact Bool.eq_false_iff.2 h_windows
  · exact Bool.eq_false_iff.2 h_chunk
  · exact Bool.eq_false_iff.2 h_index
  · exact Bool.eq_false_iff.2 h_update
  · exact Bool.eq_false_iff.2 h_pack
theorem op_of {e : ByteArray} {o : Op13} (h : e.toList = lit o) : opOf e = some o := by
  cases h' : opOf e with
  | none =>
    have := op_no h' o
    rw [h, beq_self_eq_true] at this
    cases this
  | some o' =>
    have h1 := op_is h' o
    rw [h, beq_self_eq_true] at h1
    have : ix o' = ix o := by simpa using h1.symm
    congr 1
    revert this
    cases o <;> cases o' <;> simp [ix]

/-- What the form is worth. -/
def formE (e : ByteArray) (ns nc : Nat) (num : Int) : Int :=
  match opOf e with
  | none => 7
  | some o => if (if (ix o == 12) = true then decide ((0 : Int) < nc) else (((rk o).length : Int) == (nc : Int))) && !((ns : Int) != sz o) && !((num != 0) && !(ix o == 9)) then 0 else 1

theorem checkForm_ (e : ByteArray) (zs : List Int) (num : Int) (nc : Nat) : Meets Try.prog 34 [S e, ints zs, I num, I nc] (I (formE e zs.length nc num)) := by
  have hf := find_row e
  unfold formE
  cases ho : opOf e with
  | none =>
    rw [ho] at hf
    refine meets_of (X := false) Ty.mixed Try.func34 (by kernel_rfl) rfl (by kernel_rfl) (by simp) ?_; rw [Try.ntmps34, Try.results34]
    simp only [awp_reg, awp_seq, seqQ_n, awpOps_nil, awpOps_one, awpOp_is, isCallV, callW_is, callV_is, putK_is, put_s, slot_is, pureOp, apureO, aev, cv, cvc, argT, Bool.false_eq_true, ↓reduceIte, List.map_cons, List.map_nil, List.append_nil, reduceCtorEq, Nat.reduceAdd, Nat.zero_add]
    refine call_meets (hf) (by simp only [aev, cv, cvc, toD_c, consO_some, toDL_nil, toDL_cons] <;> rfl) ?_; simp only [awp_reg, awp_seq, awp_cond, awp_ret, seqQ_n, seqQ_r, awpOps_nil, awpOps_one, awpOp_is, isCallV, putK_is, updK_is, put_s, upd_n, upd_s, slot_is, retA_is, pureOp, apureO, astepO, killT, aev, cv, cvc, elO_s, storeA, cellsA, cellOk, setAll, condA_t, flat_c, flat_tup, flat_agg, flat_sl, flatL_nil, flatL_cons, ownsV_c, ownsL_nil, ownsL_cons, toD_c, notExit, resA_nil, resA_tmp, oneA_1, Bool.false_eq_true, ↓reduceIte, List.getElem?_cons_zero, List.getElem?_cons_succ, List.length_cons, List.length_nil, List.map_cons, List.map_nil, List.nil_append, List.append_nil, List.set_cons_zero, List.all_cons, List.all_nil, Bool.and_true, Bool.true_and, Bool.and_self, Bool.or_true, Bool.not_false, Value.oneCell', true_and, and_true, and_self, Nat.reduceAdd, Nat.reduceEqDiff, Nat.zero_add, List.isEmpty_nil, Nat.le_refl, Ty.td63]
  | some o =>
    rw [ho] at hf
    simp only at hf ⊢
    have h1 : is_pack e = (ix o == 12) := op_is ho .pack
    have h2 : is_chunk e = (ix o == 9) := op_is ho .chunk
    generalize hb1 : (ix o == 12) = b1 at *
    generalize hb2 : (ix o == 9) = b2 at *
    cases b1
    · cases h3 : (((rk o).length : Int) == (nc : Int))
      · simp only [Bool.false_eq_true, if_false, if_true, Bool.false_and, Bool.true_and]
        refine meets_of (X := false) Ty.mixed Try.func34 (by kernel_rfl) rfl (by kernel_rfl) (by simp) ?_; rw [Try.ntmps34, Try.results34]
        simp only [awp_reg, awp_seq, seqQ_n, awpOps_nil, awpOps_one, awpOp_is, isCallV, callW_is, callV_is, putK_is, put_s, slot_is, pureOp, apureO, aev, cv, cvc, argT, Bool.false_eq_true, ↓reduceIte, List.map_cons, List.map_nil, List.append_nil, reduceCtorEq, Nat.reduceAdd, Nat.zero_add]
        refine call_meets (hf) (by simp only [aev, cv, cvc, toD_c, consO_some, toDL_nil, toDL_cons, h1, h2, h3] <;> rfl) ?_; simp only [awp_skip, awp_reg, awp_seq, awp_cond, awp_ret, seqQ_n, seqQ_r, awpOps_nil, awpOps_one, awpOps_if, awpOp_is, isCallV, putK_is, updK_is, put_s, upd_n, upd_s, slot_is, retA_is, pureOp, apureO, astepO, killT, aev, cv, cvc, binK, elO_s, elO_none, lenA, lenK, loadA_p, storeA, cellsA, cellOk, setAll, yieldA, guardA_no, guardA_ft, condA_t, condA_f, pickA_t, flat_c, flat_tup, flat_agg, flat_sl, flat_fn, flatL_nil, flatL_cons, ownsV_c, ownsL_nil, ownsL_cons, toD_c, notExit, resA_nil, resA_tmp, oneA_1, Bool.false_eq_true, ↓reduceIte, List.getElem?_cons_zero, List.getElem?_cons_succ, List.length_cons, List.length_nil, List.map_cons, List.map_nil, List.nil_append, List.append_nil, List.set_cons_zero, List.set_cons_succ, List.getElem?_toArray, Option.bind_some, List.all_cons, List.all_nil, Bool.and_true, Bool.true_and, Bool.and_false, Bool.and_self, Bool.or_true, Bool.not_true, Bool.not_false, Value.oneCell', true_and, and_true, and_self, ne_eq, not_false_eq_true, reduceCtorEq, Nat.reduceAdd, Nat.reduceEqDiff, Nat.zero_add, List.isEmpty_nil, Option.isSome_some, Nat.le_refl, Ty.td22, Ty.td63, h1, h2, h3, List.length_map]
      cases h5 : ((zs.length : Int) != sz o)
      case true =>
        refine meets_of (X := false) Ty.mixed Try.func34 (by kernel_rfl) rfl (by kernel_rfl) (by simp) ?_; rw [Try.ntmps34, Try.results34]
        simp only [awp_reg, awp_seq, seqQ_n, awpOps_nil, awpOps_one, awpOp_is, isCallV, callW_is, callV_is, putK_is, put_s, slot_is, pureOp, apureO, aev, cv, cvc, argT, Bool.false_eq_true, ↓reduceIte, List.map_cons, List.map_nil, List.append_nil, Bool.false_and, Bool.and_false, Bool.not_true, reduceCtorEq, Nat.reduceAdd, Nat.zero_add]
        refine call_meets (hf) (by simp only [aev, cv, cvc, toD_c, consO_some, toDL_nil, toDL_cons, h1, h2, h3, h5] <;> rfl) ?_; simp only [awp_skip, awp_reg, awp_seq, awp_cond, awp_ret, seqQ_n, seqQ_r, awpOps_nil, awpOps_one, awpOps_if, awpOp_is, isCallV, awpO_is, putK_is, updK_is, put_s, upd_n, upd_s, slot_is, retA_is, pureOp, apureO, astepO, killT, aev, cv, cvc, binK, elO_s, elO_none, lenA, lenK, loadA_p, storeA, cellsA, cellOk, setAll, yieldA, guardA_no, guardA_ft, guardA_ff, condA_t, condA_f, pickA_t, pickA_f, flat_c, flat_tup, flat_agg, flat_sl, flat_fn, flatL_nil, flatL_cons, ownsV_c, ownsL_nil, ownsL_cons, toD_c, notExit, resA_nil, resA_tmp, oneA_1, Bool.false_eq_true, ↓reduceIte, List.getElem?_cons_zero, List.getElem?_cons_succ, List.length_cons, List.length_nil, List.map_cons, List.map_nil, List.nil_append, List.append_nil, List.set_cons_zero, List.set_cons_succ, List.getElem?_toArray, Option.bind_some, List.all_cons, List.all_nil, Bool.and_true, Bool.true_and, Bool.and_false, Bool.and_self, Bool.or_true, Bool.not_true, Value.oneCell', true_and, and_true, and_self, ne_eq, not_false_eq_true, reduceCtorEq, Nat.reduceAdd, Nat.reduceEqDiff, Nat.zero_add, List.isEmpty_nil, Option.isSome_some, Nat.le_refl, Ty.td3, Ty.td22, Ty.td63, h1, h2, h3, h5, List.length_map]
      cases h6 : (num != 0)
      case false =>
        refine meets_of (X := false) Ty.mixed Try.func34 (by kernel_rfl) rfl (by kernel_rfl) (by simp) ?_; rw [Try.ntmps34, Try.results34]
        simp only [awp_reg, awp_seq, seqQ_n, awpOps_nil, awpOps_one, awpOp_is, isCallV, callW_is, callV_is, putK_is, put_s, slot_is, pureOp, apureO, aev, cv, cvc, argT, Bool.false_eq_true, ↓reduceIte, List.map_cons, List.map_nil, List.append_nil, Bool.false_and, Bool.and_self, Bool.not_false, and_self, reduceCtorEq, Nat.reduceAdd, Nat.zero_add]
        refine call_meets (hf) (by simp only [aev, cv, cvc, toD_c, consO_some, toDL_nil, toDL_cons, h1, h2, h3, h5, h6] <;> rfl) ?_; simp only [awp_skip, awp_reg, awp_seq, awp_cond, awp_ret, seqQ_n, awpOps_nil, awpOps_one, awpOps_if, awpOp_is, isCallV, awpO_is, putK_is, updK_is, put_s, upd_n, upd_s, slot_is, retA_is, pureOp, apureO, astepO, killT, aev, cv, cvc, binK, elO_s, elO_none, lenA, lenK, loadA_p, storeA, cellsA, cellOk, setAll, yieldA, guardA_tf, guardA_ff, condA_f, pickA_f, flat_c, flat_tup, flat_agg, flat_sl, flat_fn, flatL_nil, flatL_cons, ownsV_c, ownsL_nil, ownsL_cons, toD_c, notExit, resA_nil, resA_tmp, oneA_1, Bool.false_eq_true, ↓reduceIte, List.getElem?_cons_zero, List.getElem?_cons_succ, List.length_cons, List.length_nil, List.map_cons, List.map_nil, List.nil_append, List.append_nil, List.set_cons_zero, List.set_cons_succ, List.getElem?_toArray, Option.bind_some, List.all_cons, List.all_nil, Bool.and_true, Bool.true_and, Bool.and_false, Bool.and_self, Bool.or_true, Bool.not_true, Value.oneCell', true_and, and_true, and_self, ne_eq, not_false_eq_true, reduceCtorEq, Nat.reduceAdd, Nat.reduceEqDiff, Nat.zero_add, List.isEmpty_nil, Option.isSome_some, Nat.le_refl, Ty.td3, Ty.td22, Ty.td63, h1, h2, h3, h5, h6, List.length_map]
      cases b2
      case false =>
        refine meets_of (X := false) Ty.mixed Try.func34 (by kernel_rfl) rfl (by kernel_rfl) (by simp) ?_; rw [Try.ntmps34, Try.results34]
        simp only [awp_reg, awp_seq, seqQ_n, awpOps_nil, awpOps_one, awpOp_is, isCallV, callW_is, callV_is, putK_is, put_s, slot_is, pureOp, apureO, aev, cv, cvc, argT, Bool.false_eq_true, ↓reduceIte, List.map_cons, List.map_nil, List.append_nil, Bool.and_false, Bool.and_self, Bool.not_true, Bool.not_false, and_self, reduceCtorEq, Nat.reduceAdd, Nat.zero_add]
        refine call_meets (hf) (by simp only [aev, cv, cvc, toD_c, consO_some, toDL_nil, toDL_cons, h1, h2, h3, h5, h6] <;> rfl) ?_; simp only [awp_skip, awp_reg, awp_seq, awp_cond, awp_ret, seqQ_n, seqQ_r, awpOps_nil, awpOps_one, awpOps_if, awpOp_is, isCallV, awpO_is, putK_is, updK_is, put_s, upd_n, upd_s, slot_is, retA_is, pureOp, apureO, astepO, killT, aev, cv, cvc, binK, elO_s, elO_none, lenA, lenK, loadA_p, storeA, cellsA, cellOk, setAll, yieldA, guardA_tt, guardA_ff, condA_t, condA_f, pickA_t, pickA_f, flat_c, flat_tup, flat_agg, flat_sl, flat_fn, flatL_nil, flatL_cons, ownsV_c, ownsL_nil, ownsL_cons, toD_c, notExit, resA_nil, resA_tmp, oneA_1, Bool.false_eq_true, ↓reduceIte, List.getElem?_cons_zero, List.getElem?_cons_succ, List.length_cons, List.length_nil, List.map_cons, List.map_nil, List.nil_append, List.append_nil, List.set_cons_zero, List.set_cons_succ, List.getElem?_toArray, Option.bind_some, List.all_cons, List.all_nil, Bool.and_true, Bool.true_and, Bool.and_false, Bool.and_self, Bool.or_true, Bool.not_true, Bool.not_false, Value.oneCell', true_and, and_true, and_self, ne_eq, not_false_eq_true, reduceCtorEq, Nat.reduceAdd, Nat.reduceEqDiff, Nat.zero_add, List.isEmpty_nil, Option.isSome_some, Nat.le_refl, Ty.td3, Ty.td22, Ty.td63, h1, h2, h3, h5, h6, List.length_map]
      case true =>
        refine meets_of (X := false) Ty.mixed Try.func34 (by kernel_rfl) rfl (by kernel_rfl) (by simp) ?_; rw [Try.ntmps34, Try.results34]
        simp only [awp_reg, awp_seq, seqQ_n, awpOps_nil, awpOps_one, awpOp_is, isCallV, callW_is, callV_is, putK_is, put_s, slot_is, pureOp, apureO, aev, cv, cvc, argT, Bool.false_eq_true, ↓reduceIte, List.map_cons, List.map_nil, List.append_nil, Bool.and_false, Bool.and_self, Bool.not_true, Bool.not_false, and_self, reduceCtorEq, Nat.reduceAdd, Nat.zero_add]
        refine call_meets (hf) (by simp only [aev, cv, cvc, toD_c, consO_some, toDL_nil, toDL_cons, h1, h2, h3, h5, h6] <;> rfl) ?_; simp only [awp_skip, awp_reg, awp_seq, awp_cond, awp_ret, seqQ_n, awpOps_nil, awpOps_one, awpOps_if, awpOp_is, isCallV, awpO_is, putK_is, updK_is, put_s, upd_n, upd_s, slot_is, retA_is, pureOp, apureO, astepO, killT, aev, cv, cvc, binK, elO_s, elO_none, lenA, lenK, loadA_p, storeA, cellsA, cellOk, setAll, yieldA, guardA_tt, guardA_ff, condA_f, pickA_t, pickA_f, flat_c, flat_tup, flat_agg, flat_sl, flat_fn, flatL_nil, flatL_cons, ownsV_c, ownsL_nil, ownsL_cons, toD_c, notExit, resA_nil, resA_tmp, oneA_1, Bool.false_eq_true, ↓reduceIte, List.getElem?_cons_zero, List.getElem?_cons_succ, List.length_cons, List.length_nil, List.map_cons, List.map_nil, List.nil_append, List.append_nil, List.set_cons_zero, List.set_cons_succ, List.getElem?_toArray, Option.bind_some, List.all_cons, List.all_nil, Bool.and_true, Bool.true_and, Bool.and_false, Bool.and_self, Bool.or_true, Bool.not_true, Value.oneCell', true_and, and_true, and_self, ne_eq, not_false_eq_true, reduceCtorEq, Nat.reduceAdd, Nat.reduceEqDiff, Nat.zero_add, List.isEmpty_nil, Option.isSome_some, Nat.le_refl, Ty.td3, Ty.td22, Ty.td63, h1, h2, h3, h5, h6, List.length_map]
    · cases h4 : decide ((0 : Int) < nc)
      · simp only [Bool.false_eq_true, if_false, if_true, Bool.false_and, Bool.true_and]
        refine meets_of (X := false) Ty.mixed Try.func34 (by kernel_rfl) rfl (by kernel_rfl) (by simp) ?_; rw [Try.ntmps34, Try.results34]
        simp only [awp_reg, awp_seq, seqQ_n, awpOps_nil, awpOps_one, awpOp_is, isCallV, callW_is, callV_is, putK_is, put_s, slot_is, pureOp, apureO, aev, cv, cvc, argT, Bool.false_eq_true, ↓reduceIte, List.map_cons, List.map_nil, List.append_nil, reduceCtorEq, Nat.reduceAdd, Nat.zero_add]
        refine call_meets (hf) (by simp only [aev, cv, cvc, toD_c, consO_some, toDL_nil, toDL_cons, h1, h2, h4] <;> rfl) ?_; simp only [awp_skip, awp_reg, awp_seq, awp_cond, awp_ret, seqQ_n, seqQ_r, awpOps_nil, awpOps_one, awpOps_if, awpOp_is, isCallV, putK_is, updK_is, put_s, upd_n, upd_s, slot_is, retA_is, pureOp, apureO, astepO, killT, aev, cv, cvc, binK, elO_s, elO_none, lenA, lenK, loadA_p, storeA, cellsA, cellOk, setAll, yieldA, guardA_no, guardA_ft, condA_t, condA_f, pickA_t, flat_c, flat_tup, flat_agg, flat_sl, flat_fn, flatL_nil, flatL_cons, ownsV_c, ownsL_nil, ownsL_cons, toD_c, notExit, resA_nil, resA_tmp, oneA_1, Bool.false_eq_true, ↓reduceIte, List.getElem?_cons_zero, List.getElem?_cons_succ, List.length_cons, List.length_nil, List.map_cons, List.map_nil, List.nil_append, List.append_nil, List.set_cons_zero, List.set_cons_succ, List.getElem?_toArray, Option.bind_some, List.all_cons, List.all_nil, Bool.and_true, Bool.true_and, Bool.and_false, Bool.and_self, Bool.or_true, Bool.not_true, Bool.not_false, Value.oneCell', true_and, and_true, and_self, ne_eq, not_false_eq_true, reduceCtorEq, Nat.reduceAdd, Nat.reduceEqDiff, Nat.zero_add, List.isEmpty_nil, Option.isSome_some, Nat.le_refl, Ty.td22, Ty.td63, h1, h2, h4, List.length_map]
      cases h5 : ((zs.length : Int) != sz o)
      case true =>
        refine meets_of (X := false) Ty.mixed Try.func34 (by kernel_rfl) rfl (by kernel_rfl) (by simp) ?_; rw [Try.ntmps34, Try.results34]
        simp only [awp_reg, awp_seq, seqQ_n, awpOps_nil, awpOps_one, awpOp_is, isCallV, callW_is, callV_is, putK_is, put_s, slot_is, pureOp, apureO, aev, cv, cvc, argT, Bool.false_eq_true, ↓reduceIte, List.map_cons, List.map_nil, List.append_nil, Bool.false_and, Bool.and_false, Bool.not_true, reduceCtorEq, Nat.reduceAdd, Nat.zero_add]
        refine call_meets (hf) (by simp only [aev, cv, cvc, toD_c, consO_some, toDL_nil, toDL_cons, h1, h2, h4, h5] <;> rfl) ?_; simp only [awp_skip, awp_reg, awp_seq, awp_cond, awp_ret, seqQ_n, seqQ_r, awpOps_nil, awpOps_one, awpOps_if, awpOp_is, isCallV, awpO_is, putK_is, updK_is, put_s, upd_n, upd_s, slot_is, retA_is, pureOp, apureO, astepO, killT, aev, cv, cvc, binK, elO_s, elO_none, lenA, lenK, loadA_p, storeA, cellsA, cellOk, setAll, yieldA, guardA_no, guardA_ft, guardA_ff, condA_t, condA_f, pickA_t, pickA_f, flat_c, flat_tup, flat_agg, flat_sl, flat_fn, flatL_nil, flatL_cons, ownsV_c, ownsL_nil, ownsL_cons, toD_c, notExit, resA_nil, resA_tmp, oneA_1, Bool.false_eq_true, ↓reduceIte, List.getElem?_cons_zero, List.getElem?_cons_succ, List.length_cons, List.length_nil, List.map_cons, List.map_nil, List.nil_append, List.append_nil, List.set_cons_zero, List.set_cons_succ, List.getElem?_toArray, Option.bind_some, List.all_cons, List.all_nil, Bool.and_true, Bool.true_and, Bool.and_false, Bool.and_self, Bool.or_true, Bool.not_true, Value.oneCell', true_and, and_true, and_self, ne_eq, not_false_eq_true, reduceCtorEq, Nat.reduceAdd, Nat.reduceEqDiff, Nat.zero_add, List.isEmpty_nil, Option.isSome_some, Nat.le_refl, Ty.td3, Ty.td22, Ty.td63, h1, h2, h4, h5, List.length_map]
      cases h6 : (num != 0)
      case false =>
        refine meets_of (X := false) Ty.mixed Try.func34 (by kernel_rfl) rfl (by kernel_rfl) (by simp) ?_; rw [Try.ntmps34, Try.results34]
        simp only [awp_reg, awp_seq, seqQ_n, awpOps_nil, awpOps_one, awpOp_is, isCallV, callW_is, callV_is, putK_is, put_s, slot_is, pureOp, apureO, aev, cv, cvc, argT, Bool.false_eq_true, ↓reduceIte, List.map_cons, List.map_nil, List.append_nil, Bool.false_and, Bool.and_self, Bool.not_false, and_self, reduceCtorEq, Nat.reduceAdd, Nat.zero_add]
        refine call_meets (hf) (by simp only [aev, cv, cvc, toD_c, consO_some, toDL_nil, toDL_cons, h1, h2, h4, h5, h6] <;> rfl) ?_; simp only [awp_skip, awp_reg, awp_seq, awp_cond, awp_ret, seqQ_n, awpOps_nil, awpOps_one, awpOps_if, awpOp_is, isCallV, awpO_is, putK_is, updK_is, put_s, upd_n, upd_s, slot_is, retA_is, pureOp, apureO, astepO, killT, aev, cv, cvc, binK, elO_s, elO_none, lenA, lenK, loadA_p, storeA, cellsA, cellOk, setAll, yieldA, guardA_tf, guardA_ff, condA_t, condA_f, pickA_f, flat_c, flat_tup, flat_agg, flat_sl, flat_fn, flatL_nil, flatL_cons, ownsV_c, ownsL_nil, ownsL_cons, toD_c, notExit, resA_nil, resA_tmp, oneA_1, Bool.false_eq_true, ↓reduceIte, List.getElem?_cons_zero, List.getElem?_cons_succ, List.length_cons, List.length_nil, List.map_cons, List.map_nil, List.nil_append, List.append_nil, List.set_cons_zero, List.set_cons_succ, List.getElem?_toArray, Option.bind_some, List.all_cons, List.all_nil, Bool.and_true, Bool.true_and, Bool.and_false, Bool.and_self, Bool.or_true, Bool.not_true, Value.oneCell', true_and, and_true, and_self, ne_eq, not_false_eq_true, reduceCtorEq, Nat.reduceAdd, Nat.reduceEqDiff, Nat.zero_add, List.isEmpty_nil, Option.isSome_some, Nat.le_refl, Ty.td3, Ty.td22, Ty.td63, h1, h2, h4, h5, h6, List.length_map]
      cases b2
      case false =>
        refine meets_of (X := false) Ty.mixed Try.func34 (by kernel_rfl) rfl (by kernel_rfl) (by simp) ?_; rw [Try.ntmps34, Try.results34]
        simp only [awp_reg, awp_seq, seqQ_n, awpOps_nil, awpOps_one, awpOp_is, isCallV, callW_is, callV_is, putK_is, put_s, slot_is, pureOp, apureO, aev, cv, cvc, argT, Bool.false_eq_true, ↓reduceIte, List.map_cons, List.map_nil, List.append_nil, Bool.and_false, Bool.and_self, Bool.not_true, Bool.not_false, and_self, reduceCtorEq, Nat.reduceAdd, Nat.zero_add]
        refine call_meets (hf) (by simp only [aev, cv, cvc, toD_c, consO_some, toDL_nil, toDL_cons, h1, h2, h4, h5, h6] <;> rfl) ?_; simp only [awp_skip, awp_reg, awp_seq, awp_cond, awp_ret, seqQ_n, seqQ_r, awpOps_nil, awpOps_one, awpOps_if, awpOp_is, isCallV, awpO_is, putK_is, updK_is, put_s, upd_n, upd_s, slot_is, retA_is, pureOp, apureO, astepO, killT, aev, cv, cvc, binK, elO_s, elO_none, lenA, lenK, loadA_p, storeA, cellsA, cellOk, setAll, yieldA, guardA_tt, guardA_ff, condA_t, condA_f, pickA_t, pickA_f, flat_c, flat_tup, flat_agg, flat_sl, flat_fn, flatL_nil, flatL_cons, ownsV_c, ownsL_nil, ownsL_cons, toD_c, notExit, resA_nil, resA_tmp, oneA_1, Bool.false_eq_true, ↓reduceIte, List.getElem?_cons_zero, List.getElem?_cons_succ, List.length_cons, List.length_nil, List.map_cons, List.map_nil, List.nil_append, List.append_nil, List.set_cons_zero, List.set_cons_succ, List.getElem?_toArray, Option.bind_some, List.all_cons, List.all_nil, Bool.and_true, Bool.true_and, Bool.and_false, Bool.and_self, Bool.or_true, Bool.not_true, Bool.not_false, Value.oneCell', true_and, and_true, and_self, ne_eq, not_false_eq_true, reduceCtorEq, Nat.reduceAdd, Nat.reduceEqDiff, Nat.zero_add, List.isEmpty_nil, Option.isSome_some, Nat.le_refl, Ty.td3, Ty.td22, Ty.td63, h1, h2, h4, h5, h6, List.length_map]
      case true =>
        refine meets_of (X := false) Ty.mixed Try.func34 (by kernel_rfl) rfl (by kernel_rfl) (by simp) ?_; rw [Try.ntmps34, Try.results34]
        simp only [awp_reg, awp_seq, seqQ_n, awpOps_nil, awpOps_one, awpOp_is, isCallV, callW_is, callV_is, putK_is, put_s, slot_is, pureOp, apureO, aev, cv, cvc, argT, Bool.false_eq_true, ↓reduceIte, List.map_cons, List.map_nil, List.append_nil, Bool.and_false, Bool.and_self, Bool.not_true, Bool.not_false, and_self, reduceCtorEq, Nat.reduceAdd, Nat.zero_add]
        refine call_meets (hf) (by simp only [aev, cv, cvc, toD_c, consO_some, toDL_nil, toDL_cons, h1, h2, h4, h5, h6] <;> rfl) ?_; simp only [awp_skip, awp_reg, awp_seq, awp_cond, awp_ret, seqQ_n, awpOps_nil, awpOps_one, awpOps_if, awpOp_is, isCallV, awpO_is, putK_is, updK_is, put_s, upd_n, upd_s, slot_is, retA_is, pureOp, apureO, astepO, killT, aev, cv, cvc, binK, elO_s, elO_none, lenA, lenK, loadA_p, storeA, cellsA, cellOk, setAll, yieldA, guardA_tt, guardA_ff, condA_t, condA_f, pickA_t, pickA_f, flat_c, flat_tup, flat_agg, flat_sl, flat_fn, flatL_nil, flatL_cons, ownsV_c, ownsL_nil, ownsL_cons, toD_c, notExit, resA_nil, resA_tmp, oneA_1, Bool.false_eq_true, ↓reduceIte, List.getElem?_cons_zero, List.getElem?_cons_succ, List.length_cons, List.length_nil, List.map_cons, List.map_nil, List.nil_append, List.append_nil, List.set_cons_zero, List.set_cons_succ, List.getElem?_toArray, Option.bind_some, List.all_cons, List.all_nil, Bool.and_true, Bool.true_and, Bool.and_false, Bool.and_self, Bool.or_true, Bool.not_true, Value.oneCell', true_and, and_true, and_self, ne_eq, not_false_eq_true, reduceCtorEq, Nat.reduceAdd, Nat.reduceEqDiff, Nat.zero_add, List.isEmpty_nil, Option.isSome_some, Nat.le_refl, Ty.td3, Ty.td22, Ty.td63, h1, h2, h4, h5, h6, List.length_map]
end Go.Proofs.Ytbmmemglkjeogaa.S6
