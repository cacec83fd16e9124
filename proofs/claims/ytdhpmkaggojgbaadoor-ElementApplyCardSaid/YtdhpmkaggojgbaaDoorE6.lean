/- Apply in the program and in the reference: the same for any name and any arguments. -/
import Derived.Test.YtdhpmkaggojgbaaDoorE5
import Derived.Test.YtdhpmkaggojgbaaDoorD17
namespace Go.Proofs.YtdhpmkaggojgbaaDoor.E6
open Go Go.Proofs.YtdhpmkaggojgbaaDoor.Eng Go.Proofs.YtdhpmkaggojgbaaDoor Go.RowKit Go.Proofs.YtdhpmkaggojgbaaDoor.E0 Go.Proofs.YtdhpmkaggojgbaaDoor.E1 Go.Proofs.YtdhpmkaggojgbaaDoor.E3 Go.Proofs.YtdhpmkaggojgbaaDoor.E5 Go.Proofs.YtdhpmkaggojgbaaDoor.D17
set_option linter.unusedSimpArgs false
set_option linter.unusedVariables false
set_option linter.unusedSectionVars false
set_option maxRecDepth 100000

theorem valid_is (e : ByteArray) (n : Int) : ref17_Valid e n = some (validE e n) := by
  unfold ref17_Valid validE
  rw [eqB_is, eqB_is]
  cases h1 : eqB e (⟨#[105, 110, 116]⟩ : ByteArray) with
  | true =>
    obtain rfl := eqB_iff.1 h1
    rw [show eqB (⟨#[105, 110, 116]⟩ : ByteArray) (⟨#[98, 111, 111, 108]⟩ : ByteArray) = false from rfl]
    cases decide (-2147483648 ≤ n) <;> simp
  | false =>
    cases h2 : eqB e (⟨#[98, 111, 111, 108]⟩ : ByteArray) with
    | true => cases h3 : n == 0 <;> simp
    | false => simp
theorem quo_some (a b : Int) : ∃ v, element_quotient a b = some v := by
  unfold element_quotient iffO
  by_cases h : b = 0
  · exact ⟨0, by simp [h]⟩
  · simp only [beq_eq_false_iff_ne.2 h, Bool.false_eq_true, if_false, decide_eq_true_eq, ne_eq, h, not_false_eq_true, if_true]
    repeat' split
    all_goals exact ⟨_, rfl⟩
theorem number_is (b : Bool) : element_number b = some (if b = true then 1 else 0) := by cases b <;> rfl
theorem truth_some (op : ByteArray) (a b : Int) : ∃ v, element_truth op a b = some v := by
  unfold element_truth
  repeat' split
  all_goals exact ⟨_, rfl⟩
theorem ite_some {α : Type} {c : Prop} [Decidable c] {x y : Option α} (h : x.isSome = true) (k : y.isSome = true) : (if c then x else y).isSome = true := by split <;> assumption
theorem value_some (op : ByteArray) (x y z : Int) : ∃ v, element_value op x y z = some v := by
  obtain ⟨q, hq⟩ := quo_some x y
  obtain ⟨t, ht⟩ := truth_some op x y
  refine Option.isSome_iff_exists.1 ?_
  unfold element_value
  simp only [hq, ht, number_is, element_Wrap, Option.bind_some]
  repeat' (first | rfl | refine ite_some ?_ ?_)
def valF (op : ByteArray) (x y z : Int) : Int := (element_value op x y z).getD 0
theorem value_is (op : ByteArray) (x y z : Int) : element_value op x y z = some (valF op x y z) := by
  obtain ⟨v, hv⟩ := value_some op x y z
  unfold valF
  rw [hv]; rfl
def pApply (op : ByteArray) (zs : List Int) : Option (Int × Bool) :=
  if (findR op).isSome = true then
    if zs.length = cntE (rowF op) then
      some (if okA ([(rowF op).a, (rowF op).b, (rowF op).c].zip zs) = true then (valF op (zs.getD 0 0) (zs.getD 1 0) (zs.getD 2 0), true) else (0, false))
    else some (0, false)
  else some (0, false)
theorem arr3_is (zs : List Int) (h : zs.length ≤ 3) : arr3 zs = [I (zs.getD 0 0), I (zs.getD 1 0), I (zs.getD 2 0)] := by
  match zs, h with
  | [], _ => rfl
  | [x], _ => rfl
  | [x, y], _ => rfl
  | [x, y, z], _ => rfl
  | _ :: _ :: _ :: _ :: _, h => simp at h
theorem pApply_ok {op : ByteArray} {zs : List Int} {r : Int × Bool} (hr : pApply op zs = some r) : Meets Tryd.prog 11 [.c (.string op), .sl false 1 (zs.map e_int)] (.tup [.c (.int .i64 r.1), .c (.bool r.2)]) := by
  unfold pApply at hr
  have hf := find op
  have hc := count (rowF op)
  cases hs : (findR op).isSome with
  | false =>
    rw [hs] at hr hf
    cases hr
    refine meets_of (X := true) Ty.mixed Tryd.func11 (by kernel_rfl) rfl (by kernel_rfl) (by simp) ?_; rw [Tryd.ntmps11, Tryd.results11]
    simp only [awp_reg, awp_seq, seqQ_n, awpOps_nil, awpOps_one, awpOp_is, isCallV, callW_is, callV_is, putK_is, put_s, slot_is, pureOp, apureO, aev, cv, cvc, argT, isC, bsD, Bool.false_eq_true, ↓reduceIte, List.map_cons, List.map_nil, List.append_nil, reduceCtorEq, Nat.zero_add]
    refine call_meets (hf) (by simp only [aev, cv, cvc, toD_c, consO_some, toDL_nil, toDL_cons, isC, bsD] <;> rfl) ?_; simp only [awp_reg, awp_seq, awp_cond, awp_ret, seqQ_n, seqQ_r, awpOps_nil, awpOps_one, awpOps_if, awpOp_is, isCallV, putK_is, updK_is, put_s, upd_n, upd_s, slot_is, retA_is, pureOp, apureO, astepO, killT, aev, cv, cvc, elO_s, storeA, cellsA, cellOk, setAll, yieldA, guardA_ft, condA_t, pickA_t, flat_c, flat_tup, flat_agg, flatL_nil, flatL_cons, ownsV_c, ownsL_nil, ownsL_cons, toD_c, toD_tup, consO_some, toDL_nil, toDL_cons, notExit, resA_nil, resA_tmp, oneA_2, isC, bsD, Bool.false_eq_true, ↓reduceIte, List.getElem?_cons_zero, List.getElem?_cons_succ, List.length_cons, List.length_nil, List.map_cons, List.map_nil, List.nil_append, List.append_nil, List.set_cons_zero, List.getElem?_toArray, Option.bind_some, Option.map_some, List.all_cons, List.all_nil, Bool.and_true, Bool.true_and, Bool.and_self, Bool.or_true, Bool.not_false, Value.oneCell', true_and, and_true, and_self, Nat.reduceAdd, Nat.reduceEqDiff, Nat.zero_add, List.isEmpty_nil, Nat.le_refl, Ty.td49]
  | true =>
    rw [hs, if_pos rfl] at hr
    by_cases hn : zs.length = cntE (rowF op)
    · rw [if_pos hn] at hr
      have h3 := cnt_le (rowF op)
      have h := papply_ok op (valF op) (fun x y z => element_value_ok (value_is op x y z)) zs _ _ _ (arr3_is zs (by omega)) hs hn
      cases hr
      cases hk : okA ([(rowF op).a, (rowF op).b, (rowF op).c].zip zs) with
      | true =>
        rw [hk] at h
        exact h
      | false =>
        rw [hk] at h
        exact h
    · rw [if_neg hn] at hr
      rw [hs] at hf
      cases hr
      refine meets_of (X := true) Ty.mixed Tryd.func11 (by kernel_rfl) rfl (by kernel_rfl) (by simp) ?_; rw [Tryd.ntmps11, Tryd.results11]
      simp only [awp_reg, awp_seq, seqQ_n, awpOps_nil, awpOps_one, awpOp_is, isCallV, callW_is, callV_is, putK_is, put_s, slot_is, pureOp, apureO, aev, cv, cvc, argT, isC, bsD, Bool.false_eq_true, ↓reduceIte, List.map_cons, List.map_nil, List.append_nil, reduceCtorEq, Nat.zero_add]
      refine call_meets (hf) (by simp only [aev, cv, cvc, toD_c, consO_some, toDL_nil, toDL_cons, isC, bsD] <;> rfl) ?_; simp only [awp_reg, awp_seq, seqQ_n, awpOps_nil, awpOps_one, awpOps_if, awpOp_is, isCallV, callW_is, callV_is, awpO_is, putK_is, updK_is, put_s, upd_n, upd_s, slot_is, pureOp, apureO, astepO, killT, aev, cv, cvc, elO_s, lenA, lenK, loadA_p, storeA, cellsA, cellOk, setAll, yieldA, guardA_ff, flat_c, flat_tup, flat_agg, flatL_nil, flatL_cons, ownsV_c, ownsL_nil, ownsL_cons, mlenA_sl, isC, bsD, Bool.false_eq_true, ↓reduceIte, List.getElem?_cons_zero, List.getElem?_cons_succ, List.length_cons, List.length_nil, List.map_cons, List.map_nil, List.nil_append, List.append_nil, List.set_cons_zero, List.set_cons_succ, List.getElem?_toArray, Option.bind_some, List.take_succ_cons, List.drop_zero, List.all_cons, List.all_nil, Bool.true_and, Bool.and_self, Bool.or_true, Bool.not_true, Value.oneCell', true_and, and_self, reduceCtorEq, Nat.reduceAdd, Nat.reduceEqDiff, Nat.zero_add, List.isEmpty_nil, Option.isSome_some, Nat.le_refl, List.take_nil, Ty.td22, Ty.td49]
      refine call_meets (hc) (by simp only [aev, cv, cvc, toD_c, toD_agg, consO_some, toDL_nil, toDL_cons, isC, bsD, Option.map_some] <;> rfl) ?_; simp only [awp_cond, seqQ_n, awpOps_nil, awpOps_one, awpOps_if, awpOp_is, awpO_is, putK_is, put_s, upd_s, slot_is, pureOp, apureO, killT, aev, cv, cvc, binK, yieldA, guardA_ff, pickA_f, flat_c, ownsV_c, ownsV_agg, ownsL_nil, ownsL_cons, isC, bsD, ↓reduceIte, List.getElem?_cons_zero, List.getElem?_cons_succ, List.append_nil, List.getElem?_toArray, Option.bind_some, Bool.true_and, Bool.or_true, true_and, Nat.reduceEqDiff, List.isEmpty_nil]
      simp only [awp_reg, awp_seq, awp_ret, seqQ_n, seqQ_r, awpOps_nil, awpOps_one, awpOp_is, putK_is, put_s, slot_is, retA_is, pureOp, apureO, aev, cv, cvc, condA_t, toD_c, toD_tup, consO_some, toDL_nil, toDL_cons, notExit, resA_nil, resA_tmp, oneA_2, isC, bsD, ↓reduceIte, Option.map_some, Bool.and_self, and_self, Nat.reduceEqDiff, List.length_map, show ((zs.length : Int) != (cntE (rowF op) : Int)) = true from bne_iff_ne.2 (by omega)]

/-! The reference, by the number of parameters. -/
def elR (p : ByteArray) : ByteArray := if eqB p (⟨#[98, 111, 111, 108]⟩ : ByteArray) = true then (⟨#[98, 111, 111, 108]⟩ : ByteArray) else (⟨#[105, 110, 116]⟩ : ByteArray)
theorem ref_len {op : ByteArray} {ps : List ByteArray} {r : ByteArray} {zs : List Int} (h : ref17_Types op = some (ps, r, true)) (hn : ¬ zs.length = ps.length) : ref17_Apply op zs = some (0, false) := by
  unfold ref17_Apply
  rw [h, Option.bind_some]
  simp only [if_true]
  rw [if_pos (bne_iff_ne.2 (by omega))]
def stepR (ps : List ByteArray) (zs : List Int) (k : Nat) : Option (St Unit (Int × Bool)) := (ps[k]?).bind fun p => (zs[k]?).bind fun x => some (if validE (elR p) x = true then .nx () else .rt (0, false))
theorem ref_1 {op r p : ByteArray} (h : ref17_Types op = some ([p], r, true)) (x : Int) : ref17_Apply op [x] = if (validE (elR p) x) = true then (ref17_one op x).bind fun v => some (v, true) else some (0, false) := by
  unfold ref17_Apply
  rw [h, Option.bind_some]
  simp only [if_true, List.length_cons, List.length_nil, Nat.zero_add, Nat.reduceAdd, forC, forI, List.getElem?_cons_zero, List.getElem?_cons_succ, Option.bind_some, valid_is]
  have e0 : (if eqB p (⟨#[98, 111, 111, 108]⟩ : ByteArray) = true then validE (⟨#[98, 111, 111, 108]⟩ : ByteArray) x else validE (⟨#[105, 110, 116]⟩ : ByteArray) x) = validE (elR p) x := by unfold elR; split <;> rfl
  rw [← e0]
  cases eqB p (⟨#[98, 111, 111, 108]⟩ : ByteArray) <;> simp only [Bool.false_eq_true, if_false, if_true, Option.bind_some]
  all_goals
    cases validE _ x <;> simp [St.on]
theorem ref_2 {op r p q : ByteArray} (h : ref17_Types op = some ([p, q], r, true)) (x y : Int) : ref17_Apply op [x, y] = if (validE (elR p) x && validE (elR q) y) = true then (ref17_two op x y).bind fun v => some (v, true) else some (0, false) := by
  unfold ref17_Apply
  rw [h, Option.bind_some]
  simp only [if_true, List.length_cons, List.length_nil, Nat.zero_add, Nat.reduceAdd, forC, forI, List.getElem?_cons_zero, List.getElem?_cons_succ, Option.bind_some, valid_is]
  have e0 : (if eqB p (⟨#[98, 111, 111, 108]⟩ : ByteArray) = true then validE (⟨#[98, 111, 111, 108]⟩ : ByteArray) x else validE (⟨#[105, 110, 116]⟩ : ByteArray) x) = validE (elR p) x := by unfold elR; split <;> rfl
  have e1 : (if eqB q (⟨#[98, 111, 111, 108]⟩ : ByteArray) = true then validE (⟨#[98, 111, 111, 108]⟩ : ByteArray) y else validE (⟨#[105, 110, 116]⟩ : ByteArray) y) = validE (elR q) y := by unfold elR; split <;> rfl
  rw [← e0]
  rw [← e1]
  cases eqB p (⟨#[98, 111, 111, 108]⟩ : ByteArray) <;> cases eqB q (⟨#[98, 111, 111, 108]⟩ : ByteArray) <;> simp only [Bool.false_eq_true, if_false, if_true, Option.bind_some]
  all_goals
    cases validE _ x <;> cases validE _ y <;> simp [St.on]
theorem ref_3 {op r p q s : ByteArray} (h : ref17_Types op = some ([p, q, s], r, true)) (x y z : Int) : ref17_Apply op [x, y, z] = if (validE (elR p) x && validE (elR q) y && validE (elR s) z) = true then some (if (x == 1) = true then y else z, true) else some (0, false) := by
  unfold ref17_Apply
  rw [h, Option.bind_some]
  simp only [if_true, List.length_cons, List.length_nil, Nat.zero_add, Nat.reduceAdd, forC, forI, List.getElem?_cons_zero, List.getElem?_cons_succ, Option.bind_some, valid_is]
  have e0 : (if eqB p (⟨#[98, 111, 111, 108]⟩ : ByteArray) = true then validE (⟨#[98, 111, 111, 108]⟩ : ByteArray) x else validE (⟨#[105, 110, 116]⟩ : ByteArray) x) = validE (elR p) x := by unfold elR; split <;> rfl
  have e1 : (if eqB q (⟨#[98, 111, 111, 108]⟩ : ByteArray) = true then validE (⟨#[98, 111, 111, 108]⟩ : ByteArray) y else validE (⟨#[105, 110, 116]⟩ : ByteArray) y) = validE (elR q) y := by unfold elR; split <;> rfl
  have e2 : (if eqB s (⟨#[98, 111, 111, 108]⟩ : ByteArray) = true then validE (⟨#[98, 111, 111, 108]⟩ : ByteArray) z else validE (⟨#[105, 110, 116]⟩ : ByteArray) z) = validE (elR s) z := by unfold elR; split <;> rfl
  rw [← e0]
  rw [← e1]
  rw [← e2]
  cases eqB p (⟨#[98, 111, 111, 108]⟩ : ByteArray) <;> cases eqB q (⟨#[98, 111, 111, 108]⟩ : ByteArray) <;> cases eqB s (⟨#[98, 111, 111, 108]⟩ : ByteArray) <;> simp only [Bool.false_eq_true, if_false, if_true, Option.bind_some]
  all_goals
    cases validE _ x <;> cases validE _ y <;> cases validE _ z <;> simp [St.on]
  all_goals (split <;> rfl)

/-! The values, op by op. -/
theorem v_add (x y : Int) (h0 : validE (elR cI) x = true) (h1 : validE (elR cI) y = true) : ref17_two (⟨#[97, 100, 100]⟩ : ByteArray) x y = element_value (⟨#[97, 100, 100]⟩ : ByteArray) x y 0 := by
  rfl
theorem s_add (zs : List Int) : ref17_Apply (⟨#[97, 100, 100]⟩ : ByteArray) zs = pApply (⟨#[97, 100, 100]⟩ : ByteArray) zs := by
  have e0 : (findR (⟨#[97, 100, 100]⟩ : ByteArray)).isSome = true := by kernel_rfl
  have e1 : rowF (⟨#[97, 100, 100]⟩ : ByteArray) = ⟨(⟨#[97, 100, 100]⟩ : ByteArray), cI, cI, cE, cI⟩ := by kernel_rfl
  have e2 : cntE ⟨(⟨#[97, 100, 100]⟩ : ByteArray), cI, cI, cE, cI⟩ = 2 := by kernel_rfl
  have e3 : ref17_Types (⟨#[97, 100, 100]⟩ : ByteArray) = some ([cI, cI], cI, true) := by kernel_rfl
  unfold pApply
  rw [e0, if_pos rfl, e1, e2]
  by_cases hn : zs.length = 2
  · obtain ⟨x, y, rfl⟩ : ∃ x y, zs = [x, y] := by
      match zs, hn with
      | [x, y], _ => exact ⟨x, y, rfl⟩
    rw [ref_2 e3, if_pos (show [x, y].length = 2 from rfl)]
    simp only [List.zip_cons_cons, List.zip_nil_right, okA, List.all_cons, List.all_nil, Bool.and_true, List.getD_cons_zero, List.getD_cons_succ, List.getD_nil]
    rw [show E5.elemOf cI = elR cI by kernel_rfl]
    cases h0 : validE (elR cI) x <;> cases h1 : validE (elR cI) y <;> simp only [Bool.and_true, Bool.and_false, Bool.false_and, Bool.true_and, Bool.and_self, Bool.false_eq_true, if_false, if_true]
    rw [v_add x y h0 h1, value_is, Option.bind_some]
  · rw [if_neg hn]
    exact ref_len e3 hn
theorem v_sub (x y : Int) (h0 : validE (elR cI) x = true) (h1 : validE (elR cI) y = true) : ref17_two (⟨#[115, 117, 98]⟩ : ByteArray) x y = element_value (⟨#[115, 117, 98]⟩ : ByteArray) x y 0 := by
  rfl
theorem s_sub (zs : List Int) : ref17_Apply (⟨#[115, 117, 98]⟩ : ByteArray) zs = pApply (⟨#[115, 117, 98]⟩ : ByteArray) zs := by
  have e0 : (findR (⟨#[115, 117, 98]⟩ : ByteArray)).isSome = true := by kernel_rfl
  have e1 : rowF (⟨#[115, 117, 98]⟩ : ByteArray) = ⟨(⟨#[115, 117, 98]⟩ : ByteArray), cI, cI, cE, cI⟩ := by kernel_rfl
  have e2 : cntE ⟨(⟨#[115, 117, 98]⟩ : ByteArray), cI, cI, cE, cI⟩ = 2 := by kernel_rfl
  have e3 : ref17_Types (⟨#[115, 117, 98]⟩ : ByteArray) = some ([cI, cI], cI, true) := by kernel_rfl
  unfold pApply
  rw [e0, if_pos rfl, e1, e2]
  by_cases hn : zs.length = 2
  · obtain ⟨x, y, rfl⟩ : ∃ x y, zs = [x, y] := by
      match zs, hn with
      | [x, y], _ => exact ⟨x, y, rfl⟩
    rw [ref_2 e3, if_pos (show [x, y].length = 2 from rfl)]
    simp only [List.zip_cons_cons, List.zip_nil_right, okA, List.all_cons, List.all_nil, Bool.and_true, List.getD_cons_zero, List.getD_cons_succ, List.getD_nil]
    rw [show E5.elemOf cI = elR cI by kernel_rfl]
    cases h0 : validE (elR cI) x <;> cases h1 : validE (elR cI) y <;> simp only [Bool.and_true, Bool.and_false, Bool.false_and, Bool.true_and, Bool.and_self, Bool.false_eq_true, if_false, if_true]
    rw [v_sub x y h0 h1, value_is, Option.bind_some]
  · rw [if_neg hn]
    exact ref_len e3 hn
theorem v_mul (x y : Int) (h0 : validE (elR cI) x = true) (h1 : validE (elR cI) y = true) : ref17_two (⟨#[109, 117, 108]⟩ : ByteArray) x y = element_value (⟨#[109, 117, 108]⟩ : ByteArray) x y 0 := by
  rfl
theorem s_mul (zs : List Int) : ref17_Apply (⟨#[109, 117, 108]⟩ : ByteArray) zs = pApply (⟨#[109, 117, 108]⟩ : ByteArray) zs := by
  have e0 : (findR (⟨#[109, 117, 108]⟩ : ByteArray)).isSome = true := by kernel_rfl
  have e1 : rowF (⟨#[109, 117, 108]⟩ : ByteArray) = ⟨(⟨#[109, 117, 108]⟩ : ByteArray), cI, cI, cE, cI⟩ := by kernel_rfl
  have e2 : cntE ⟨(⟨#[109, 117, 108]⟩ : ByteArray), cI, cI, cE, cI⟩ = 2 := by kernel_rfl
  have e3 : ref17_Types (⟨#[109, 117, 108]⟩ : ByteArray) = some ([cI, cI], cI, true) := by kernel_rfl
  unfold pApply
  rw [e0, if_pos rfl, e1, e2]
  by_cases hn : zs.length = 2
  · obtain ⟨x, y, rfl⟩ : ∃ x y, zs = [x, y] := by
      match zs, hn with
      | [x, y], _ => exact ⟨x, y, rfl⟩
    rw [ref_2 e3, if_pos (show [x, y].length = 2 from rfl)]
    simp only [List.zip_cons_cons, List.zip_nil_right, okA, List.all_cons, List.all_nil, Bool.and_true, List.getD_cons_zero, List.getD_cons_succ, List.getD_nil]
    rw [show E5.elemOf cI = elR cI by kernel_rfl]
    cases h0 : validE (elR cI) x <;> cases h1 : validE (elR cI) y <;> simp only [Bool.and_true, Bool.and_false, Bool.false_and, Bool.true_and, Bool.and_self, Bool.false_eq_true, if_false, if_true]
    rw [v_mul x y h0 h1, value_is, Option.bind_some]
  · rw [if_neg hn]
    exact ref_len e3 hn
theorem v_div (x y : Int) (h0 : validE (elR cI) x = true) (h1 : validE (elR cI) y = true) : ref17_two (⟨#[100, 105, 118]⟩ : ByteArray) x y = element_value (⟨#[100, 105, 118]⟩ : ByteArray) x y 0 := by
  rfl
theorem s_div (zs : List Int) : ref17_Apply (⟨#[100, 105, 118]⟩ : ByteArray) zs = pApply (⟨#[100, 105, 118]⟩ : ByteArray) zs := by
  have e0 : (findR (⟨#[100, 105, 118]⟩ : ByteArray)).isSome = true := by kernel_rfl
  have e1 : rowF (⟨#[100, 105, 118]⟩ : ByteArray) = ⟨(⟨#[100, 105, 118]⟩ : ByteArray), cI, cI, cE, cI⟩ := by kernel_rfl
  have e2 : cntE ⟨(⟨#[100, 105, 118]⟩ : ByteArray), cI, cI, cE, cI⟩ = 2 := by kernel_rfl
  have e3 : ref17_Types (⟨#[100, 105, 118]⟩ : ByteArray) = some ([cI, cI], cI, true) := by kernel_rfl
  unfold pApply
  rw [e0, if_pos rfl, e1, e2]
  by_cases hn : zs.length = 2
  · obtain ⟨x, y, rfl⟩ : ∃ x y, zs = [x, y] := by
      match zs, hn with
      | [x, y], _ => exact ⟨x, y, rfl⟩
    rw [ref_2 e3, if_pos (show [x, y].length = 2 from rfl)]
    simp only [List.zip_cons_cons, List.zip_nil_right, okA, List.all_cons, List.all_nil, Bool.and_true, List.getD_cons_zero, List.getD_cons_succ, List.getD_nil]
    rw [show E5.elemOf cI = elR cI by kernel_rfl]
    cases h0 : validE (elR cI) x <;> cases h1 : validE (elR cI) y <;> simp only [Bool.and_true, Bool.and_false, Bool.false_and, Bool.true_and, Bool.and_self, Bool.false_eq_true, if_false, if_true]
    rw [v_div x y h0 h1, value_is, Option.bind_some]
  · rw [if_neg hn]
    exact ref_len e3 hn
theorem v_mod (x y : Int) (h0 : validE (elR cI) x = true) (h1 : validE (elR cI) y = true) : ref17_two (⟨#[109, 111, 100]⟩ : ByteArray) x y = element_value (⟨#[109, 111, 100]⟩ : ByteArray) x y 0 := by
  rfl
theorem s_mod (zs : List Int) : ref17_Apply (⟨#[109, 111, 100]⟩ : ByteArray) zs = pApply (⟨#[109, 111, 100]⟩ : ByteArray) zs := by
  have e0 : (findR (⟨#[109, 111, 100]⟩ : ByteArray)).isSome = true := by kernel_rfl
  have e1 : rowF (⟨#[109, 111, 100]⟩ : ByteArray) = ⟨(⟨#[109, 111, 100]⟩ : ByteArray), cI, cI, cE, cI⟩ := by kernel_rfl
  have e2 : cntE ⟨(⟨#[109, 111, 100]⟩ : ByteArray), cI, cI, cE, cI⟩ = 2 := by kernel_rfl
  have e3 : ref17_Types (⟨#[109, 111, 100]⟩ : ByteArray) = some ([cI, cI], cI, true) := by kernel_rfl
  unfold pApply
  rw [e0, if_pos rfl, e1, e2]
  by_cases hn : zs.length = 2
  · obtain ⟨x, y, rfl⟩ : ∃ x y, zs = [x, y] := by
      match zs, hn with
      | [x, y], _ => exact ⟨x, y, rfl⟩
    rw [ref_2 e3, if_pos (show [x, y].length = 2 from rfl)]
    simp only [List.zip_cons_cons, List.zip_nil_right, okA, List.all_cons, List.all_nil, Bool.and_true, List.getD_cons_zero, List.getD_cons_succ, List.getD_nil]
    rw [show E5.elemOf cI = elR cI by kernel_rfl]
    cases h0 : validE (elR cI) x <;> cases h1 : validE (elR cI) y <;> simp only [Bool.and_true, Bool.and_false, Bool.false_and, Bool.true_and, Bool.and_self, Bool.false_eq_true, if_false, if_true]
    rw [v_mod x y h0 h1, value_is, Option.bind_some]
  · rw [if_neg hn]
    exact ref_len e3 hn
theorem v_min (x y : Int) (h0 : validE (elR cI) x = true) (h1 : validE (elR cI) y = true) : ref17_two (⟨#[109, 105, 110]⟩ : ByteArray) x y = element_value (⟨#[109, 105, 110]⟩ : ByteArray) x y 0 := by
  rfl
theorem s_min (zs : List Int) : ref17_Apply (⟨#[109, 105, 110]⟩ : ByteArray) zs = pApply (⟨#[109, 105, 110]⟩ : ByteArray) zs := by
  have e0 : (findR (⟨#[109, 105, 110]⟩ : ByteArray)).isSome = true := by kernel_rfl
  have e1 : rowF (⟨#[109, 105, 110]⟩ : ByteArray) = ⟨(⟨#[109, 105, 110]⟩ : ByteArray), cI, cI, cE, cI⟩ := by kernel_rfl
  have e2 : cntE ⟨(⟨#[109, 105, 110]⟩ : ByteArray), cI, cI, cE, cI⟩ = 2 := by kernel_rfl
  have e3 : ref17_Types (⟨#[109, 105, 110]⟩ : ByteArray) = some ([cI, cI], cI, true) := by kernel_rfl
  unfold pApply
  rw [e0, if_pos rfl, e1, e2]
  by_cases hn : zs.length = 2
  · obtain ⟨x, y, rfl⟩ : ∃ x y, zs = [x, y] := by
      match zs, hn with
      | [x, y], _ => exact ⟨x, y, rfl⟩
    rw [ref_2 e3, if_pos (show [x, y].length = 2 from rfl)]
    simp only [List.zip_cons_cons, List.zip_nil_right, okA, List.all_cons, List.all_nil, Bool.and_true, List.getD_cons_zero, List.getD_cons_succ, List.getD_nil]
    rw [show E5.elemOf cI = elR cI by kernel_rfl]
    cases h0 : validE (elR cI) x <;> cases h1 : validE (elR cI) y <;> simp only [Bool.and_true, Bool.and_false, Bool.false_and, Bool.true_and, Bool.and_self, Bool.false_eq_true, if_false, if_true]
    rw [v_min x y h0 h1, value_is, Option.bind_some]
  · rw [if_neg hn]
    exact ref_len e3 hn
theorem v_max (x y : Int) (h0 : validE (elR cI) x = true) (h1 : validE (elR cI) y = true) : ref17_two (⟨#[109, 97, 120]⟩ : ByteArray) x y = element_value (⟨#[109, 97, 120]⟩ : ByteArray) x y 0 := by
  rfl
theorem s_max (zs : List Int) : ref17_Apply (⟨#[109, 97, 120]⟩ : ByteArray) zs = pApply (⟨#[109, 97, 120]⟩ : ByteArray) zs := by
  have e0 : (findR (⟨#[109, 97, 120]⟩ : ByteArray)).isSome = true := by kernel_rfl
  have e1 : rowF (⟨#[109, 97, 120]⟩ : ByteArray) = ⟨(⟨#[109, 97, 120]⟩ : ByteArray), cI, cI, cE, cI⟩ := by kernel_rfl
  have e2 : cntE ⟨(⟨#[109, 97, 120]⟩ : ByteArray), cI, cI, cE, cI⟩ = 2 := by kernel_rfl
  have e3 : ref17_Types (⟨#[109, 97, 120]⟩ : ByteArray) = some ([cI, cI], cI, true) := by kernel_rfl
  unfold pApply
  rw [e0, if_pos rfl, e1, e2]
  by_cases hn : zs.length = 2
  · obtain ⟨x, y, rfl⟩ : ∃ x y, zs = [x, y] := by
      match zs, hn with
      | [x, y], _ => exact ⟨x, y, rfl⟩
    rw [ref_2 e3, if_pos (show [x, y].length = 2 from rfl)]
    simp only [List.zip_cons_cons, List.zip_nil_right, okA, List.all_cons, List.all_nil, Bool.and_true, List.getD_cons_zero, List.getD_cons_succ, List.getD_nil]
    rw [show E5.elemOf cI = elR cI by kernel_rfl]
    cases h0 : validE (elR cI) x <;> cases h1 : validE (elR cI) y <;> simp only [Bool.and_true, Bool.and_false, Bool.false_and, Bool.true_and, Bool.and_self, Bool.false_eq_true, if_false, if_true]
    rw [v_max x y h0 h1, value_is, Option.bind_some]
  · rw [if_neg hn]
    exact ref_len e3 hn
theorem v_neg (x : Int) (h0 : validE (elR cI) x = true) : ref17_one (⟨#[110, 101, 103]⟩ : ByteArray) x = element_value (⟨#[110, 101, 103]⟩ : ByteArray) x 0 0 := by
  rfl
theorem s_neg (zs : List Int) : ref17_Apply (⟨#[110, 101, 103]⟩ : ByteArray) zs = pApply (⟨#[110, 101, 103]⟩ : ByteArray) zs := by
  have e0 : (findR (⟨#[110, 101, 103]⟩ : ByteArray)).isSome = true := by kernel_rfl
  have e1 : rowF (⟨#[110, 101, 103]⟩ : ByteArray) = ⟨(⟨#[110, 101, 103]⟩ : ByteArray), cI, cE, cE, cI⟩ := by kernel_rfl
  have e2 : cntE ⟨(⟨#[110, 101, 103]⟩ : ByteArray), cI, cE, cE, cI⟩ = 1 := by kernel_rfl
  have e3 : ref17_Types (⟨#[110, 101, 103]⟩ : ByteArray) = some ([cI], cI, true) := by kernel_rfl
  unfold pApply
  rw [e0, if_pos rfl, e1, e2]
  by_cases hn : zs.length = 1
  · obtain ⟨x, rfl⟩ : ∃ x, zs = [x] := by
      match zs, hn with
      | [x], _ => exact ⟨x, rfl⟩
    rw [ref_1 e3, if_pos (show [x].length = 1 from rfl)]
    simp only [List.zip_cons_cons, List.zip_nil_right, okA, List.all_cons, List.all_nil, Bool.and_true, List.getD_cons_zero, List.getD_cons_succ, List.getD_nil]
    rw [show E5.elemOf cI = elR cI by kernel_rfl]
    cases h0 : validE (elR cI) x <;> simp only [Bool.and_true, Bool.and_false, Bool.false_and, Bool.true_and, Bool.and_self, Bool.false_eq_true, if_false, if_true]
    rw [v_neg x h0, value_is, Option.bind_some]
  · rw [if_neg hn]
    exact ref_len e3 hn
theorem v_abs (x : Int) (h0 : validE (elR cI) x = true) : ref17_one (⟨#[97, 98, 115]⟩ : ByteArray) x = element_value (⟨#[97, 98, 115]⟩ : ByteArray) x 0 0 := by
  have h := h0
  simp only [validE, elR, eqB_is, show eqB cI (⟨#[98, 111, 111, 108]⟩ : ByteArray) = false from rfl, Bool.false_eq_true, if_false, show eqB (⟨#[105, 110, 116]⟩ : ByteArray) (⟨#[105, 110, 116]⟩ : ByteArray) = true from rfl, if_true, Bool.and_eq_true, decide_eq_true_eq] at h
  show (if decide (x < 0) = true then some (IntKind.i64.wrap (IntKind.i32.wrap (IntKind.i64.wrap (0 - x)))) else some x) = some (IntKind.i64.wrap (IntKind.i32.wrap (max x (IntKind.i64.wrap (0 - x)))))
  by_cases hx : x < 0
  · rw [if_pos (decide_eq_true hx), show max x (IntKind.i64.wrap (0 - x)) = IntKind.i64.wrap (0 - x) from by rw [wrap_in (by omega) (by omega)]; omega]
  · rw [if_neg (by simpa using hx), show max x (IntKind.i64.wrap (0 - x)) = x from by rw [wrap_in (by omega) (by omega)]; omega]
    congr 1
    rw [IntKind.wrap_i64, IntKind.wrap_i32]
    omega
theorem s_abs (zs : List Int) : ref17_Apply (⟨#[97, 98, 115]⟩ : ByteArray) zs = pApply (⟨#[97, 98, 115]⟩ : ByteArray) zs := by
  have e0 : (findR (⟨#[97, 98, 115]⟩ : ByteArray)).isSome = true := by kernel_rfl
  have e1 : rowF (⟨#[97, 98, 115]⟩ : ByteArray) = ⟨(⟨#[97, 98, 115]⟩ : ByteArray), cI, cE, cE, cI⟩ := by kernel_rfl
  have e2 : cntE ⟨(⟨#[97, 98, 115]⟩ : ByteArray), cI, cE, cE, cI⟩ = 1 := by kernel_rfl
  have e3 : ref17_Types (⟨#[97, 98, 115]⟩ : ByteArray) = some ([cI], cI, true) := by kernel_rfl
  unfold pApply
  rw [e0, if_pos rfl, e1, e2]
  by_cases hn : zs.length = 1
  · obtain ⟨x, rfl⟩ : ∃ x, zs = [x] := by
      match zs, hn with
      | [x], _ => exact ⟨x, rfl⟩
    rw [ref_1 e3, if_pos (show [x].length = 1 from rfl)]
    simp only [List.zip_cons_cons, List.zip_nil_right, okA, List.all_cons, List.all_nil, Bool.and_true, List.getD_cons_zero, List.getD_cons_succ, List.getD_nil]
    rw [show E5.elemOf cI = elR cI by kernel_rfl]
    cases h0 : validE (elR cI) x <;> simp only [Bool.and_true, Bool.and_false, Bool.false_and, Bool.true_and, Bool.and_self, Bool.false_eq_true, if_false, if_true]
    rw [v_abs x h0, value_is, Option.bind_some]
  · rw [if_neg hn]
    exact ref_len e3 hn
theorem v_sign (x : Int) (h0 : validE (elR cI) x = true) : ref17_one (⟨#[115, 105, 103, 110]⟩ : ByteArray) x = element_value (⟨#[115, 105, 103, 110]⟩ : ByteArray) x 0 0 := by
  rfl
theorem s_sign (zs : List Int) : ref17_Apply (⟨#[115, 105, 103, 110]⟩ : ByteArray) zs = pApply (⟨#[115, 105, 103, 110]⟩ : ByteArray) zs := by
  have e0 : (findR (⟨#[115, 105, 103, 110]⟩ : ByteArray)).isSome = true := by kernel_rfl
  have e1 : rowF (⟨#[115, 105, 103, 110]⟩ : ByteArray) = ⟨(⟨#[115, 105, 103, 110]⟩ : ByteArray), cI, cE, cE, cI⟩ := by kernel_rfl
  have e2 : cntE ⟨(⟨#[115, 105, 103, 110]⟩ : ByteArray), cI, cE, cE, cI⟩ = 1 := by kernel_rfl
  have e3 : ref17_Types (⟨#[115, 105, 103, 110]⟩ : ByteArray) = some ([cI], cI, true) := by kernel_rfl
  unfold pApply
  rw [e0, if_pos rfl, e1, e2]
  by_cases hn : zs.length = 1
  · obtain ⟨x, rfl⟩ : ∃ x, zs = [x] := by
      match zs, hn with
      | [x], _ => exact ⟨x, rfl⟩
    rw [ref_1 e3, if_pos (show [x].length = 1 from rfl)]
    simp only [List.zip_cons_cons, List.zip_nil_right, okA, List.all_cons, List.all_nil, Bool.and_true, List.getD_cons_zero, List.getD_cons_succ, List.getD_nil]
    rw [show E5.elemOf cI = elR cI by kernel_rfl]
    cases h0 : validE (elR cI) x <;> simp only [Bool.and_true, Bool.and_false, Bool.false_and, Bool.true_and, Bool.and_self, Bool.false_eq_true, if_false, if_true]
    rw [v_sign x h0, value_is, Option.bind_some]
  · rw [if_neg hn]
    exact ref_len e3 hn
theorem v_lt (x y : Int) (h0 : validE (elR cI) x = true) (h1 : validE (elR cI) y = true) : ref17_two (⟨#[108, 116]⟩ : ByteArray) x y = element_value (⟨#[108, 116]⟩ : ByteArray) x y 0 := by
  rfl
theorem s_lt (zs : List Int) : ref17_Apply (⟨#[108, 116]⟩ : ByteArray) zs = pApply (⟨#[108, 116]⟩ : ByteArray) zs := by
  have e0 : (findR (⟨#[108, 116]⟩ : ByteArray)).isSome = true := by kernel_rfl
  have e1 : rowF (⟨#[108, 116]⟩ : ByteArray) = ⟨(⟨#[108, 116]⟩ : ByteArray), cI, cI, cE, cB⟩ := by kernel_rfl
  have e2 : cntE ⟨(⟨#[108, 116]⟩ : ByteArray), cI, cI, cE, cB⟩ = 2 := by kernel_rfl
  have e3 : ref17_Types (⟨#[108, 116]⟩ : ByteArray) = some ([cI, cI], cB, true) := by kernel_rfl
  unfold pApply
  rw [e0, if_pos rfl, e1, e2]
  by_cases hn : zs.length = 2
  · obtain ⟨x, y, rfl⟩ : ∃ x y, zs = [x, y] := by
      match zs, hn with
      | [x, y], _ => exact ⟨x, y, rfl⟩
    rw [ref_2 e3, if_pos (show [x, y].length = 2 from rfl)]
    simp only [List.zip_cons_cons, List.zip_nil_right, okA, List.all_cons, List.all_nil, Bool.and_true, List.getD_cons_zero, List.getD_cons_succ, List.getD_nil]
    rw [show E5.elemOf cI = elR cI by kernel_rfl]
    cases h0 : validE (elR cI) x <;> cases h1 : validE (elR cI) y <;> simp only [Bool.and_true, Bool.and_false, Bool.false_and, Bool.true_and, Bool.and_self, Bool.false_eq_true, if_false, if_true]
    rw [v_lt x y h0 h1, value_is, Option.bind_some]
  · rw [if_neg hn]
    exact ref_len e3 hn
theorem v_le (x y : Int) (h0 : validE (elR cI) x = true) (h1 : validE (elR cI) y = true) : ref17_two (⟨#[108, 101]⟩ : ByteArray) x y = element_value (⟨#[108, 101]⟩ : ByteArray) x y 0 := by
  rfl
theorem s_le (zs : List Int) : ref17_Apply (⟨#[108, 101]⟩ : ByteArray) zs = pApply (⟨#[108, 101]⟩ : ByteArray) zs := by
  have e0 : (findR (⟨#[108, 101]⟩ : ByteArray)).isSome = true := by kernel_rfl
  have e1 : rowF (⟨#[108, 101]⟩ : ByteArray) = ⟨(⟨#[108, 101]⟩ : ByteArray), cI, cI, cE, cB⟩ := by kernel_rfl
  have e2 : cntE ⟨(⟨#[108, 101]⟩ : ByteArray), cI, cI, cE, cB⟩ = 2 := by kernel_rfl
  have e3 : ref17_Types (⟨#[108, 101]⟩ : ByteArray) = some ([cI, cI], cB, true) := by kernel_rfl
  unfold pApply
  rw [e0, if_pos rfl, e1, e2]
  by_cases hn : zs.length = 2
  · obtain ⟨x, y, rfl⟩ : ∃ x y, zs = [x, y] := by
      match zs, hn with
      | [x, y], _ => exact ⟨x, y, rfl⟩
    rw [ref_2 e3, if_pos (show [x, y].length = 2 from rfl)]
    simp only [List.zip_cons_cons, List.zip_nil_right, okA, List.all_cons, List.all_nil, Bool.and_true, List.getD_cons_zero, List.getD_cons_succ, List.getD_nil]
    rw [show E5.elemOf cI = elR cI by kernel_rfl]
    cases h0 : validE (elR cI) x <;> cases h1 : validE (elR cI) y <;> simp only [Bool.and_true, Bool.and_false, Bool.false_and, Bool.true_and, Bool.and_self, Bool.false_eq_true, if_false, if_true]
    rw [v_le x y h0 h1, value_is, Option.bind_some]
  · rw [if_neg hn]
    exact ref_len e3 hn
theorem v_gt (x y : Int) (h0 : validE (elR cI) x = true) (h1 : validE (elR cI) y = true) : ref17_two (⟨#[103, 116]⟩ : ByteArray) x y = element_value (⟨#[103, 116]⟩ : ByteArray) x y 0 := by
  rfl
theorem s_gt (zs : List Int) : ref17_Apply (⟨#[103, 116]⟩ : ByteArray) zs = pApply (⟨#[103, 116]⟩ : ByteArray) zs := by
  have e0 : (findR (⟨#[103, 116]⟩ : ByteArray)).isSome = true := by kernel_rfl
  have e1 : rowF (⟨#[103, 116]⟩ : ByteArray) = ⟨(⟨#[103, 116]⟩ : ByteArray), cI, cI, cE, cB⟩ := by kernel_rfl
  have e2 : cntE ⟨(⟨#[103, 116]⟩ : ByteArray), cI, cI, cE, cB⟩ = 2 := by kernel_rfl
  have e3 : ref17_Types (⟨#[103, 116]⟩ : ByteArray) = some ([cI, cI], cB, true) := by kernel_rfl
  unfold pApply
  rw [e0, if_pos rfl, e1, e2]
  by_cases hn : zs.length = 2
  · obtain ⟨x, y, rfl⟩ : ∃ x y, zs = [x, y] := by
      match zs, hn with
      | [x, y], _ => exact ⟨x, y, rfl⟩
    rw [ref_2 e3, if_pos (show [x, y].length = 2 from rfl)]
    simp only [List.zip_cons_cons, List.zip_nil_right, okA, List.all_cons, List.all_nil, Bool.and_true, List.getD_cons_zero, List.getD_cons_succ, List.getD_nil]
    rw [show E5.elemOf cI = elR cI by kernel_rfl]
    cases h0 : validE (elR cI) x <;> cases h1 : validE (elR cI) y <;> simp only [Bool.and_true, Bool.and_false, Bool.false_and, Bool.true_and, Bool.and_self, Bool.false_eq_true, if_false, if_true]
    rw [v_gt x y h0 h1, value_is, Option.bind_some]
  · rw [if_neg hn]
    exact ref_len e3 hn
theorem v_ge (x y : Int) (h0 : validE (elR cI) x = true) (h1 : validE (elR cI) y = true) : ref17_two (⟨#[103, 101]⟩ : ByteArray) x y = element_value (⟨#[103, 101]⟩ : ByteArray) x y 0 := by
  rfl
theorem s_ge (zs : List Int) : ref17_Apply (⟨#[103, 101]⟩ : ByteArray) zs = pApply (⟨#[103, 101]⟩ : ByteArray) zs := by
  have e0 : (findR (⟨#[103, 101]⟩ : ByteArray)).isSome = true := by kernel_rfl
  have e1 : rowF (⟨#[103, 101]⟩ : ByteArray) = ⟨(⟨#[103, 101]⟩ : ByteArray), cI, cI, cE, cB⟩ := by kernel_rfl
  have e2 : cntE ⟨(⟨#[103, 101]⟩ : ByteArray), cI, cI, cE, cB⟩ = 2 := by kernel_rfl
  have e3 : ref17_Types (⟨#[103, 101]⟩ : ByteArray) = some ([cI, cI], cB, true) := by kernel_rfl
  unfold pApply
  rw [e0, if_pos rfl, e1, e2]
  by_cases hn : zs.length = 2
  · obtain ⟨x, y, rfl⟩ : ∃ x y, zs = [x, y] := by
      match zs, hn with
      | [x, y], _ => exact ⟨x, y, rfl⟩
    rw [ref_2 e3, if_pos (show [x, y].length = 2 from rfl)]
    simp only [List.zip_cons_cons, List.zip_nil_right, okA, List.all_cons, List.all_nil, Bool.and_true, List.getD_cons_zero, List.getD_cons_succ, List.getD_nil]
    rw [show E5.elemOf cI = elR cI by kernel_rfl]
    cases h0 : validE (elR cI) x <;> cases h1 : validE (elR cI) y <;> simp only [Bool.and_true, Bool.and_false, Bool.false_and, Bool.true_and, Bool.and_self, Bool.false_eq_true, if_false, if_true]
    rw [v_ge x y h0 h1, value_is, Option.bind_some]
  · rw [if_neg hn]
    exact ref_len e3 hn
theorem v_eq (x y : Int) (h0 : validE (elR cA) x = true) (h1 : validE (elR cA) y = true) : ref17_two (⟨#[101, 113]⟩ : ByteArray) x y = element_value (⟨#[101, 113]⟩ : ByteArray) x y 0 := by
  rfl
theorem s_eq (zs : List Int) : ref17_Apply (⟨#[101, 113]⟩ : ByteArray) zs = pApply (⟨#[101, 113]⟩ : ByteArray) zs := by
  have e0 : (findR (⟨#[101, 113]⟩ : ByteArray)).isSome = true := by kernel_rfl
  have e1 : rowF (⟨#[101, 113]⟩ : ByteArray) = ⟨(⟨#[101, 113]⟩ : ByteArray), cA, cA, cE, cB⟩ := by kernel_rfl
  have e2 : cntE ⟨(⟨#[101, 113]⟩ : ByteArray), cA, cA, cE, cB⟩ = 2 := by kernel_rfl
  have e3 : ref17_Types (⟨#[101, 113]⟩ : ByteArray) = some ([cA, cA], cB, true) := by kernel_rfl
  unfold pApply
  rw [e0, if_pos rfl, e1, e2]
  by_cases hn : zs.length = 2
  · obtain ⟨x, y, rfl⟩ : ∃ x y, zs = [x, y] := by
      match zs, hn with
      | [x, y], _ => exact ⟨x, y, rfl⟩
    rw [ref_2 e3, if_pos (show [x, y].length = 2 from rfl)]
    simp only [List.zip_cons_cons, List.zip_nil_right, okA, List.all_cons, List.all_nil, Bool.and_true, List.getD_cons_zero, List.getD_cons_succ, List.getD_nil]
    rw [show E5.elemOf cA = elR cA by kernel_rfl]
    cases h0 : validE (elR cA) x <;> cases h1 : validE (elR cA) y <;> simp only [Bool.and_true, Bool.and_false, Bool.false_and, Bool.true_and, Bool.and_self, Bool.false_eq_true, if_false, if_true]
    rw [v_eq x y h0 h1, value_is, Option.bind_some]
  · rw [if_neg hn]
    exact ref_len e3 hn
theorem v_ne (x y : Int) (h0 : validE (elR cA) x = true) (h1 : validE (elR cA) y = true) : ref17_two (⟨#[110, 101]⟩ : ByteArray) x y = element_value (⟨#[110, 101]⟩ : ByteArray) x y 0 := by
  rfl
theorem s_ne (zs : List Int) : ref17_Apply (⟨#[110, 101]⟩ : ByteArray) zs = pApply (⟨#[110, 101]⟩ : ByteArray) zs := by
  have e0 : (findR (⟨#[110, 101]⟩ : ByteArray)).isSome = true := by kernel_rfl
  have e1 : rowF (⟨#[110, 101]⟩ : ByteArray) = ⟨(⟨#[110, 101]⟩ : ByteArray), cA, cA, cE, cB⟩ := by kernel_rfl
  have e2 : cntE ⟨(⟨#[110, 101]⟩ : ByteArray), cA, cA, cE, cB⟩ = 2 := by kernel_rfl
  have e3 : ref17_Types (⟨#[110, 101]⟩ : ByteArray) = some ([cA, cA], cB, true) := by kernel_rfl
  unfold pApply
  rw [e0, if_pos rfl, e1, e2]
  by_cases hn : zs.length = 2
  · obtain ⟨x, y, rfl⟩ : ∃ x y, zs = [x, y] := by
      match zs, hn with
      | [x, y], _ => exact ⟨x, y, rfl⟩
    rw [ref_2 e3, if_pos (show [x, y].length = 2 from rfl)]
    simp only [List.zip_cons_cons, List.zip_nil_right, okA, List.all_cons, List.all_nil, Bool.and_true, List.getD_cons_zero, List.getD_cons_succ, List.getD_nil]
    rw [show E5.elemOf cA = elR cA by kernel_rfl]
    cases h0 : validE (elR cA) x <;> cases h1 : validE (elR cA) y <;> simp only [Bool.and_true, Bool.and_false, Bool.false_and, Bool.true_and, Bool.and_self, Bool.false_eq_true, if_false, if_true]
    rw [v_ne x y h0 h1, value_is, Option.bind_some]
  · rw [if_neg hn]
    exact ref_len e3 hn
theorem v_and (x y : Int) (h0 : validE (elR cB) x = true) (h1 : validE (elR cB) y = true) : ref17_two (⟨#[97, 110, 100]⟩ : ByteArray) x y = element_value (⟨#[97, 110, 100]⟩ : ByteArray) x y 0 := by
  have b0 : x = 0 ∨ x = 1 := by simpa [validE, elR, eqB_is, show eqB cB (⟨#[98, 111, 111, 108]⟩ : ByteArray) = true from rfl, show eqB (⟨#[98, 111, 111, 108]⟩ : ByteArray) (⟨#[105, 110, 116]⟩ : ByteArray) = false from rfl, show eqB (⟨#[98, 111, 111, 108]⟩ : ByteArray) (⟨#[98, 111, 111, 108]⟩ : ByteArray) = true from rfl] using h0
  have b1 : y = 0 ∨ y = 1 := by simpa [validE, elR, eqB_is, show eqB cB (⟨#[98, 111, 111, 108]⟩ : ByteArray) = true from rfl, show eqB (⟨#[98, 111, 111, 108]⟩ : ByteArray) (⟨#[105, 110, 116]⟩ : ByteArray) = false from rfl, show eqB (⟨#[98, 111, 111, 108]⟩ : ByteArray) (⟨#[98, 111, 111, 108]⟩ : ByteArray) = true from rfl] using h1
  rcases b0 with rfl | rfl <;> rcases b1 with rfl | rfl <;> rfl
theorem s_and (zs : List Int) : ref17_Apply (⟨#[97, 110, 100]⟩ : ByteArray) zs = pApply (⟨#[97, 110, 100]⟩ : ByteArray) zs := by
  have e0 : (findR (⟨#[97, 110, 100]⟩ : ByteArray)).isSome = true := by kernel_rfl
  have e1 : rowF (⟨#[97, 110, 100]⟩ : ByteArray) = ⟨(⟨#[97, 110, 100]⟩ : ByteArray), cB, cB, cE, cB⟩ := by kernel_rfl
  have e2 : cntE ⟨(⟨#[97, 110, 100]⟩ : ByteArray), cB, cB, cE, cB⟩ = 2 := by kernel_rfl
  have e3 : ref17_Types (⟨#[97, 110, 100]⟩ : ByteArray) = some ([cB, cB], cB, true) := by kernel_rfl
  unfold pApply
  rw [e0, if_pos rfl, e1, e2]
  by_cases hn : zs.length = 2
  · obtain ⟨x, y, rfl⟩ : ∃ x y, zs = [x, y] := by
      match zs, hn with
      | [x, y], _ => exact ⟨x, y, rfl⟩
    rw [ref_2 e3, if_pos (show [x, y].length = 2 from rfl)]
    simp only [List.zip_cons_cons, List.zip_nil_right, okA, List.all_cons, List.all_nil, Bool.and_true, List.getD_cons_zero, List.getD_cons_succ, List.getD_nil]
    rw [show E5.elemOf cB = elR cB by kernel_rfl]
    cases h0 : validE (elR cB) x <;> cases h1 : validE (elR cB) y <;> simp only [Bool.and_true, Bool.and_false, Bool.false_and, Bool.true_and, Bool.and_self, Bool.false_eq_true, if_false, if_true]
    rw [v_and x y h0 h1, value_is, Option.bind_some]
  · rw [if_neg hn]
    exact ref_len e3 hn
theorem v_or (x y : Int) (h0 : validE (elR cB) x = true) (h1 : validE (elR cB) y = true) : ref17_two (⟨#[111, 114]⟩ : ByteArray) x y = element_value (⟨#[111, 114]⟩ : ByteArray) x y 0 := by
  have b0 : x = 0 ∨ x = 1 := by simpa [validE, elR, eqB_is, show eqB cB (⟨#[98, 111, 111, 108]⟩ : ByteArray) = true from rfl, show eqB (⟨#[98, 111, 111, 108]⟩ : ByteArray) (⟨#[105, 110, 116]⟩ : ByteArray) = false from rfl, show eqB (⟨#[98, 111, 111, 108]⟩ : ByteArray) (⟨#[98, 111, 111, 108]⟩ : ByteArray) = true from rfl] using h0
  have b1 : y = 0 ∨ y = 1 := by simpa [validE, elR, eqB_is, show eqB cB (⟨#[98, 111, 111, 108]⟩ : ByteArray) = true from rfl, show eqB (⟨#[98, 111, 111, 108]⟩ : ByteArray) (⟨#[105, 110, 116]⟩ : ByteArray) = false from rfl, show eqB (⟨#[98, 111, 111, 108]⟩ : ByteArray) (⟨#[98, 111, 111, 108]⟩ : ByteArray) = true from rfl] using h1
  rcases b0 with rfl | rfl <;> rcases b1 with rfl | rfl <;> rfl
theorem s_or (zs : List Int) : ref17_Apply (⟨#[111, 114]⟩ : ByteArray) zs = pApply (⟨#[111, 114]⟩ : ByteArray) zs := by
  have e0 : (findR (⟨#[111, 114]⟩ : ByteArray)).isSome = true := by kernel_rfl
  have e1 : rowF (⟨#[111, 114]⟩ : ByteArray) = ⟨(⟨#[111, 114]⟩ : ByteArray), cB, cB, cE, cB⟩ := by kernel_rfl
  have e2 : cntE ⟨(⟨#[111, 114]⟩ : ByteArray), cB, cB, cE, cB⟩ = 2 := by kernel_rfl
  have e3 : ref17_Types (⟨#[111, 114]⟩ : ByteArray) = some ([cB, cB], cB, true) := by kernel_rfl
  unfold pApply
  rw [e0, if_pos rfl, e1, e2]
  by_cases hn : zs.length = 2
  · obtain ⟨x, y, rfl⟩ : ∃ x y, zs = [x, y] := by
      match zs, hn with
      | [x, y], _ => exact ⟨x, y, rfl⟩
    rw [ref_2 e3, if_pos (show [x, y].length = 2 from rfl)]
    simp only [List.zip_cons_cons, List.zip_nil_right, okA, List.all_cons, List.all_nil, Bool.and_true, List.getD_cons_zero, List.getD_cons_succ, List.getD_nil]
    rw [show E5.elemOf cB = elR cB by kernel_rfl]
    cases h0 : validE (elR cB) x <;> cases h1 : validE (elR cB) y <;> simp only [Bool.and_true, Bool.and_false, Bool.false_and, Bool.true_and, Bool.and_self, Bool.false_eq_true, if_false, if_true]
    rw [v_or x y h0 h1, value_is, Option.bind_some]
  · rw [if_neg hn]
    exact ref_len e3 hn
theorem v_xor (x y : Int) (h0 : validE (elR cB) x = true) (h1 : validE (elR cB) y = true) : ref17_two (⟨#[120, 111, 114]⟩ : ByteArray) x y = element_value (⟨#[120, 111, 114]⟩ : ByteArray) x y 0 := by
  rfl
theorem s_xor (zs : List Int) : ref17_Apply (⟨#[120, 111, 114]⟩ : ByteArray) zs = pApply (⟨#[120, 111, 114]⟩ : ByteArray) zs := by
  have e0 : (findR (⟨#[120, 111, 114]⟩ : ByteArray)).isSome = true := by kernel_rfl
  have e1 : rowF (⟨#[120, 111, 114]⟩ : ByteArray) = ⟨(⟨#[120, 111, 114]⟩ : ByteArray), cB, cB, cE, cB⟩ := by kernel_rfl
  have e2 : cntE ⟨(⟨#[120, 111, 114]⟩ : ByteArray), cB, cB, cE, cB⟩ = 2 := by kernel_rfl
  have e3 : ref17_Types (⟨#[120, 111, 114]⟩ : ByteArray) = some ([cB, cB], cB, true) := by kernel_rfl
  unfold pApply
  rw [e0, if_pos rfl, e1, e2]
  by_cases hn : zs.length = 2
  · obtain ⟨x, y, rfl⟩ : ∃ x y, zs = [x, y] := by
      match zs, hn with
      | [x, y], _ => exact ⟨x, y, rfl⟩
    rw [ref_2 e3, if_pos (show [x, y].length = 2 from rfl)]
    simp only [List.zip_cons_cons, List.zip_nil_right, okA, List.all_cons, List.all_nil, Bool.and_true, List.getD_cons_zero, List.getD_cons_succ, List.getD_nil]
    rw [show E5.elemOf cB = elR cB by kernel_rfl]
    cases h0 : validE (elR cB) x <;> cases h1 : validE (elR cB) y <;> simp only [Bool.and_true, Bool.and_false, Bool.false_and, Bool.true_and, Bool.and_self, Bool.false_eq_true, if_false, if_true]
    rw [v_xor x y h0 h1, value_is, Option.bind_some]
  · rw [if_neg hn]
    exact ref_len e3 hn
theorem v_not (x : Int) (h0 : validE (elR cB) x = true) : ref17_one (⟨#[110, 111, 116]⟩ : ByteArray) x = element_value (⟨#[110, 111, 116]⟩ : ByteArray) x 0 0 := by
  have b0 : x = 0 ∨ x = 1 := by simpa [validE, elR, eqB_is, show eqB cB (⟨#[98, 111, 111, 108]⟩ : ByteArray) = true from rfl, show eqB (⟨#[98, 111, 111, 108]⟩ : ByteArray) (⟨#[105, 110, 116]⟩ : ByteArray) = false from rfl, show eqB (⟨#[98, 111, 111, 108]⟩ : ByteArray) (⟨#[98, 111, 111, 108]⟩ : ByteArray) = true from rfl] using h0
  rcases b0 with rfl | rfl <;> rfl
theorem s_not (zs : List Int) : ref17_Apply (⟨#[110, 111, 116]⟩ : ByteArray) zs = pApply (⟨#[110, 111, 116]⟩ : ByteArray) zs := by
  have e0 : (findR (⟨#[110, 111, 116]⟩ : ByteArray)).isSome = true := by kernel_rfl
  have e1 : rowF (⟨#[110, 111, 116]⟩ : ByteArray) = ⟨(⟨#[110, 111, 116]⟩ : ByteArray), cB, cE, cE, cB⟩ := by kernel_rfl
  have e2 : cntE ⟨(⟨#[110, 111, 116]⟩ : ByteArray), cB, cE, cE, cB⟩ = 1 := by kernel_rfl
  have e3 : ref17_Types (⟨#[110, 111, 116]⟩ : ByteArray) = some ([cB], cB, true) := by kernel_rfl
  unfold pApply
  rw [e0, if_pos rfl, e1, e2]
  by_cases hn : zs.length = 1
  · obtain ⟨x, rfl⟩ : ∃ x, zs = [x] := by
      match zs, hn with
      | [x], _ => exact ⟨x, rfl⟩
    rw [ref_1 e3, if_pos (show [x].length = 1 from rfl)]
    simp only [List.zip_cons_cons, List.zip_nil_right, okA, List.all_cons, List.all_nil, Bool.and_true, List.getD_cons_zero, List.getD_cons_succ, List.getD_nil]
    rw [show E5.elemOf cB = elR cB by kernel_rfl]
    cases h0 : validE (elR cB) x <;> simp only [Bool.and_true, Bool.and_false, Bool.false_and, Bool.true_and, Bool.and_self, Bool.false_eq_true, if_false, if_true]
    rw [v_not x h0, value_is, Option.bind_some]
  · rw [if_neg hn]
    exact ref_len e3 hn
theorem v_select (x y z : Int) (h0 : validE (elR cB) x = true) (h1 : validE (elR cA) y = true) (h2 : validE (elR cA) z = true) : (some (if (x == 1) = true then y else z) : Option Int) = element_value (⟨#[115, 101, 108, 101, 99, 116]⟩ : ByteArray) x y z := by
  show some (if (x == 1) = true then y else z) = (if (x == 1) = true then some y else some z)
  split <;> rfl
theorem s_select (zs : List Int) : ref17_Apply (⟨#[115, 101, 108, 101, 99, 116]⟩ : ByteArray) zs = pApply (⟨#[115, 101, 108, 101, 99, 116]⟩ : ByteArray) zs := by
  have e0 : (findR (⟨#[115, 101, 108, 101, 99, 116]⟩ : ByteArray)).isSome = true := by kernel_rfl
  have e1 : rowF (⟨#[115, 101, 108, 101, 99, 116]⟩ : ByteArray) = ⟨(⟨#[115, 101, 108, 101, 99, 116]⟩ : ByteArray), cB, cA, cA, cA⟩ := by kernel_rfl
  have e2 : cntE ⟨(⟨#[115, 101, 108, 101, 99, 116]⟩ : ByteArray), cB, cA, cA, cA⟩ = 3 := by kernel_rfl
  have e3 : ref17_Types (⟨#[115, 101, 108, 101, 99, 116]⟩ : ByteArray) = some ([cB, cA, cA], cA, true) := by kernel_rfl
  unfold pApply
  rw [e0, if_pos rfl, e1, e2]
  by_cases hn : zs.length = 3
  · obtain ⟨x, y, z, rfl⟩ : ∃ x y z, zs = [x, y, z] := by
      match zs, hn with
      | [x, y, z], _ => exact ⟨x, y, z, rfl⟩
    rw [ref_3 e3, if_pos (show [x, y, z].length = 3 from rfl)]
    simp only [List.zip_cons_cons, List.zip_nil_right, okA, List.all_cons, List.all_nil, Bool.and_true, List.getD_cons_zero, List.getD_cons_succ, List.getD_nil]
    rw [show E5.elemOf cB = elR cB by kernel_rfl]
    rw [show E5.elemOf cA = elR cA by kernel_rfl]
    cases h0 : validE (elR cB) x <;> cases h1 : validE (elR cA) y <;> cases h2 : validE (elR cA) z <;> simp only [Bool.and_true, Bool.and_false, Bool.false_and, Bool.true_and, Bool.and_self, Bool.false_eq_true, if_false, if_true]
    have := v_select x y z h0 h1 h2
    rw [value_is] at this
    rw [Option.some.inj this]
  · rw [if_neg hn]
    exact ref_len e3 hn
theorem v_toint (x : Int) (h0 : validE (elR cB) x = true) : ref17_one (⟨#[116, 111, 105, 110, 116]⟩ : ByteArray) x = element_value (⟨#[116, 111, 105, 110, 116]⟩ : ByteArray) x 0 0 := by
  rfl
theorem s_toint (zs : List Int) : ref17_Apply (⟨#[116, 111, 105, 110, 116]⟩ : ByteArray) zs = pApply (⟨#[116, 111, 105, 110, 116]⟩ : ByteArray) zs := by
  have e0 : (findR (⟨#[116, 111, 105, 110, 116]⟩ : ByteArray)).isSome = true := by kernel_rfl
  have e1 : rowF (⟨#[116, 111, 105, 110, 116]⟩ : ByteArray) = ⟨(⟨#[116, 111, 105, 110, 116]⟩ : ByteArray), cB, cE, cE, cI⟩ := by kernel_rfl
  have e2 : cntE ⟨(⟨#[116, 111, 105, 110, 116]⟩ : ByteArray), cB, cE, cE, cI⟩ = 1 := by kernel_rfl
  have e3 : ref17_Types (⟨#[116, 111, 105, 110, 116]⟩ : ByteArray) = some ([cB], cI, true) := by kernel_rfl
  unfold pApply
  rw [e0, if_pos rfl, e1, e2]
  by_cases hn : zs.length = 1
  · obtain ⟨x, rfl⟩ : ∃ x, zs = [x] := by
      match zs, hn with
      | [x], _ => exact ⟨x, rfl⟩
    rw [ref_1 e3, if_pos (show [x].length = 1 from rfl)]
    simp only [List.zip_cons_cons, List.zip_nil_right, okA, List.all_cons, List.all_nil, Bool.and_true, List.getD_cons_zero, List.getD_cons_succ, List.getD_nil]
    rw [show E5.elemOf cB = elR cB by kernel_rfl]
    cases h0 : validE (elR cB) x <;> simp only [Bool.and_true, Bool.and_false, Bool.false_and, Bool.true_and, Bool.and_self, Bool.false_eq_true, if_false, if_true]
    rw [v_toint x h0, value_is, Option.bind_some]
  · rw [if_neg hn]
    exact ref_len e3 hn
theorem types_none {op : ByteArray} (h : ∀ r ∈ rws, hitE op r = false) : ref17_Types op = some ([], cE, false) := by
  have g : ∀ k, (hk : k < 22) → eqB op (rws[k]'(by rw [rws_len]; exact hk)).n = false := fun k hk => by
    rw [eqB_comm]
    exact h _ (List.getElem_mem _)
  have g0 : eqB op (⟨#[97, 100, 100]⟩ : ByteArray) = false := g 0 (by decide)
  have g1 : eqB op (⟨#[115, 117, 98]⟩ : ByteArray) = false := g 1 (by decide)
  have g2 : eqB op (⟨#[109, 117, 108]⟩ : ByteArray) = false := g 2 (by decide)
  have g3 : eqB op (⟨#[100, 105, 118]⟩ : ByteArray) = false := g 3 (by decide)
  have g4 : eqB op (⟨#[109, 111, 100]⟩ : ByteArray) = false := g 4 (by decide)
  have g5 : eqB op (⟨#[109, 105, 110]⟩ : ByteArray) = false := g 5 (by decide)
  have g6 : eqB op (⟨#[109, 97, 120]⟩ : ByteArray) = false := g 6 (by decide)
  have g7 : eqB op (⟨#[110, 101, 103]⟩ : ByteArray) = false := g 7 (by decide)
  have g8 : eqB op (⟨#[97, 98, 115]⟩ : ByteArray) = false := g 8 (by decide)
  have g9 : eqB op (⟨#[115, 105, 103, 110]⟩ : ByteArray) = false := g 9 (by decide)
  have g10 : eqB op (⟨#[108, 116]⟩ : ByteArray) = false := g 10 (by decide)
  have g11 : eqB op (⟨#[108, 101]⟩ : ByteArray) = false := g 11 (by decide)
  have g12 : eqB op (⟨#[103, 116]⟩ : ByteArray) = false := g 12 (by decide)
  have g13 : eqB op (⟨#[103, 101]⟩ : ByteArray) = false := g 13 (by decide)
  have g14 : eqB op (⟨#[101, 113]⟩ : ByteArray) = false := g 14 (by decide)
  have g15 : eqB op (⟨#[110, 101]⟩ : ByteArray) = false := g 15 (by decide)
  have g16 : eqB op (⟨#[97, 110, 100]⟩ : ByteArray) = false := g 16 (by decide)
  have g17 : eqB op (⟨#[111, 114]⟩ : ByteArray) = false := g 17 (by decide)
  have g18 : eqB op (⟨#[120, 111, 114]⟩ : ByteArray) = false := g 18 (by decide)
  have g19 : eqB op (⟨#[110, 111, 116]⟩ : ByteArray) = false := g 19 (by decide)
  have g20 : eqB op (⟨#[115, 101, 108, 101, 99, 116]⟩ : ByteArray) = false := g 20 (by decide)
  have g21 : eqB op (⟨#[116, 111, 105, 110, 116]⟩ : ByteArray) = false := g 21 (by decide)
  unfold ref17_Types
  simp only [g0, g1, g2, g3, g4, g5, g6, g7, g8, g9, g10, g11, g12, g13, g14, g15, g16, g17, g18, g19, g20, g21, Bool.false_eq_true, if_false]
theorem same (op : ByteArray) (zs : List Int) : ref17_Apply op zs = pApply op zs := by
  rcases op_cases op with h | rfl | rfl | rfl | rfl | rfl | rfl | rfl | rfl | rfl | rfl | rfl | rfl | rfl | rfl | rfl | rfl | rfl | rfl | rfl | rfl | rfl | rfl
  · have e : findR op = none := List.find?_eq_none.2 fun r hr => by rw [h r hr]; simp
    unfold ref17_Apply pApply
    rw [types_none h, e]
    rfl
  · exact s_add zs
  · exact s_sub zs
  · exact s_mul zs
  · exact s_div zs
  · exact s_mod zs
  · exact s_min zs
  · exact s_max zs
  · exact s_neg zs
  · exact s_abs zs
  · exact s_sign zs
  · exact s_lt zs
  · exact s_le zs
  · exact s_gt zs
  · exact s_ge zs
  · exact s_eq zs
  · exact s_ne zs
  · exact s_and zs
  · exact s_or zs
  · exact s_xor zs
  · exact s_not zs
  · exact s_select zs
  · exact s_toint zs

end Go.Proofs.YtdhpmkaggojgbaaDoor.E6
