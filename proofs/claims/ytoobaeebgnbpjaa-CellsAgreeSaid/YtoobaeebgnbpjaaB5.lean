/- Cells: Axes and Pick. -/
import Derived.Test.YtoobaeebgnbpjaaB4
namespace Go.Proofs.Ytoobaeebgnbpjaa.B5
open Go Go.Proofs.Ytoobaeebgnbpjaa.Eng Go.Proofs.Ytoobaeebgnbpjaa Go.RowKit Go.Proofs.Ytoobaeebgnbpjaa.A1 Go.Proofs.Ytoobaeebgnbpjaa.A2 Go.Proofs.Ytoobaeebgnbpjaa.A3 Go.Proofs.Ytoobaeebgnbpjaa.A4 Go.Proofs.Ytoobaeebgnbpjaa.A5 Go.Proofs.Ytoobaeebgnbpjaa.B1 Go.Proofs.Ytoobaeebgnbpjaa.B2
set_option linter.unusedSimpArgs false
set_option linter.unusedVariables false
set_option maxRecDepth 100000

/-- Axes in order, behind the one before. -/
def axsE (n : Int) : Option Int → List Int → Bool
  | _, [] => true
  | none, a :: r => !decide (a < 0) && !decide (n ≤ a) && axsE n (some a) r
  | some p, a :: r => !decide (a < 0) && !decide (n ≤ a) && !decide (a ≤ p) && axsE n (some a) r
def pv (l : List Int) : Nat → Option Int
  | 0 => none
  | k + 1 => l[k]?
def getE (l : List Int) (a : Int) : Int := l.getD a.toNat 0
def pickE (l ax : List Int) : List Int × Bool := if axsE l.length none ax then (ax.map (getE l), true) else ([], false)

theorem axsE_mem (n : Int) : ∀ (p : Option Int) (l : List Int), axsE n p l = true → ∀ a ∈ l, 0 ≤ a ∧ a < n
  | _, [], _ => by simp
  | none, x :: r, h => by
    simp only [axsE, Bool.and_eq_true, Bool.not_eq_true', decide_eq_false_iff_not] at h
    intro a ha
    rcases List.mem_cons.1 ha with rfl | ha
    · omega
    · exact axsE_mem n _ r h.2 a ha
  | some p, x :: r, h => by
    simp only [axsE, Bool.and_eq_true, Bool.not_eq_true', decide_eq_false_iff_not] at h
    intro a ha
    rcases List.mem_cons.1 ha with rfl | ha
    · omega
    · exact axsE_mem n _ r h.2 a ha

def ivV (L : Nat) : List Int → AV
  | [] => .nils
  | x :: xs => .own L 1 (xs.length + 1)
def ivR : List Int → AV
  | [] => .nils
  | x :: xs => ints (x :: xs)
def ivH (g : List (Option Blk)) : List Int → Heap
  | [] => []
  | x :: xs => g ++ [some (.row 3 1 ((x :: xs).map enc))]
theorem ivR_imp {l : List Int} {ok : Nat → Prop} {w : World} {v : Value} (h : RepD ok w (ivR l) v) : RepD ok w (ints l) v := by
  cases l with
  | nil => exact nil_imp h
  | cons x xs => exact h
abbrev two' (x : List Int × Bool) : AV := .tup [ints x.1, B x.2]
theorem two_imp {x : List Int × Bool} (ok : Nat → Prop) (w : World) (v : Value) (h : RepD ok w (.tup [ivR x.1, B x.2]) v) : RepD ok w (two' x) v :=
  tup_imp (fun _ => cons_imp (fun _ => ivR_imp) fun _ h => h) h

theorem take_map {l ax : List Int} {k : Nat} (h : k < ax.length) : (ax.take (k + 1)).map (getE l) = (ax.take k).map (getE l) ++ [getE l ax[k]] := by
  rw [List.take_succ_eq_append_getElem h, List.map_append]
  rfl

theorem pick (l ax : List Int) (hl : l.length ≤ 1000000) (ha : ax.length ≤ 1000000) : Meets Try.prog 19 [ints l, ints ax] (two' (pickE l ax)) := by
  refine Meets.weak (r0 := .tup [ivR (pickE l ax).1, B (pickE l ax).2]) ?_ two_imp
  unfold pickE
  refine meets_of (X := false) Ty.mixed Try.func19 (by kernel_rfl) rfl (by kernel_rfl) (by simp) ?_; rw [Try.ntmps19, Try.results19]
  simp only [awp_reg, awp_seq, awp_block, awp_loop, seqQ_n, awpOps_nil, awpOps_one, awpOp_is, putK_is, put_s, slot_is, pureOp, apureO, aev, cv, cvc, elO_s, lenA, lenK, argT, ↓reduceIte, Bool.true_and, true_and, reduceCtorEq, Nat.reduceEqDiff, Nat.zero_add, Option.isSome_some, Ty.td22, List.length_map]
  refine loop_g (fun x : Nat × List Int => x.1 ≤ ax.length ∧ x.2 = (ax.take x.1).map (getE l) ∧ axsE l.length none ax = axsE l.length (pv ax x.1) (ax.drop x.1)) (fun x => ⟨46, [(11, I x.1), (10, I ax.length), (9, ints ax), (6, ivV 1 x.2), (0, ints l), (1, ints ax)], ivH [none] x.2⟩) (fun x => ax.length - x.1) (0, []) ⟨Nat.zero_le _, rfl, rfl⟩ (by simp only [slot_is, aev, cv, cvc, Weak, ↓reduceIte, Bool.and_true, Bool.and_self, and_true, and_self, reduceCtorEq, Nat.reduceEqDiff, ivV]; simp) rfl (.inl rfl) ?_
  rintro ⟨k, acc⟩ ⟨hk, hacc, hi⟩ K hK
  simp only at hk hacc hi hK
  simp only [awp_reg, awp_seq, awp_cond, seqQ_n, awpOps_nil, awpOps_one, awpOp_is, putK_is, put_s, slot_is, pureOp, apureO, aev, cv, cvc, binK, ↓reduceIte, Bool.true_and, true_and, Nat.reduceEqDiff]
  refine condA_dec (fun hlt => ?_) (fun hge => ?_)
  · have hlt' : k < ax.length := by omega
    have hx : ax[k]? = some ax[k] := List.getElem?_eq_getElem hlt'
    have hstep := take_map (l := l) hlt'
    rw [List.drop_eq_getElem_cons hlt'] at hi
    have hnext : pv ax (k + 1) = some ax[k] := hx
    have hal : acc.length = k := by rw [hacc]; simp; omega
    generalize ax[k] = x at *
    by_cases h1 : x < 0
    · have h0 : axsE l.length none ax = false := by
        rw [hi]
        cases pv ax k <;> simp [axsE, h1]
      cases acc <;> simp only [awp_skip, awp_reg, awp_seq, awp_cond, awp_block, awp_ret, seqQ_n, seqQ_r, loopQ_r, blkQ_r, awpOps_nil, awpOps_one, awpOps_if, awpOp_is, putK_is, put_s, slot_is, retA_is, pureOp, apureO, aev, cv, cvc, binK, elO_s, loadA_d, yieldA, guardA_no, guardA_ft, condA_t, pickA_t, toD_c, toD_nils, toD_tup, consO_some, toDL_nil, toDL_cons, notExit, resA_nil, resA_tmp, oneA_2, Int.natCast_nonneg, Bool.false_eq_true, ↓reduceIte, List.getElem?_cons_zero, List.getElem?_cons_succ, List.map_cons, List.cons_append, List.nil_append, List.getElem?_toArray, Option.bind_some, Option.map_some, Bool.and_true, Bool.true_and, Bool.and_self, true_and, and_true, and_self, Nat.reduceEqDiff, Int.toNat_natCast, decide_true, Ty.td3, Ty.td22, List.getElem?_map, hx, h1, h0, ivV, ivH, ivR]
    by_cases h2 : (l.length : Int) ≤ x
    · have h0 : axsE l.length none ax = false := by
        rw [hi]
        cases pv ax k <;> simp [axsE, h2]
      cases acc <;> simp only [awp_skip, awp_reg, awp_seq, awp_cond, awp_block, awp_ret, seqQ_n, seqQ_r, loopQ_r, blkQ_r, awpOps_nil, awpOps_one, awpOps_if, awpOp_is, awpO_is, putK_is, put_s, slot_is, retA_is, pureOp, apureO, aev, cv, cvc, binK, elO_s, lenA, lenK, loadA_d, yieldA, guardA_no, guardA_ft, guardA_ff, condA_t, pickA_t, pickA_f, toD_c, toD_nils, toD_tup, consO_some, toDL_nil, toDL_cons, notExit, resA_nil, resA_tmp, oneA_2, Int.natCast_nonneg, Bool.false_eq_true, ↓reduceIte, List.getElem?_cons_zero, List.getElem?_cons_succ, List.map_cons, List.cons_append, List.nil_append, List.getElem?_toArray, Option.bind_some, Option.map_some, Bool.and_true, Bool.true_and, Bool.and_self, true_and, and_true, and_self, reduceCtorEq, Nat.reduceEqDiff, Int.toNat_natCast, Option.isSome_some, decide_true, decide_false, Ty.td3, Ty.td22, List.getElem?_map, hx, h1, h2, h0, ivV, ivH, ivR, List.length_map]
    have hget : l[x.toNat]? = some (getE l x) := by
      unfold getE
      rw [List.getD_eq_getElem?_getD, List.getElem?_eq_getElem (by omega)]
      rfl
    have h3 : 0 ≤ x := by omega
    cases k with
    | zero =>
      obtain rfl : acc = [] := by simpa using hal
      simp only [pv, axsE, h1, h2, decide_false, Bool.not_false, Bool.true_and] at hi
      simp only [awp_skip, awp_reg, awp_seq, awp_cond, awp_block, seqQ_n, loopQ_n, blkQ_n, awpOps_nil, awpOps_one, awpOps_if, awpOp_is, isCallV, awpO_is, putK_is, updK_is, put_s, upd_s, slot_is, slot.eq_1, pureOp, apureO, astepO, bsEnd_is, appA_own, appV, killT, aev, cv, cvc, binK, elO_s, lenA, lenK, loadA_d, cellsA, cellOk, setAll, fillA, yieldA, guardA_tf, guardA_ff, condA_f, pickA_f, elemsA, elemsN, chunk, isD_c, isDL_nil, isDL_cons, Int.natCast_nonneg, Bool.false_eq_true, ↓reduceIte, List.getElem?_cons_zero, List.getElem?_cons_succ, List.length_cons, List.length_nil, List.map_cons, List.map_nil, List.cons_append, List.nil_append, List.set_cons_zero, List.getElem?_toArray, Option.bind_some, Option.map_some, Option.getD_some, List.take_succ_cons, List.drop_zero, List.all_cons, List.all_nil, Bool.and_true, Bool.true_and, Bool.and_self, Value.oneCell', true_and, and_true, and_self, reduceCtorEq, Nat.reduceMul, Nat.reduceLT, Nat.reduceLeDiff, Nat.reduceEqDiff, Nat.reduceMod, Nat.zero_add, Int.toNat_natCast, List.range_succ, List.range_zero, Option.isSome_some, decide_false, Nat.le_refl, List.take_nil, Ty.td3, Ty.td22, List.getElem?_map, hx, h1, h2, hget, h3, ivV, ivH, List.length_map, show ¬ (0 : Int) < ((0 : Nat) : Int) by simp, wrap_in (x := ((0 : Nat) : Int) + 1) (by omega) (by omega)]
      refine hK (1, [getE l x]) _ ⟨hlt', by rw [hstep]; rfl, by rw [hnext]; exact hi⟩ (by simp; omega) ?_ rfl (.weak (by simp [ivH]) (by simp [WeakH, ivH]) rfl rfl)
      simp only [slot_is, aev, cv, cvc, Weak, ↓reduceIte, List.length_nil, Bool.and_true, Bool.and_self, and_true, and_self, reduceCtorEq, Nat.reduceEqDiff, Nat.zero_add, ivV]
      simp
    | succ j =>
      have hj : ax[j]? = some ax[j] := List.getElem?_eq_getElem (by omega)
      have hp : pv ax (j + 1) = some ax[j] := hj
      rw [hp] at hi
      generalize ax[j] = y at *
      have hw : IntKind.i64.wrap (((j + 1 : Nat) : Int) - 1) = (j : Int) := by rw [wrap_in (by omega) (by omega)]; omega
      have hw2 : IntKind.i64.wrap (((j + 1 : Nat) : Int) + 1) = ((j + 1 + 1 : Nat) : Int) := by rw [wrap_in (by omega) (by omega)]; omega
      have hpos : (0 : Int) < ((j + 1 : Nat) : Int) := by omega
      cases acc with
      | nil => simp at hal
      | cons b bs =>
      simp only [List.length_cons] at hal
      by_cases h4 : x ≤ y
      · have h0 : axsE l.length none ax = false := by
          rw [hi]
          simp [axsE, h4]
        simp only [awp_skip, awp_reg, awp_seq, awp_cond, awp_block, awp_ret, seqQ_n, seqQ_r, loopQ_r, blkQ_r, awpOps_nil, awpOps_one, awpOps_if, awpOp_is, awpO_is, putK_is, put_s, slot_is, retA_is, pureOp, apureO, aev, cv, cvc, binK, elO_s, lenA, lenK, loadA_d, yieldA, guardA_tt, guardA_ff, condA_t, pickA_t, pickA_f, toD_c, toD_nils, toD_tup, consO_some, toDL_nil, toDL_cons, notExit, resA_nil, resA_tmp, oneA_2, Int.natCast_nonneg, Bool.false_eq_true, ↓reduceIte, List.getElem?_cons_zero, List.getElem?_cons_succ, List.map_cons, List.cons_append, List.nil_append, List.getElem?_toArray, Option.bind_some, Option.map_some, Bool.and_true, Bool.true_and, Bool.and_self, true_and, and_true, and_self, reduceCtorEq, Nat.reduceEqDiff, Int.toNat_natCast, Option.isSome_some, decide_true, decide_false, Ty.td3, Ty.td22, List.getElem?_map, hx, hj, h1, h2, h4, h0, hw, hpos, ivV, ivH, ivR, List.length_map]
      simp only [axsE, h1, h2, h4, decide_false, Bool.not_false, Bool.true_and] at hi
      have hbt : List.take bs.length (List.map enc bs) = List.map enc bs := List.take_of_length_le (by simp)
      simp only [awp_skip, awp_reg, awp_seq, awp_cond, awp_block, seqQ_n, loopQ_n, blkQ_n, awpOps_nil, awpOps_one, awpOps_if, awpOp_is, isCallV, awpO_is, putK_is, updK_is, put_s, upd_s, slot_is, slot.eq_1, pureOp, apureO, astepO, bsEnd_is, appA_own, appV, killT, killB, killH, aev, cv, cvc, binK, elO_s, lenA, lenK, loadA_d, cellsA, cellOk, setAll, fillA, yieldA, guardA_tt, guardA_ff, condA_f, pickA_t, pickA_f, elemsA, elemsN, rowE, chunk, isD_c, isDL_nil, isDL_cons, killV_c, killV_sl, killV_own, killV_dptr, Int.natCast_nonneg, Bool.false_eq_true, ↓reduceIte, List.getElem?_cons_zero, List.getElem?_cons_succ, List.length_cons, List.length_nil, List.map_cons, List.map_nil, List.cons_append, List.nil_append, List.set_cons_zero, List.set_cons_succ, List.getElem?_toArray, Option.bind_some, Option.map_some, Option.map_none, Option.getD_some, List.take_succ_cons, List.drop_zero, List.all_cons, List.all_nil, Bool.and_true, Bool.true_and, Bool.and_self, Bool.or_false, Value.oneCell', true_and, and_true, and_self, reduceCtorEq, Nat.reduceAdd, Nat.reduceMul, Nat.reduceLT, Nat.reduceLeDiff, Nat.reduceEqDiff, Nat.reduceMod, Nat.zero_add, List.mem_cons, List.not_mem_nil, or_false, Int.toNat_natCast, List.range_succ, List.range_zero, Option.isSome_some, decide_true, decide_false, Nat.le_refl, List.take_nil, List.getElem?_nil, Ty.td3, Ty.td22, List.getElem?_map, hx, hj, h1, h2, h4, hget, h3, hw, hw2, hpos, hbt, ivV, ivH, List.length_map]
      refine ⟨by omega, by omega, ?_⟩
      refine hK (j + 1 + 1, b :: (bs ++ [getE l x])) _ ⟨hlt', by rw [hstep, ← hacc]; rfl, by rw [hnext]; exact hi⟩ (by simp; omega) ?_ rfl (.weak (by simp [ivH]) (by simp [WeakH, ivH]) rfl rfl)
      simp only [slot_is, aev, cv, cvc, Weak, ↓reduceIte, Bool.and_true, Bool.true_and, Bool.and_self, true_and, and_true, and_self, reduceCtorEq, Nat.reduceEqDiff, ivV]
      simp
  · have hk' : k = ax.length := by omega
    subst hk'
    rw [List.drop_length] at hi
    rw [show axsE l.length (pv ax ax.length) [] = true by cases pv ax ax.length <;> rfl] at hi
    rw [List.take_length] at hacc
    rw [hi]
    cases acc with
    | nil => simp only [awp_reg, awp_seq, awp_exit, awp_ret, seqQ_n, seqQ_e, loopQ_e, blkQ_e, awpOps_nil, awpOps_one, awpOp_is, putK_is, put_s, slot_is, retA_is, pureOp, apureO, aev, cv, cvc, toD_c, toD_nils, toD_tup, consO_some, toDL_nil, toDL_cons, notExit, resA_nil, resA_tmp, oneA_2, ↓reduceIte, Option.map_some, Bool.and_self, and_self, Nat.reduceEqDiff, ivV, ivH, ivR, ← hacc]
    | cons b bs =>
      have hbt : List.take bs.length (List.map enc bs) = List.map enc bs := List.take_of_length_le (by simp)
      simp only [awp_reg, awp_seq, awp_exit, awp_ret, seqQ_n, seqQ_e, loopQ_e, blkQ_e, awpOps_nil, awpOps_one, awpOp_is, putK_is, put_s, slot_is, retA_is, pureOp, apureO, aev, cv, cvc, elemsA, toD_c, toD_tup, toD_own, consO_some, toDL_nil, toDL_cons, notExit, resA_nil, resA_tmp, oneA_2, ↓reduceIte, List.getElem?_cons_zero, List.getElem?_cons_succ, List.length_cons, List.map_cons, List.cons_append, List.nil_append, Option.map_some, List.take_succ_cons, Bool.and_self, and_self, Nat.reduceEqDiff, Nat.le_refl, ivV, ivH, ivR, ← hacc, hbt, List.length_map, ints]
end Go.Proofs.Ytoobaeebgnbpjaa.B5
