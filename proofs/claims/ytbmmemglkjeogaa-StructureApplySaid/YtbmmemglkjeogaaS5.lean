/- Structure: the elements, one behind the other. -/
import Derived.Test.YtbmmemglkjeogaaS4
namespace Go.Proofs.Ytbmmemglkjeogaa.S5
open Go Go.Proofs.Ytbmmemglkjeogaa.Eng Go.Proofs.Ytbmmemglkjeogaa Go.RowKit Go.Proofs.Ytbmmemglkjeogaa.A1 Go.Proofs.Ytbmmemglkjeogaa.A2 Go.Proofs.Ytbmmemglkjeogaa.A3 Go.Proofs.Ytbmmemglkjeogaa.S1 Go.Proofs.Ytbmmemglkjeogaa.S2 Go.Proofs.Ytbmmemglkjeogaa.S3 Go.Proofs.Ytbmmemglkjeogaa.S4
set_option linter.unusedSimpArgs false
set_option linter.unusedVariables false
set_option linter.unusedSectionVars false
set_option maxRecDepth 100000

def rowsN (ds : List Int) : Int := match ds with | [] => 1 | d :: _ => d
def colsN (ds : List Int) : Int := match ds with | _ :: d :: _ => d | _ => 1
/-- The elements of n rows, and of k of one more. -/
def pre (f : Int → Int → Int) (c : Int) (x : Nat) : List Int := (List.range x).flatMap fun (i : Nat) => (List.range c.toNat).map fun (j : Nat) => f i j
def gatherE (ds : List Int) (f : Int → Int → Int) : List Int := pre f (colsN ds) (rowsN ds).toNat
theorem pre_succ (f : Int → Int → Int) (c : Int) (x : Nat) : pre f c (x + 1) = pre f c x ++ (List.range c.toNat).map fun (j : Nat) => f x j := by
  unfold pre
  rw [List.range_succ, List.flatMap_append]
  simp
theorem pre_len (f : Int → Int → Int) (c : Int) : ∀ x : Nat, (pre f c x).length = x * c.toNat
  | 0 => by simp [pre]
  | x + 1 => by rw [pre_succ, List.length_append, pre_len f c x]; simp [Nat.add_mul]

def gV (acc : List Int) : AV := match acc with | [] => .nils | _ :: _ => .own 2 1 acc.length
def gH (size : Int) (l : List Ar) (acc : List Int) : Heap := match acc with
  | [] => [some (.var 59 [I size, arrs l])]
  | _ :: _ => [some (.var 59 [I size, arrs l]), none, some (.row 3 1 (acc.map enc))]
def rowTo (f : Int → Int → Int) (x y : Nat) : List Int := (List.range y).map fun (j : Nat) => f x j
theorem rowTo_succ (f : Int → Int → Int) (x y : Nat) : rowTo f x (y + 1) = rowTo f x y ++ [f x y] := by
  unfold rowTo
  rw [List.range_succ, List.map_append]
  rfl
theorem rowTo_len (f : Int → Int → Int) (x y : Nat) : (rowTo f x y).length = y := by simp [rowTo]
abbrev gR (acc : List Int) : AV := match acc with | [] => .nils | _ :: _ => ints acc
theorem gR_imp {l : List Int} {ok : Nat → Prop} {w : World} {v : Value} (h : RepD ok w (gR l) v) : RepD ok w (ints l) v := by
  cases l with
  | nil => exact nil_imp h
  | cons x xs => exact h

set_option maxHeartbeats 1000000 in
theorem gather_ {o : Op13} {size : Int} {l : List Ar} {ds : List Int} {f : Int → Int → Int} (hr : 0 ≤ rowsN ds ∧ rowsN ds ≤ 4096) (hc : 0 ≤ colsN ds ∧ colsN ds ≤ 4096) (he : ∀ x y : Nat, (x : Int) < rowsN ds → (y : Int) < colsN ds → El o size l x y (f x y)) :
    Meets Try.prog 39 [ints ds, argsV size l, .fn (eF o) []] (ints (gatherE ds f)) := by
  refine Meets.weak (r0 := gR (gatherE ds f)) ?_ fun ok w v h => gR_imp h
  unfold gatherE
  obtain ⟨r, e1⟩ : ∃ r, rowsN ds = r := ⟨_, rfl⟩
  obtain ⟨c, e2⟩ : ∃ c, colsN ds = c := ⟨_, rfl⟩
  rw [e1] at hr he ⊢
  rw [e2] at hc he ⊢
  have hp := pre_len f c
  refine meets_of (X := false) Ty.mixed Try.func39 (by kernel_rfl) rfl (by kernel_rfl) (by simp) ?_; rw [Try.ntmps39, Try.results39]
  rcases ds with _ | ⟨a, _ | ⟨b, ds⟩⟩
  case' nil =>
    simp only [rowsN, colsN] at e1 e2
    simp only [awp_skip, awp_reg, awp_seq, awp_cond, awp_block, awp_loop, seqQ_n, awpOps_nil, awpOps_one, awpOp_is, isCallV, putK_is, updK_is, put_s, upd_s, slot_is, pureOp, apureO, astepO, killT, aev, cv, cvc, binK, elO_s, lenA, lenK, cellsA, cellOk, condA_f, argT, Bool.false_eq_true, ↓reduceIte, List.length_nil, List.map_nil, List.nil_append, Bool.true_and, true_and, reduceCtorEq, Nat.reduceAdd, Nat.reduceEqDiff, Nat.zero_add, Option.isSome_some, Ty.td22, show decide ((0 : Int) < ((0 : Nat) : Int)) = false from rfl, show decide ((1 : Int) < ((0 : Nat) : Int)) = false from rfl]
  case' cons.nil =>
    simp only [rowsN, colsN] at e1 e2
    simp only [awp_skip, awp_reg, awp_seq, awp_cond, awp_block, awp_loop, seqQ_n, awpOps_nil, awpOps_one, awpOp_is, isCallV, putK_is, updK_is, put_s, upd_s, slot_is, pureOp, apureO, astepO, killT, aev, cv, cvc, binK, elO_s, lenA, lenK, loadA_d, cellsA, cellOk, condA_t, condA_f, argT, Bool.false_eq_true, ↓reduceIte, List.getElem?_cons_zero, List.length_cons, List.length_nil, List.map_cons, List.map_nil, List.nil_append, Bool.true_and, true_and, reduceCtorEq, Nat.reduceAdd, Nat.reduceEqDiff, Nat.zero_add, Int.reduceToNat, Option.isSome_some, Int.le_refl, Ty.td3, Ty.td22, show decide ((0 : Int) < ((1 : Nat) : Int)) = true from rfl, show decide ((1 : Int) < ((1 : Nat) : Int)) = false from rfl]
  case' cons.cons =>
    simp only [rowsN, colsN] at e1 e2
    simp only [awp_reg, awp_seq, awp_cond, awp_block, awp_loop, seqQ_n, awpOps_nil, awpOps_one, awpOp_is, isCallV, putK_is, updK_is, put_s, upd_s, slot_is, pureOp, apureO, astepO, killT, aev, cv, cvc, binK, elO_s, lenA, lenK, loadA_d, cellsA, cellOk, condA_t, argT, Bool.false_eq_true, ↓reduceIte, List.getElem?_cons_zero, List.getElem?_cons_succ, List.length_cons, List.length_nil, List.map_cons, List.nil_append, Bool.true_and, true_and, reduceCtorEq, Nat.reduceAdd, Nat.reduceEqDiff, Nat.zero_add, Int.reduceToNat, Option.isSome_some, Int.le_refl, Ty.td3, Ty.td22, List.length_map, show decide ((0 : Int) < ((ds.length + 1 + 1 : Nat) : Int)) = true from by simp; omega, show decide ((1 : Int) < ((ds.length + 1 + 1 : Nat) : Int)) = true from by simp; omega]
  case' cons.cons =>
    refine ⟨by omega, ?_⟩
  all_goals
    refine loop_g (fun x : Nat => (x : Int) ≤ r) (fun x => ⟨43, [(25, I x), (24, I r), (8, I c), (9, gV (pre f c x)), (4, .ptr 0 0), (2, .fn (eF o) [])], gH size l (pre f c x)⟩) (fun x => (r - x).toNat) 0 (by omega) (by simp only [slot_is, aev, cv, cvc, Weak, ↓reduceIte, Bool.and_true, Bool.and_self, and_true, and_self, reduceCtorEq, Nat.reduceEqDiff, List.range_zero, gV, pre, List.range_zero, List.flatMap_nil] <;> simp <;> omega) rfl (.inl (by simp [gH, pre])) ?_
    intro x hx K hK
    simp only at hK
    simp only [awp_reg, awp_seq, awp_cond, seqQ_n, awpOps_nil, awpOps_one, awpOp_is, putK_is, put_s, slot_is, pureOp, apureO, aev, cv, cvc, binK, ↓reduceIte, Bool.true_and, true_and, Nat.reduceEqDiff]
    refine condA_dec (fun hlt => ?_) (fun hge => ?_)
    · simp only [awp_skip, awp_reg, awp_seq, awp_block, awp_loop, seqQ_n, awpOps_nil, awpOps_one, awpOp_is, putK_is, put_s, slot_is, pureOp, apureO, aev, cv, cvc, ↓reduceIte, Nat.reduceEqDiff]
      refine loop_g (fun y : Nat => (y : Int) ≤ c) (fun y => ⟨43, [(29, I y), (28, I c), (10, I x), (25, I x), (24, I r), (8, I c), (9, gV (pre f c x ++ rowTo f x y)), (4, .ptr 0 0), (2, .fn (eF o) [])], gH size l (pre f c x ++ rowTo f x y)⟩) (fun y => (c - y).toNat) 0 (by omega) (by simp only [slot_is, aev, cv, cvc, Weak, ↓reduceIte, List.map_nil, List.append_nil, Bool.and_true, Bool.and_self, and_true, and_self, Nat.reduceEqDiff, List.range_zero, rowTo, List.range_zero, List.append_nil] <;> simp) rfl (.inl (by simp [rowTo])) ?_
      intro y hy K' hK'
      simp only at hK'
      simp only [awp_reg, awp_seq, awp_cond, seqQ_n, awpOps_nil, awpOps_one, awpOp_is, putK_is, put_s, slot_is, pureOp, apureO, aev, cv, cvc, binK, ↓reduceIte, Bool.true_and, true_and, Nat.reduceEqDiff]
      refine condA_dec (fun hlt2 => ?_) (fun hge2 => ?_)
      · have hm := el_ (he x y hlt hlt2)
        have hnx := hK' (y + 1)
        rw [rowTo_succ, ← List.append_assoc] at hnx
        have hal : (pre f c x ++ rowTo f x y).length ≤ 16777216 := by
          rw [List.length_append, hp, rowTo_len]
          have h1 : x * c.toNat ≤ 4096 * 4096 - 4096 := by
            have := Nat.mul_le_mul (show x ≤ 4095 by omega) (show c.toNat ≤ 4096 by omega)
            omega
          omega
        generalize pre f c x ++ rowTo f x y = acc at *
        generalize f x y = z at *
        cases acc with
        | nil =>
          simp only [awp_skip, awp_reg, awp_seq, awp_block, seqQ_n, awpOps_nil, awpOps_one, awpOp_is, isCallV, callW_is, callV_is, putK_is, put_s, slot_is, pureOp, apureO, aev, cv, cvc, elO_s, loadA_p, Bool.false_eq_true, ↓reduceIte, List.getElem?_cons_zero, List.length_cons, List.length_nil, List.map_cons, List.map_nil, List.append_nil, List.take_succ_cons, List.drop_zero, Bool.true_and, true_and, Nat.reduceAdd, Nat.reduceEqDiff, Nat.zero_add, Nat.le_refl, List.take_nil, Ty.td59, gV, gH]
          refine call_meets (hm) (by simp only [aev, cv, cvc, toD_c, toD_agg, toD_sl, consO_some, toDL_nil, toDL_cons, Option.map_some, wrap_in (x := (y : Int) + 1) (by omega) (by omega)] <;> rfl) ?_; simp only [awp_reg, seqQ_n, loopQ_n, blkQ_n, awpOps_nil, awpOps_one, awpOp_is, isCallV, putK_is, updK_is, put_s, upd_s, slot_is, slot.eq_1, pureOp, apureO, astepO, bsEnd_is, appA_own, appV, killT, aev, cv, cvc, binK, elO_s, cellsA, cellOk, setAll, fillA, elemsA, elemsN, chunk, flat_c, isD_c, isDL_nil, isDL_cons, ownsV_c, ownsV_agg, ownsV_sl, ownsL_nil, ownsL_cons, Bool.false_eq_true, ↓reduceIte, List.getElem?_cons_zero, List.getElem?_cons_succ, List.length_cons, List.length_nil, List.map_cons, List.map_nil, List.cons_append, List.nil_append, List.append_nil, List.set_cons_zero, List.take_succ_cons, List.drop_zero, List.all_cons, List.all_nil, Bool.true_and, Bool.and_self, Bool.or_true, Value.oneCell', true_and, and_self, Nat.reduceAdd, Nat.reduceMul, Nat.reduceLT, Nat.reduceLeDiff, Nat.reduceEqDiff, Nat.reduceMod, Nat.zero_add, List.isEmpty_nil, List.range_succ, List.range_zero, Nat.le_refl, List.take_nil, Ty.td3, Ty.td22, wrap_in (x := (y : Int) + 1) (by omega) (by omega)]
          refine hnx _ (by omega) (by omega) ?_ rfl (.weak (by simp [gH]) (by simp [WeakH, gH]) rfl rfl)
          simp only [slot_is, aev, cv, cvc, Weak, ↓reduceIte, List.length_cons, List.length_nil, List.nil_append, Bool.and_true, Bool.and_self, and_true, and_self, Nat.reduceEqDiff, Nat.zero_add, gV]
          try simp
        | cons u us =>
          have hbt : List.take us.length (List.map enc us) = List.map enc us := List.take_of_length_le (by simp)
          simp only [List.length_cons] at hal
          simp only [awp_skip, awp_reg, awp_seq, awp_block, seqQ_n, awpOps_nil, awpOps_one, awpOp_is, isCallV, callW_is, callV_is, putK_is, put_s, slot_is, pureOp, apureO, aev, cv, cvc, elO_s, loadA_p, Bool.false_eq_true, ↓reduceIte, List.getElem?_cons_zero, List.length_cons, List.length_nil, List.map_cons, List.map_nil, List.append_nil, List.take_succ_cons, List.drop_zero, Bool.true_and, true_and, Nat.reduceAdd, Nat.reduceEqDiff, Nat.zero_add, Nat.le_refl, List.take_nil, Ty.td59, gV, gH]
          refine call_meets (hm) (by simp only [aev, cv, cvc, toD_c, toD_agg, toD_sl, consO_some, toDL_nil, toDL_cons, Option.map_some, wrap_in (x := (y : Int) + 1) (by omega) (by omega), hbt] <;> rfl) ?_; simp only [awp_reg, seqQ_n, loopQ_n, blkQ_n, awpOps_nil, awpOps_one, awpOp_is, isCallV, putK_is, updK_is, put_s, upd_s, slot_is, slot.eq_1, pureOp, apureO, astepO, bsEnd_is, appA_own, appV, killT, killB, killH, aev, cv, cvc, binK, elO_s, cellsA, cellOk, setAll, fillA, elemsA, elemsN, rowE, chunk, flat_c, isD_c, isDL_nil, isDL_cons, ownsV_c, ownsV_agg, ownsV_sl, ownsL_nil, ownsL_cons, killV_c, killV_agg, killV_sl, killV_own, killV_fn, killV_ptr, killL_nil, killL_cons, Bool.false_eq_true, ↓reduceIte, List.getElem?_cons_zero, List.getElem?_cons_succ, List.length_cons, List.length_nil, List.map_cons, List.map_nil, List.cons_append, List.nil_append, List.append_nil, List.set_cons_zero, List.set_cons_succ, Option.map_some, Option.map_none, List.take_succ_cons, List.drop_zero, List.all_cons, List.all_nil, Bool.true_and, Bool.and_self, Bool.or_true, Bool.or_false, Value.oneCell', true_and, and_self, reduceCtorEq, Nat.reduceAdd, Nat.reduceMul, Nat.reduceLT, Nat.reduceLeDiff, Nat.reduceEqDiff, Nat.reduceMod, Nat.zero_add, List.isEmpty_nil, List.mem_cons, List.not_mem_nil, or_false, List.range_succ, List.range_zero, Nat.le_refl, List.take_nil, List.getElem?_nil, Ty.td3, Ty.td22, wrap_in (x := (y : Int) + 1) (by omega) (by omega), List.length_map, hbt]
          refine ⟨by omega, by omega, ?_⟩
          refine hnx _ (by omega) (by omega) ?_ rfl (.weak (by simp [gH]) (by simp [WeakH, gH]) rfl rfl)
          simp only [slot_is, aev, cv, cvc, Weak, ↓reduceIte, List.length_cons, List.cons_append, Bool.and_true, Bool.true_and, Bool.and_self, true_and, and_true, and_self, Nat.reduceEqDiff, gV]
          try simp
      · have hyc : y = c.toNat := by omega
        subst hyc
        rw [show pre f c x ++ rowTo f x c.toNat = pre f c (x + 1) from (pre_succ f c x).symm]
        simp only [awp_reg, awp_exit, seqQ_n, seqQ_e, loopQ_n, loopQ_e, blkQ_n, blkQ_e, awpOps_nil, awpOps_one, awpOp_is, putK_is, put_s, slot_is, pureOp, apureO, aev, cv, cvc, binK, ↓reduceIte, Bool.true_and, true_and, Nat.reduceEqDiff, wrap_in (x := (x : Int) + 1) (by omega) (by omega)]
        refine hK (x + 1) _ (by omega) (by omega) ?_ rfl (.inl rfl)
        simp only [slot_is, aev, cv, cvc, Weak, ↓reduceIte, Bool.and_true, Bool.and_self, and_true, and_self, Nat.reduceEqDiff]
        simp
    · have hxr : x = r.toNat := by omega
      subst hxr
      generalize pre f c r.toNat = acc at *
      cases acc with
      | nil => simp only [awp_reg, awp_seq, awp_exit, awp_ret, seqQ_n, seqQ_e, loopQ_e, blkQ_e, awpOps_nil, awpOps_one, awpOp_is, putK_is, put_s, slot_is, retA_is, pureOp, apureO, aev, cv, cvc, toD_nils, notExit, resA_nil, resA_tmp, oneA_1, ↓reduceIte, Bool.and_self, and_self, Nat.reduceEqDiff, gV, gH]
      | cons u us =>
        have hbt : List.take us.length (List.map enc us) = List.map enc us := List.take_of_length_le (by simp)
        simp only [awp_reg, awp_seq, awp_exit, awp_ret, seqQ_n, seqQ_e, loopQ_e, blkQ_e, awpOps_nil, awpOps_one, awpOp_is, putK_is, put_s, slot_is, retA_is, pureOp, apureO, aev, cv, cvc, elemsA, toD_own, notExit, resA_nil, resA_tmp, oneA_1, ↓reduceIte, List.getElem?_cons_zero, List.getElem?_cons_succ, List.length_cons, List.map_cons, Option.map_some, List.take_succ_cons, Bool.true_and, Bool.and_self, true_and, and_self, Nat.reduceEqDiff, Nat.le_refl, gV, gH, List.length_map, hbt]
        rfl
end Go.Proofs.Ytbmmemglkjeogaa.S5
