/- Views: the offsets of all indices. -/
import Derived.Test.YtimagnkdgpfamaaV1
import Derived.Test.YtimagnkdgpfamaaA10
namespace Go.Proofs.Ytimagnkdgpfamaa.V2
open Go Go.Proofs.Ytimagnkdgpfamaa.Eng Go.Proofs.Ytimagnkdgpfamaa Go.RowKit Go.Proofs.Ytimagnkdgpfamaa.A1 Go.Proofs.Ytimagnkdgpfamaa.A2 Go.Proofs.Ytimagnkdgpfamaa.A3 Go.Proofs.Ytimagnkdgpfamaa.A4 Go.Proofs.Ytimagnkdgpfamaa.A5 Go.Proofs.Ytimagnkdgpfamaa.A8 Go.Proofs.Ytimagnkdgpfamaa.A10 Go.Proofs.Ytimagnkdgpfamaa.V1
set_option linter.unusedSimpArgs false
set_option linter.unusedVariables false
set_option linter.unusedSectionVars false
set_option maxRecDepth 100000

def offs (o : Int) (ds ss : List Int) (k : Nat) : List Int := (List.range k).map fun (i : Nat) => dot (idxR ds (i : Int)).1 ss o
theorem offs_len (o : Int) (ds ss : List Int) (k : Nat) : (offs o ds ss k).length = k := by simp [offs]
theorem offs_step (o : Int) (ds ss : List Int) (k : Nat) : offs o ds ss (k + 1) = offs o ds ss k ++ [dot (idxR ds (k : Int)).1 ss o] := by simp [offs, List.range_succ]
theorem index_in {ds : List Int} {n : Int} {k : Nat} (h : sizeE ds = (n, 0)) (hk : (k : Int) < n) : indexE ds (k : Int) = ((idxR ds (k : Int)).1, 0) := by
  unfold indexE
  rw [h, if_neg (by simp), if_neg (by simp only; omega)]

theorem voffsets (o : Int) (ds ss : List Int) : Meets Try.prog 49 [vw o ds ss] (.fn 68 [.dptr [I o, ints ds, ints ss]]) := by
  refine meets_of (X := false) Ty.mixed Try.func49 (by kernel_rfl) rfl (by kernel_rfl) (by simp) ?_; rw [Try.ntmps49, Try.results49]
  simp only [awp_reg, awp_seq, awp_ret, seqQ_n, awpOps_nil, awpOps_one, awpOp_is, isCallV, putK_is, updK_is, put_s, upd_s, slot_is, retA_is, pureOp, apureO, astepO, killT, aev, cv, cvc, cellsA, cellOk, isD_c, isD_sl, isDL_nil, isDL_cons, toD_fn, toD_ptr, consO_some, toDL_nil, toDL_cons, notExit, resA_nil, resA_tmp, oneA_1, argT, Bool.false_eq_true, ↓reduceIte, List.getElem?_cons_zero, List.length_nil, List.map_cons, List.map_nil, List.nil_append, Option.map_some, List.drop_zero, Bool.and_self, and_self, Nat.reduceEqDiff, List.size_toArray]

def oqH (o : Int) (ds ss : List Int) : Nat → Heap
  | 0 => [some (.var 22 [.nils])]
  | k + 1 => [some (.var 22 [.own 2 1 (k + 1)]), none, some (.row 3 1 ((offs o ds ss (k + 1)).map enc))]
def oqR (o : Int) (ds ss : List Int) : Nat → AV
  | 0 => .nils
  | k + 1 => ints (offs o ds ss (k + 1))
theorem oqR_imp {o : Int} {ds ss : List Int} {n : Nat} {ok : Nat → Prop} {w : World} {v : Value} (h : RepD ok w (oqR o ds ss n) v) : RepD ok w (ints (offs o ds ss n)) v := by
  cases n with
  | zero => exact nil_imp h
  | succ n => exact h
theorem oqR_toD (h : Heap) (o : Int) (ds ss : List Int) (n : Nat) : toD h (oqR o ds ss n) = some (oqR o ds ss n) := by cases n <;> rfl

section
variable (o : Int) (ds ss : List Int) (n : Nat) (hd : ds.length ≤ 1000000) (hl : ds.length = ss.length) (hs : sizeE ds = ((n : Int), 0))
include hd hl hs
theorem appendSeq : Meets Try.prog 67 [.nils, .fn 68 [.dptr [I o, ints ds, ints ss]]] (oqR o ds ss n) := by
  have hn : n ≤ 4096 := by have := sizeE_bound ds; rw [hs] at this; simp only at this; omega
  have hz := size ds hd
  rw [hs] at hz
  refine meets_of (X := false) Ty.mixed Try.func67 (by kernel_rfl) rfl (by kernel_rfl) (by simp) ?_; rw [Try.ntmps67, Try.results67]
  simp only [awp_range, awp_reg, awp_seq, awp_block, seqQ_n, awpOps_nil, awpOps_one, awpOp_is, isCallV, putK_is, updK_is, put_s, upd_s, slot_is, pureOp, apureO, astepO, killT, aev, cv, cvc, cellsA, cellOk, argT, Bool.false_eq_true, ↓reduceIte, List.length_nil, List.nil_append, Bool.true_and, true_and, reduceCtorEq, Nat.reduceEqDiff, Nat.zero_add]
  refine range_inl (X := false) Ty.mixed rfl Try.func68 (by kernel_rfl) rfl (by kernel_rfl) (by rw [Try.results68]) (by simp) (by kernel_rfl) (by kernel_rfl) (by kernel_rfl) (by kernel_rfl) (by simp) ?_; intro l; rw [Try.ntmps68]; simp only [awp_reg, awp_seq, awpOps_one, awpOp_is, isCallV, callW_is, callV_is, shiftT, putK_is, put_s, slot_is, pureOp, apureO, aev, cv, cvc, elO_s, loadA_d, argT, Bool.false_eq_true, ↓reduceIte, List.getElem?_cons_zero, List.getElem?_cons_succ, List.map_cons, List.map_nil, List.cons_append, List.nil_append, List.append_nil, List.drop_succ_cons, List.drop_zero, Bool.true_and, true_and, ne_eq, not_false_eq_true, reduceCtorEq, Nat.reduceAdd, Nat.zero_add, Nat.add_zero, Ty.td22, Ty.td28]
  refine call_meets (hz) (by simp only [aev, cv, cvc, toD_sl, consO_some, toDL_nil, toDL_cons] <;> rfl) ?_; simp only [awp_reg, awp_seq, awp_block, awp_loop, seqQ_n, awpOps_nil, awpOps_one, awpOp_is, putK_is, put_s, upd_s, slot_is, pureOp, apureO, killT, aev, cv, cvc, elO_s, flat_c, flat_tup, flatL_nil, flatL_cons, ownsV_sl, ownsL_nil, ownsL_cons, ↓reduceIte, List.getElem?_cons_zero, List.getElem?_cons_succ, List.append_nil, Bool.and_self, Bool.or_true, and_self, Nat.reduceEqDiff, List.isEmpty_nil]
  refine loop_g (fun k : Nat => k ≤ n) (fun k => ⟨32, [(15, I k), (14, I n), (0, .c (.func (.yield l) #[] #[])), (1, .dptr [I o, ints ds, ints ss]), (34, .ptr 0 0)], oqH o ds ss k⟩) (fun k => n - k) 0 (Nat.zero_le _) (by simp only [slot_is, aev, cv, cvc, Weak, ↓reduceIte, Bool.and_true, Bool.and_self, and_true, and_self, reduceCtorEq, Nat.reduceEqDiff]; simp) rfl (.inl rfl) ?_
  intro k hk K hK
  simp only at hK
  simp only [awp_reg, awp_seq, awp_cond, seqQ_n, awpOps_nil, awpOps_one, awpOp_is, putK_is, put_s, slot_is, pureOp, apureO, aev, cv, cvc, binK, ↓reduceIte, Bool.true_and, true_and, Nat.reduceEqDiff]
  refine condA_dec (fun hlt => ?_) (fun hge => ?_)
  · have hlt' : k + 1 ≤ n := by omega
    have hi := index ds (k : Int) hd
    rw [index_in hs hlt] at hi
    have hat := vat o ds ss (idxR ds (k : Int)).1 (by rw [idxR_len]; exact hd) (by rw [idxR_len]; omega)
    have hstep := offs_step o ds ss k
    generalize (idxR ds (k : Int)).1 = x at *
    generalize dot x ss o = y at *
    cases k with
    | zero =>
      have hx1 : offs o ds ss 1 = [y] := by rw [hstep]; rfl
      simp only [awp_skip, awp_reg, awp_seq, awp_block, seqQ_n, awpOps_nil, awpOps_one, awpOp_is, isCallV, callW_is, callV_is, putK_is, put_s, slot_is, pureOp, apureO, aev, cv, cvc, elO_s, loadA_d, Bool.false_eq_true, ↓reduceIte, List.getElem?_cons_zero, List.getElem?_cons_succ, List.map_cons, List.map_nil, List.append_nil, List.drop_succ_cons, List.drop_zero, Bool.true_and, true_and, ne_eq, not_false_eq_true, reduceCtorEq, Nat.reduceEqDiff, Ty.td22, Ty.td28, oqH]
      refine call_meets (hi) (by simp only [aev, cv, cvc, toD_c, toD_sl, consO_some, toDL_nil, toDL_cons] <;> rfl) ?_; simp only [awp_reg, awp_seq, seqQ_n, awpOps_nil, awpOps_one, awpOp_is, isCallV, callW_is, callV_is, putK_is, put_s, upd_s, slot_is, pureOp, apureO, killT, aev, cv, cvc, elO_s, loadA_d, flat_c, flat_tup, flat_sl, flatL_nil, flatL_cons, ownsV_c, ownsV_sl, ownsL_nil, ownsL_cons, Bool.false_eq_true, ↓reduceIte, List.getElem?_cons_zero, List.getElem?_cons_succ, List.length_cons, List.length_nil, List.map_cons, List.map_nil, List.append_nil, List.take_succ_cons, Bool.and_true, Bool.true_and, Bool.and_self, Bool.or_true, true_and, and_true, and_self, reduceCtorEq, Nat.reduceAdd, Nat.reduceEqDiff, Nat.zero_add, List.isEmpty_nil, Nat.le_refl, List.take_nil, Ty.td28]
      refine call_meets (hat) (by simp only [aev, cv, cvc, toD_c, toD_agg, toD_sl, consO_some, toDL_nil, toDL_cons, Option.map_some, show ((0 : Nat) : Int) + 1 = 1 by omega, wrap_in (x := (1 : Int)) (by omega) (by omega)] <;> rfl) ?_; simp only [callV_yield, bodyY_is, roundQ_is, zipT, lowT, awp_skip, awp_reg, awp_cond, awp_block, seqQ_n, loopQ_n, blkQ_n, awpOps_nil, awpOps_one, awpOp_is, isCallV, callW_is, shiftT, unshift, putK_is, updK_is, put_s, upd_n, upd_s, slot_is, slot.eq_1, pureOp, apureO, astepO, bsEnd_is, appA_own, appV, killT, aev, cv, cvc, binK, elO_s, loadA_p, storeA, cellsA, cellOk, setAll, fillA, condA_f, elemsA, elemsN, chunk, flat_c, isD_c, isDL_nil, isDL_cons, ownsV_c, ownsV_agg, ownsV_sl, ownsL_nil, ownsL_cons, Bool.false_eq_true, ↓reduceIte, List.getElem?_cons_zero, List.getElem?_cons_succ, List.length_cons, List.length_nil, List.map_cons, List.map_nil, List.cons_append, List.nil_append, List.append_nil, List.set_cons_zero, List.take_succ_cons, List.drop_zero, List.all_cons, List.all_nil, Bool.true_and, Bool.and_self, Bool.or_true, Bool.not_true, Value.oneCell', true_and, and_self, Nat.reduceAdd, Nat.reduceMul, Nat.reduceLT, Nat.reduceLeDiff, Nat.reduceEqDiff, Nat.reduceSub, Nat.reduceMod, Nat.zero_add, Nat.add_zero, List.isEmpty_nil, List.range_succ, List.range_zero, Nat.le_refl, List.take_nil, List.size_toArray, Ty.td3, Ty.td22, show ((0 : Nat) : Int) + 1 = 1 by omega, wrap_in (x := (1 : Int)) (by omega) (by omega)]
      refine hK 1 _ hlt' (by omega) ?_ rfl (.weak (by simp [oqH]) (by simp [WeakH, oqH, hx1]) rfl rfl)
      simp only [slot_is, aev, cv, cvc, Weak, ↓reduceIte, Bool.and_true, Bool.and_self, and_true, and_self, reduceCtorEq, Nat.reduceEqDiff]; simp
    | succ k =>
      have hlen := offs_len o ds ss (k + 1)
      have hbt : List.take (k + 1) (List.map enc (offs o ds ss (k + 1))) = List.map enc (offs o ds ss (k + 1)) := List.take_of_length_le (by simp [hlen])
      simp only [awp_skip, awp_reg, awp_seq, awp_block, seqQ_n, awpOps_nil, awpOps_one, awpOp_is, isCallV, callW_is, callV_is, putK_is, put_s, slot_is, pureOp, apureO, aev, cv, cvc, elO_s, loadA_d, Bool.false_eq_true, ↓reduceIte, List.getElem?_cons_zero, List.getElem?_cons_succ, List.map_cons, List.map_nil, List.append_nil, List.drop_succ_cons, List.drop_zero, Bool.true_and, true_and, ne_eq, not_false_eq_true, reduceCtorEq, Nat.reduceEqDiff, Ty.td22, Ty.td28, oqH]
      refine call_meets (hi) (by simp only [aev, cv, cvc, toD_c, toD_sl, consO_some, toDL_nil, toDL_cons] <;> rfl) ?_; simp only [awp_reg, awp_seq, seqQ_n, awpOps_nil, awpOps_one, awpOp_is, isCallV, callW_is, callV_is, putK_is, put_s, upd_s, slot_is, pureOp, apureO, killT, aev, cv, cvc, elO_s, loadA_d, flat_c, flat_tup, flat_sl, flatL_nil, flatL_cons, ownsV_c, ownsV_sl, ownsL_nil, ownsL_cons, Bool.false_eq_true, ↓reduceIte, List.getElem?_cons_zero, List.getElem?_cons_succ, List.length_cons, List.length_nil, List.map_cons, List.map_nil, List.append_nil, List.take_succ_cons, Bool.and_true, Bool.true_and, Bool.and_self, Bool.or_true, true_and, and_true, and_self, reduceCtorEq, Nat.reduceAdd, Nat.reduceEqDiff, Nat.zero_add, List.isEmpty_nil, Nat.le_refl, List.take_nil, Ty.td28]
      refine call_meets (hat) (by simp only [aev, cv, cvc, toD_c, toD_agg, toD_sl, consO_some, toDL_nil, toDL_cons, Option.map_some, hbt, wrap_in (x := ((k + 1 : Nat) : Int) + 1) (by omega) (by omega)] <;> rfl) ?_; simp only [callV_yield, bodyY_is, roundQ_is, zipT, lowT, awp_skip, awp_reg, awp_cond, awp_block, seqQ_n, loopQ_n, blkQ_n, awpOps_nil, awpOps_one, awpOp_is, isCallV, callW_is, shiftT, unshift, putK_is, updK_is, put_s, upd_n, upd_s, slot_is, slot.eq_1, pureOp, apureO, astepO, bsEnd_is, appA_own, appV, killT, killB, killH, aev, cv, cvc, binK, elO_s, loadA_p, storeA, cellsA, cellOk, setAll, fillA, condA_f, elemsA, elemsN, rowE, chunk, flat_c, isD_c, isDL_nil, isDL_cons, ownsV_c, ownsV_agg, ownsV_sl, ownsL_nil, ownsL_cons, killV_c, killV_tup, killV_agg, killV_sl, killV_own, killV_dptr, killV_ptr, killL_nil, killL_cons, Bool.false_eq_true, ↓reduceIte, List.getElem?_cons_zero, List.getElem?_cons_succ, List.length_cons, List.length_nil, List.map_cons, List.map_nil, List.cons_append, List.nil_append, List.append_nil, List.set_cons_zero, List.set_cons_succ, Option.map_some, Option.map_none, List.take_succ_cons, List.drop_zero, List.all_cons, List.all_nil, Bool.true_and, Bool.and_self, Bool.or_true, Bool.or_false, Bool.not_true, Value.oneCell', true_and, and_self, reduceCtorEq, Nat.reduceAdd, Nat.reduceMul, Nat.reduceLT, Nat.reduceLeDiff, Nat.reduceEqDiff, Nat.reduceSub, Nat.reduceMod, Nat.zero_add, Nat.add_zero, List.isEmpty_nil, List.mem_cons, List.not_mem_nil, or_false, List.range_succ, List.range_zero, Nat.le_refl, List.take_nil, List.size_toArray, List.getElem?_nil, Ty.td3, Ty.td22, hbt, List.length_map, hlen, wrap_in (x := ((k + 1 : Nat) : Int) + 1) (by omega) (by omega)]
      refine ⟨by omega, by omega, ?_⟩
      refine hK (k + 1 + 1) _ hlt' (by omega) ?_ rfl (.weak (by simp [oqH]) (by simp [WeakH, oqH, hstep]) rfl rfl)
      simp only [slot_is, aev, cv, cvc, Weak, ↓reduceIte, Bool.and_true, Bool.and_self, and_true, and_self, reduceCtorEq, Nat.reduceEqDiff]; simp
  · have hk' : k = n := by omega
    subst hk'
    cases k with
    | zero =>
      simp only [rangeQ_is, awp_reg, awp_seq, awp_exit, awp_ret, seqQ_n, seqQ_e, loopQ_e, blkQ_n, blkQ_e, awpOps_nil, awpOps_one, awpOp_is, unshift, putK_is, put_s, slot_is, retA_is, pureOp, apureO, aev, cv, cvc, elO_s, loadA_p, toD_nils, toD_agg, notExit, resA_nil, resA_tmp, oneA_1, Bool.false_eq_true, ↓reduceIte, List.getElem?_cons_zero, List.length_cons, List.length_nil, List.drop_zero, Bool.true_and, Bool.and_self, true_and, and_self, Nat.reduceLeDiff, Nat.reduceSub, Nat.zero_add, Ty.td22, oqH, oqR]
    | succ k =>
      have hlen := offs_len o ds ss (k + 1)
      have hbt : List.take (k + 1) (List.map enc (offs o ds ss (k + 1))) = List.map enc (offs o ds ss (k + 1)) := List.take_of_length_le (by simp [hlen])
      simp only [rangeQ_is, awp_reg, awp_seq, awp_exit, awp_ret, seqQ_n, seqQ_e, loopQ_e, blkQ_n, blkQ_e, awpOps_nil, awpOps_one, awpOp_is, unshift, putK_is, put_s, slot_is, retA_is, pureOp, apureO, aev, cv, cvc, elO_s, loadA_p, elemsA, toD_agg, toD_own, notExit, resA_nil, resA_tmp, oneA_1, Bool.false_eq_true, ↓reduceIte, List.getElem?_cons_zero, List.getElem?_cons_succ, List.length_cons, List.length_nil, Option.map_some, List.drop_zero, Bool.true_and, Bool.and_self, true_and, and_self, Nat.reduceLeDiff, Nat.reduceSub, Nat.zero_add, Nat.le_refl, Ty.td22, oqH, oqR, hbt, List.length_map, hlen]

theorem collect : Meets Try.prog 48 [.fn 68 [.dptr [I o, ints ds, ints ss]]] (oqR o ds ss n) := by
  have h := appendSeq o ds ss n hd hl hs
  refine meets_of (X := false) Ty.mixed Try.func48 (by kernel_rfl) rfl (by kernel_rfl) (by simp) ?_; rw [Try.ntmps48, Try.results48]
  simp only [awp_reg, awp_seq, seqQ_n, awpOps_nil, awpOps_one, awpOp_is, isCallV, callW_is, callV_is, putK_is, put_s, slot_is, pureOp, apureO, aev, cv, cvc, argT, Bool.false_eq_true, ↓reduceIte, List.map_cons, List.map_nil, List.append_nil, reduceCtorEq]
  refine call_meets (h) (by simp only [aev, cv, cvc, toD_nils, toD_fn, toD_dptr, consO_some, toDL_nil, toDL_cons, Option.map_some] <;> rfl) ?_; simp only [awp_ret, seqQ_n, awpOps_nil, awpOps_one, awpOp_is, putK_is, put_s, upd_s, slot_is, retA_is, pureOp, apureO, killT, aev, cv, cvc, ownsV_nils, ownsV_fn, ownsV_dptr, ownsL_nil, ownsL_cons, notExit, resA_nil, resA_tmp, oneA_1, ↓reduceIte, List.append_nil, Bool.and_self, Bool.or_true, and_self, List.isEmpty_nil, oqR_toD]
end

/-- The offsets of a view. -/
def offsE (o : Int) (ds ss : List Int) : List Int := if formed ds ss then offs o ds ss (sizeE ds).1.toNat else []
theorem formed_ok {ds ss : List Int} (h : formed ds ss = true) : ds.length = ss.length ∧ ∃ n : Nat, sizeE ds = ((n : Int), 0) := by
  simp only [formed, Bool.and_eq_true, beq_iff_eq] at h
  have := sizeE_bound ds
  exact ⟨by omega, (sizeE ds).1.toNat, Prod.ext (by simp only; omega) h.1⟩
theorem offsets (o : Int) (ds ss : List Int) (hd : ds.length ≤ 1000000) (hs : ss.length ≤ 1000000) : Meets Try.prog 19 [vw o ds ss] (ints (offsE o ds ss)) := by
  have hf := isFormed o ds ss hd hs
  have hv := voffsets o ds ss
  unfold offsE
  cases hq : formed ds ss with
  | false =>
    rw [hq] at hf
    refine Meets.weak (r0 := .nils) ?_ fun ok w v h => nil_imp h
    refine meets_of (X := false) Ty.mixed Try.func19 (by kernel_rfl) rfl (by kernel_rfl) (by simp) ?_; rw [Try.ntmps19, Try.results19]
    simp only [awp_reg, awp_seq, seqQ_n, awpOps_nil, awpOps_one, awpOp_is, isCallV, callW_is, callV_is, putK_is, updK_is, put_s, upd_s, slot_is, pureOp, apureO, astepO, killT, aev, cv, cvc, elO_s, loadA_p, cellsA, cellOk, argT, Bool.false_eq_true, ↓reduceIte, List.getElem?_cons_zero, List.length_cons, List.length_nil, List.map_cons, List.map_nil, List.nil_append, List.append_nil, List.take_succ_cons, List.drop_zero, Bool.true_and, true_and, Nat.reduceAdd, Nat.reduceEqDiff, Nat.zero_add, Nat.le_refl, List.take_nil, Ty.td28]
    refine call_meets (hf) (by simp only [aev, cv, cvc, toD_c, toD_agg, toD_sl, consO_some, toDL_nil, toDL_cons, Option.map_some] <;> rfl) ?_; simp only [awp_reg, awp_seq, awp_cond, awp_ret, seqQ_n, seqQ_r, awpOps_nil, awpOps_one, awpOp_is, putK_is, put_s, upd_s, slot_is, retA_is, pureOp, apureO, killT, aev, cv, cvc, condA_t, flat_c, ownsV_c, ownsV_agg, ownsV_sl, ownsL_nil, ownsL_cons, toD_nils, notExit, resA_nil, resA_tmp, oneA_1, ↓reduceIte, List.append_nil, Bool.and_self, Bool.or_true, Bool.not_false, and_self, List.isEmpty_nil]
  | true =>
    rw [hq] at hf
    obtain ⟨hl, n, hn⟩ := formed_ok hq
    have hc := collect o ds ss n hd hl hn
    rw [hn, if_pos rfl, Int.toNat_natCast]
    refine Meets.weak (r0 := oqR o ds ss n) ?_ fun ok w v h => oqR_imp h
    refine meets_of (X := false) Ty.mixed Try.func19 (by kernel_rfl) rfl (by kernel_rfl) (by simp) ?_; rw [Try.ntmps19, Try.results19]
    simp only [awp_reg, awp_seq, seqQ_n, awpOps_nil, awpOps_one, awpOp_is, isCallV, callW_is, callV_is, putK_is, updK_is, put_s, upd_s, slot_is, pureOp, apureO, astepO, killT, aev, cv, cvc, elO_s, loadA_p, cellsA, cellOk, argT, Bool.false_eq_true, ↓reduceIte, List.getElem?_cons_zero, List.length_cons, List.length_nil, List.map_cons, List.map_nil, List.nil_append, List.append_nil, List.take_succ_cons, List.drop_zero, Bool.true_and, true_and, Nat.reduceAdd, Nat.reduceEqDiff, Nat.zero_add, Nat.le_refl, List.take_nil, Ty.td28]
    refine call_meets (hf) (by simp only [aev, cv, cvc, toD_c, toD_agg, toD_sl, consO_some, toDL_nil, toDL_cons, Option.map_some] <;> rfl) ?_; simp only [awp_skip, awp_reg, awp_seq, awp_cond, seqQ_n, awpOps_nil, awpOps_one, awpOp_is, isCallV, callW_is, callV_is, putK_is, put_s, upd_s, slot_is, pureOp, apureO, killT, aev, cv, cvc, elO_s, loadA_p, condA_f, flat_c, ownsV_c, ownsV_agg, ownsV_sl, ownsL_nil, ownsL_cons, Bool.false_eq_true, ↓reduceIte, List.getElem?_cons_zero, List.length_cons, List.length_nil, List.map_cons, List.map_nil, List.append_nil, List.take_succ_cons, List.drop_zero, Bool.true_and, Bool.or_true, Bool.not_true, true_and, Nat.reduceAdd, Nat.reduceEqDiff, Nat.zero_add, List.isEmpty_nil, Nat.le_refl, List.take_nil, Ty.td28]
    refine call_meets (hv) (by simp only [aev, cv, cvc, toD_c, toD_agg, toD_sl, consO_some, toDL_nil, toDL_cons, Option.map_some] <;> rfl) ?_; simp only [awpOps_one, awpOp_is, isCallV, callW_is, callV_is, upd_s, slot_is, pureOp, killT, aev, cv, cvc, flat_fn, ownsV_c, ownsV_agg, ownsV_sl, ownsL_nil, ownsL_cons, Bool.false_eq_true, ↓reduceIte, List.map_cons, List.map_nil, List.append_nil, Bool.or_true, List.isEmpty_nil]
    refine call_meets (hc) (by simp only [aev, cv, cvc, toD_fn, toD_dptr, consO_some, toDL_nil, toDL_cons, Option.map_some] <;> rfl) ?_; simp only [awp_ret, seqQ_n, awpOps_nil, awpOps_one, awpOp_is, putK_is, put_s, upd_s, slot_is, retA_is, pureOp, apureO, killT, aev, cv, cvc, ownsV_fn, ownsV_dptr, ownsL_nil, ownsL_cons, notExit, resA_nil, resA_tmp, oneA_1, ↓reduceIte, List.append_nil, Bool.and_self, Bool.or_true, and_self, List.isEmpty_nil, oqR_toD]
theorem offsE_len (o : Int) (ds ss : List Int) : (offsE o ds ss).length ≤ 4096 := by
  unfold offsE
  split
  · rw [offs_len]; have := sizeE_bound ds; omega
  · simp
end Go.Proofs.Ytimagnkdgpfamaa.V2
