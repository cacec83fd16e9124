/- Cells: Indices. -/
import Derived.Test.YtoobaeebgnbpjaaA8
import Derived.Test.YtoobaeebgnbpjaaA5
namespace Go.Proofs.Ytoobaeebgnbpjaa.B12
open Go Go.Proofs.Ytoobaeebgnbpjaa.Eng Go.Proofs.Ytoobaeebgnbpjaa Go.RowKit Go.Proofs.Ytoobaeebgnbpjaa.A1 Go.Proofs.Ytoobaeebgnbpjaa.A2 Go.Proofs.Ytoobaeebgnbpjaa.A8
set_option linter.unusedSimpArgs false
set_option linter.unusedVariables false
set_option maxRecDepth 100000

abbrev encL (x : List Int) : List AV := [ints x]
abbrev listsV (A : List (List Int)) : AV := .sl false 1 (A.map encL)
/-- The first k indices. -/
def firstI (fr : List Int) (k : Nat) : List (List Int) := (List.range k).map fun (i : Nat) => (idxR fr (i : Int)).1
theorem firstI_len (fr : List Int) (k : Nat) : (firstI fr k).length = k := by simp [firstI]
theorem firstI_step (fr : List Int) (k : Nat) : firstI fr (k + 1) = firstI fr k ++ [(idxR fr (k : Int)).1] := by simp [firstI, List.range_succ]

theorem index_in {fr : List Int} {n : Int} {k : Nat} (h : sizeE fr = (n, 0)) (hk : (k : Int) < n) : indexE fr (k : Int) = ((idxR fr (k : Int)).1, 0) := by
  unfold indexE
  rw [h, if_neg (by simp), if_neg (by simp only; omega)]

theorem indices (fr : List Int) (n : Int) : Meets Try.prog 45 [ints fr, I n] (.fn 55 [.dptr [I n], .dptr [ints fr]]) := by
  refine meets_of Ty.mixed Try.func45 (by kernel_rfl) rfl (by kernel_rfl) (by simp) ?_; rw [Try.ntmps45, Try.results45]
  simp only [awp_reg, awp_seq, awp_ret, seqQ_n, awpOps_nil, awpOps_one, awpOp_is, isCallV, putK_is, updK_is, put_s, upd_s, slot_is, retA_is, pureOp, apureO, astepO, killT, aev, cv, cvc, cellsA, cellOk, isD_c, isD_sl, isDL_nil, isDL_cons, toD_fn, toD_ptr, consO_some, toDL_nil, toDL_cons, notExit, resA_nil, resA_tmp, oneA_1, argT, Bool.false_eq_true, ↓reduceIte, List.getElem?_cons_zero, List.getElem?_cons_succ, List.length_cons, List.length_nil, List.map_cons, List.map_nil, List.cons_append, List.nil_append, Option.map_some, List.drop_zero, Bool.and_self, Value.oneCell', and_self, reduceCtorEq, Nat.reduceEqDiff, Nat.zero_add, List.size_toArray]

def seqV (L : Nat) : Nat → AV
  | 0 => .nils
  | k + 1 => .own L 1 (k + 1)
def seqH (fr : List Int) : Nat → Heap
  | 0 => [some (.var 40 [.nils])]
  | k + 1 => [some (.var 40 [.own 2 1 (k + 1)]), none, some (.row 22 1 ((firstI fr (k + 1)).map encL))]
def seqR (fr : List Int) : Nat → AV
  | 0 => .nils
  | k + 1 => listsV (firstI fr (k + 1))

theorem appendSeq (fr : List Int) (n : Nat) (hd : fr.length ≤ 1000000) (hs : sizeE fr = ((n : Int), 0)) (hn : n ≤ 1000000) : Meets Try.prog 54 [.nils, .fn 55 [.dptr [I n], .dptr [ints fr]]] (seqR fr n) := by
  refine meets_of Ty.mixed Try.func54 (by kernel_rfl) rfl (by kernel_rfl) (by simp) ?_; rw [Try.ntmps54, Try.results54]
  simp only [awp_range, awp_reg, awp_seq, awp_block, seqQ_n, awpOps_nil, awpOps_one, awpOp_is, isCallV, putK_is, updK_is, put_s, upd_s, slot_is, pureOp, apureO, astepO, killT, aev, cv, cvc, cellsA, cellOk, argT, Bool.false_eq_true, ↓reduceIte, List.length_nil, List.nil_append, Bool.true_and, true_and, reduceCtorEq, Nat.reduceEqDiff, Nat.zero_add]
  refine range_inl Ty.mixed rfl Try.func55 (by kernel_rfl) rfl (by kernel_rfl) (by rw [Try.results55]) (by simp) (by kernel_rfl) (by kernel_rfl) (by kernel_rfl) (by kernel_rfl) (by simp) ?_; intro l; rw [Try.ntmps55]; simp only [awp_reg, awp_seq, awp_block, awp_loop, seqQ_n, awpOps_nil, awpOps_one, awpOp_is, shiftT, putK_is, put_s, slot_is, pureOp, apureO, aev, cv, cvc, elO_s, loadA_d, argT, Bool.false_eq_true, ↓reduceIte, List.getElem?_cons_zero, List.length_cons, List.length_nil, List.cons_append, List.nil_append, reduceCtorEq, Nat.reduceAdd, Nat.zero_add, Nat.add_zero, Ty.td3]
  refine loop_g (fun k : Nat => k ≤ n) (fun k => ⟨22, [(8, I k), (7, I n), (0, .c (.func (.yield l) #[] #[])), (1, .dptr [I n]), (2, .dptr [ints fr]), (24, .ptr 0 0)], seqH fr k⟩) (fun k => n - k) 0 (Nat.zero_le _) (by simp only [slot_is, aev, cv, cvc, Weak, ↓reduceIte, Bool.and_true, Bool.and_self, and_true, and_self, reduceCtorEq, Nat.reduceEqDiff]; simp) rfl (.inl rfl) ?_
  intro k hk K hK
  simp only at hK
  simp only [awp_reg, awp_seq, awp_cond, seqQ_n, awpOps_nil, awpOps_one, awpOp_is, putK_is, put_s, slot_is, pureOp, apureO, aev, cv, cvc, binK, ↓reduceIte, Bool.true_and, true_and, Nat.reduceEqDiff]
  refine condA_dec (fun hlt => ?_) (fun hge => ?_)
  · have hlt' : k + 1 ≤ n := by omega
    have hi := index fr (k : Int) hd
    rw [index_in hs hlt] at hi
    have hstep := firstI_step fr k
    generalize (idxR fr (k : Int)).1 = x at *
    cases k with
    | zero =>
      have hx1 : firstI fr 1 = [x] := by rw [hstep]; rfl
      simp only [awp_skip, awp_reg, awp_seq, awp_block, seqQ_n, awpOps_nil, awpOps_one, awpOp_is, isCallV, callW_is, callV_is, putK_is, put_s, slot_is, pureOp, apureO, aev, cv, cvc, elO_s, loadA_d, Bool.false_eq_true, ↓reduceIte, List.getElem?_cons_zero, List.length_cons, List.length_nil, List.map_cons, List.map_nil, List.append_nil, reduceCtorEq, Nat.reduceEqDiff, Nat.zero_add, Ty.td22, seqH]
      refine call_meets (hi) (by simp only [aev, cv, cvc, toD_c, toD_sl, consO_some, toDL_nil, toDL_cons, show ((0 : Nat) : Int) + 1 = 1 by omega, wrap_in (x := (1 : Int)) (by omega) (by omega)]) ?_; simp only [callV_yield, bodyY_is, roundQ_is, zipT, lowT, awp_skip, awp_reg, awp_seq, awp_cond, awp_block, seqQ_n, loopQ_n, blkQ_n, awpOps_nil, awpOps_one, awpOp_is, isCallV, callW_is, shiftT, unshift, putK_is, updK_is, put_s, upd_n, upd_s, slot_is, slot.eq_1, pureOp, apureO, astepO, appA_own, appV, killT, aev, cv, cvc, binK, elO_s, loadA_p, storeA, cellsA, cellOk, setAll, fillA, condA_f, elemsA, elemsN, chunk, flat_c, flat_tup, flat_sl, flatL_nil, flatL_cons, isD_sl, isDL_nil, isDL_cons, ownsV_c, ownsV_sl, ownsL_nil, ownsL_cons, Bool.false_eq_true, ↓reduceIte, List.getElem?_cons_zero, List.getElem?_cons_succ, List.length_cons, List.length_nil, List.map_cons, List.map_nil, List.cons_append, List.nil_append, List.append_nil, List.set_cons_zero, List.take_succ_cons, List.drop_zero, List.all_cons, List.all_nil, Bool.and_true, Bool.true_and, Bool.and_self, Bool.or_true, Bool.not_true, Value.oneCell', true_and, and_true, and_self, reduceCtorEq, Nat.reduceAdd, Nat.reduceMul, Nat.reduceLT, Nat.reduceLeDiff, Nat.reduceEqDiff, Nat.reduceSub, Nat.reduceMod, Nat.zero_add, Nat.add_zero, List.isEmpty_nil, List.range_succ, List.range_zero, Nat.le_refl, List.take_nil, List.size_toArray, Ty.td22, Ty.td40, show ((0 : Nat) : Int) + 1 = 1 by omega, wrap_in (x := (1 : Int)) (by omega) (by omega)]
      refine hK 1 _ hlt' (by omega) ?_ rfl (.weak (by simp [seqH]) (by simp [WeakH, seqH, hx1]) rfl rfl)
      simp only [slot_is, aev, cv, cvc, Weak, ↓reduceIte, Bool.and_true, Bool.and_self, and_true, and_self, reduceCtorEq, Nat.reduceEqDiff]; simp
    | succ k =>
      have hlen := firstI_len fr (k + 1)
      have hbt : List.take (k + 1) (List.map encL (firstI fr (k + 1))) = List.map encL (firstI fr (k + 1)) := List.take_of_length_le (by simp [hlen])
      simp only [awp_skip, awp_reg, awp_seq, awp_block, seqQ_n, awpOps_nil, awpOps_one, awpOp_is, isCallV, callW_is, callV_is, putK_is, put_s, slot_is, pureOp, apureO, aev, cv, cvc, elO_s, loadA_d, Bool.false_eq_true, ↓reduceIte, List.getElem?_cons_zero, List.length_cons, List.length_nil, List.map_cons, List.map_nil, List.append_nil, reduceCtorEq, Nat.reduceEqDiff, Nat.zero_add, Ty.td22, seqH]
      refine call_meets (hi) (by simp only [aev, cv, cvc, toD_c, toD_sl, consO_some, toDL_nil, toDL_cons, hbt, wrap_in (x := ((k + 1 : Nat) : Int) + 1) (by omega) (by omega)]) ?_; simp only [callV_yield, bodyY_is, roundQ_is, zipT, lowT, awp_skip, awp_reg, awp_seq, awp_cond, awp_block, seqQ_n, loopQ_n, blkQ_n, awpOps_nil, awpOps_one, awpOp_is, isCallV, callW_is, shiftT, unshift, putK_is, updK_is, put_s, upd_n, upd_s, slot_is, slot.eq_1, pureOp, apureO, astepO, appA_own, appV, killT, killB, killH, aev, cv, cvc, binK, elO_s, loadA_p, storeA, cellsA, cellOk, setAll, fillA, condA_f, elemsA, elemsN, rowE, chunk, flat_c, flat_tup, flat_sl, flatL_nil, flatL_cons, isD_sl, isDL_nil, isDL_cons, ownsV_c, ownsV_sl, ownsL_nil, ownsL_cons, killV_c, killV_tup, killV_sl, killV_own, killV_dptr, killV_ptr, killL_nil, killL_cons, Bool.false_eq_true, ↓reduceIte, List.getElem?_cons_zero, List.getElem?_cons_succ, List.length_cons, List.length_nil, List.map_cons, List.map_nil, List.cons_append, List.nil_append, List.append_nil, List.set_cons_zero, List.set_cons_succ, Option.map_some, Option.map_none, List.take_succ_cons, List.drop_zero, List.all_cons, List.all_nil, Bool.and_true, Bool.true_and, Bool.and_self, Bool.or_true, Bool.or_false, Bool.not_true, Value.oneCell', true_and, and_true, and_self, reduceCtorEq, Nat.reduceAdd, Nat.reduceMul, Nat.reduceLT, Nat.reduceLeDiff, Nat.reduceEqDiff, Nat.reduceSub, Nat.reduceMod, Nat.zero_add, Nat.add_zero, List.isEmpty_nil, List.mem_cons, List.not_mem_nil, or_false, List.range_succ, List.range_zero, Nat.le_refl, List.take_nil, List.size_toArray, Ty.td22, Ty.td40, hbt, List.length_map, hlen, wrap_in (x := ((k + 1 : Nat) : Int) + 1) (by omega) (by omega)]
      refine ⟨by omega, by omega, ?_⟩
      refine hK (k + 1 + 1) _ hlt' (by omega) ?_ rfl (.weak (by simp [seqH]) (by simp [WeakH, seqH, hstep]) rfl rfl)
      simp only [slot_is, aev, cv, cvc, Weak, ↓reduceIte, Bool.and_true, Bool.and_self, and_true, and_self, reduceCtorEq, Nat.reduceEqDiff]; simp
  · have hk' : k = n := by omega
    subst hk'
    cases k with
    | zero =>
      simp only [rangeQ_is, awp_reg, awp_seq, awp_exit, awp_ret, seqQ_n, seqQ_e, loopQ_e, blkQ_n, blkQ_e, awpOps_nil, awpOps_one, awpOp_is, unshift, putK_is, put_s, slot_is, retA_is, pureOp, apureO, aev, cv, cvc, elO_s, loadA_p, toD_nils, toD_agg, notExit, resA_nil, resA_tmp, oneA_1, Bool.false_eq_true, ↓reduceIte, List.getElem?_cons_zero, List.length_cons, List.length_nil, List.drop_zero, Bool.true_and, Bool.and_self, true_and, and_self, Nat.reduceLeDiff, Nat.reduceSub, Nat.zero_add, Ty.td40, seqH, seqR]
    | succ k =>
      have hlen := firstI_len fr (k + 1)
      have hbt : List.take (k + 1) (List.map encL (firstI fr (k + 1))) = List.map encL (firstI fr (k + 1)) := List.take_of_length_le (by simp [hlen])
      simp only [rangeQ_is, awp_reg, awp_seq, awp_exit, awp_ret, seqQ_n, seqQ_e, loopQ_e, blkQ_n, blkQ_e, awpOps_nil, awpOps_one, awpOp_is, unshift, putK_is, put_s, slot_is, retA_is, pureOp, apureO, aev, cv, cvc, elO_s, loadA_p, elemsA, toD_agg, toD_own, notExit, resA_nil, resA_tmp, oneA_1, Bool.false_eq_true, ↓reduceIte, List.getElem?_cons_zero, List.getElem?_cons_succ, List.length_cons, List.length_nil, Option.map_some, List.drop_zero, Bool.true_and, Bool.and_self, true_and, and_self, Nat.reduceLeDiff, Nat.reduceSub, Nat.zero_add, Nat.le_refl, Ty.td40, seqH, seqR, hbt, List.length_map, hlen]
theorem seqR_toD (h : Heap) (fr : List Int) (n : Nat) : toD h (seqR fr n) = some (seqR fr n) := by cases n <;> rfl

theorem collect (fr : List Int) (n : Nat) (hd : fr.length ≤ 1000000) (hs : sizeE fr = ((n : Int), 0)) (hn : n ≤ 1000000) : Meets Try.prog 44 [.fn 55 [.dptr [I n], .dptr [ints fr]]] (seqR fr n) := by
  have h := appendSeq fr n hd hs hn
  refine meets_of Ty.mixed Try.func44 (by kernel_rfl) rfl (by kernel_rfl) (by simp) ?_; rw [Try.ntmps44, Try.results44]
  simp only [awp_reg, awp_seq, seqQ_n, awpOps_nil, awpOps_one, awpOp_is, isCallV, callW_is, callV_is, putK_is, put_s, slot_is, pureOp, apureO, aev, cv, cvc, argT, Bool.false_eq_true, ↓reduceIte, List.map_cons, List.map_nil, List.append_nil, reduceCtorEq]
  refine call_meets (h) (by simp only [aev, cv, cvc, toD_nils, toD_fn, toD_dptr, consO_some, toDL_nil, toDL_cons, Option.map_some]) ?_; simp only [awp_ret, seqQ_n, awpOps_nil, awpOps_one, awpOp_is, putK_is, put_s, upd_s, slot_is, retA_is, pureOp, apureO, killT, aev, cv, cvc, ownsV_nils, ownsV_fn, ownsV_dptr, ownsL_nil, ownsL_cons, notExit, resA_nil, resA_tmp, oneA_1, ↓reduceIte, List.append_nil, Bool.and_self, Bool.or_true, and_self, List.isEmpty_nil, seqR_toD]

/-- The indices of a frame, and an error. -/
def indicesE (fr : List Int) : List (List Int) × Int := if (sizeE fr).2 ≠ 0 then ([], (sizeE fr).2) else (firstI fr (sizeE fr).1.toNat, 0)
abbrev twoI (x : List (List Int) × Int) : AV := .tup [listsV x.1, I x.2]

theorem seqR_imp {fr : List Int} {n : Nat} {ok : Nat → Prop} {w : World} {v : Value} (h : RepD ok w (seqR fr n) v) : RepD ok w (listsV (firstI fr n)) v := by
  cases n with
  | zero => exact nil_imp h
  | succ n => exact h

theorem indicesP (fr : List Int) (hd : fr.length ≤ 1000000): Meets Try.prog 27 [ints fr] (twoI (indicesE fr)) := by
  have hs := size fr hd
  have hc := collect fr
  have hz := A5.sizeE_bound fr
  unfold indicesE
  generalize hg : sizeE fr = s at *
  obtain ⟨n, e⟩ := s
  simp only at hz
  by_cases he : e = 0
  case neg =>
    rw [if_pos he]
    refine Meets.weak (r0 := .tup [.nils, I e]) ?_ fun ok w v h => tup_imp (fun _ => cons_imp (fun _ => nil_imp) fun _ h => h) h
    refine meets_of Ty.mixed Try.func27 (by kernel_rfl) rfl (by kernel_rfl) (by simp) ?_; rw [Try.ntmps27, Try.results27]
    simp only [awp_reg, awp_seq, seqQ_n, awpOps_nil, awpOps_one, awpOp_is, isCallV, callW_is, callV_is, putK_is, put_s, slot_is, pureOp, apureO, aev, cv, cvc, argT, Bool.false_eq_true, ↓reduceIte, List.map_cons, List.map_nil, List.append_nil, reduceCtorEq]
    refine call_meets (hs) (by simp only [aev, cv, cvc, toD_sl, consO_some, toDL_nil, toDL_cons, show (e != 0) = true by simpa using he]) ?_; simp only [awp_reg, awp_seq, awp_cond, awp_ret, seqQ_n, seqQ_r, awpOps_nil, awpOps_one, awpOp_is, putK_is, put_s, upd_s, slot_is, retA_is, pureOp, apureO, killT, aev, cv, cvc, binK, elO_s, condA_t, flat_c, flat_tup, flatL_nil, flatL_cons, ownsV_sl, ownsL_nil, ownsL_cons, toD_c, toD_nils, toD_tup, consO_some, toDL_nil, toDL_cons, notExit, resA_nil, resA_tmp, oneA_2, ↓reduceIte, List.getElem?_cons_zero, List.getElem?_cons_succ, List.append_nil, Option.map_some, Bool.and_self, Bool.or_true, and_self, Nat.reduceEqDiff, List.isEmpty_nil, show (e != 0) = true by simpa using he]
  subst he
  rw [if_neg (by simp)]
  obtain ⟨n, rfl⟩ := Int.eq_ofNat_of_zero_le hz.1
  have hi := indices fr n
  have hc := hc n hd rfl (by omega)
  refine Meets.weak (r0 := .tup [seqR fr n, I 0]) ?_ fun ok w v h => tup_imp (fun _ => cons_imp (fun _ => seqR_imp) fun _ h => h) h
  refine meets_of Ty.mixed Try.func27 (by kernel_rfl) rfl (by kernel_rfl) (by simp) ?_; rw [Try.ntmps27, Try.results27]
  simp only [awp_reg, awp_seq, seqQ_n, awpOps_nil, awpOps_one, awpOp_is, isCallV, callW_is, callV_is, putK_is, put_s, slot_is, pureOp, apureO, aev, cv, cvc, argT, Bool.false_eq_true, ↓reduceIte, List.map_cons, List.map_nil, List.append_nil, reduceCtorEq]
  refine call_meets (hs) (by simp only [aev, cv, cvc, toD_sl, consO_some, toDL_nil, toDL_cons]) ?_; simp only [awp_skip, awp_reg, awp_seq, awp_cond, seqQ_n, awpOps_nil, awpOps_one, awpOp_is, isCallV, callW_is, callV_is, putK_is, put_s, upd_s, slot_is, pureOp, apureO, killT, aev, cv, cvc, binK, elO_s, condA_f, flat_c, flat_tup, flatL_nil, flatL_cons, ownsV_sl, ownsL_nil, ownsL_cons, Bool.false_eq_true, ↓reduceIte, List.getElem?_cons_zero, List.getElem?_cons_succ, List.map_cons, List.map_nil, List.append_nil, Bool.true_and, Bool.and_self, Bool.or_true, true_and, and_self, reduceCtorEq, Nat.reduceEqDiff, List.isEmpty_nil, bne_self_eq_false]
  refine call_meets (hi) (by simp only [aev, cv, cvc, toD_c, toD_sl, consO_some, toDL_nil, toDL_cons]) ?_; simp only [awpOps_one, awpOp_is, isCallV, callW_is, callV_is, upd_s, slot_is, pureOp, killT, aev, cv, cvc, flat_fn, ownsV_c, ownsV_sl, ownsL_nil, ownsL_cons, Bool.false_eq_true, ↓reduceIte, List.map_cons, List.map_nil, List.append_nil, Bool.or_true, List.isEmpty_nil]
  refine call_meets (hc) (by simp only [aev, cv, cvc, toD_fn, toD_dptr, consO_some, toDL_nil, toDL_cons, Option.map_some]) ?_; simp only [awp_ret, seqQ_n, awpOps_nil, awpOps_one, awpOp_is, putK_is, put_s, upd_s, slot_is, retA_is, pureOp, apureO, killT, aev, cv, cvc, ownsV_fn, ownsV_dptr, ownsL_nil, ownsL_cons, toD_c, toD_tup, consO_some, toDL_nil, toDL_cons, notExit, resA_nil, resA_tmp, oneA_2, ↓reduceIte, List.append_nil, Option.map_some, Bool.and_self, Bool.or_true, and_self, Nat.reduceEqDiff, List.isEmpty_nil, seqR_toD]

def rowH (fr : List Int) : Nat → Heap
  | 0 => []
  | k + 1 => [none, some (.row 22 1 ((firstI fr (k + 1)).map encL))]
def seqW : Nat → AV
  | 0 => .nils
  | k + 1 => .own 1 1 (k + 1)

theorem refIndices (fr : List Int) (hd : fr.length ≤ 1000000) : Meets Try.prog 28 [ints fr] (twoI (indicesE fr)) := by
  have hs := refSize fr hd
  have hx := refIndex fr
  have hin := @index_in fr
  have hz := A5.sizeE_bound fr
  have hstep := firstI_step fr
  unfold indicesE
  generalize hg : sizeE fr = s at *
  obtain ⟨n, e⟩ := s
  simp only at hz
  by_cases he : e = 0
  case neg =>
    rw [if_pos he]
    refine Meets.weak (r0 := .tup [.nils, I e]) ?_ fun ok w v h => tup_imp (fun _ => cons_imp (fun _ => nil_imp) fun _ h => h) h
    refine meets_of Ty.mixed Try.func28 (by kernel_rfl) rfl (by kernel_rfl) (by simp) ?_; rw [Try.ntmps28, Try.results28]
    simp only [awp_reg, awp_seq, seqQ_n, awpOps_nil, awpOps_one, awpOp_is, isCallV, callW_is, callV_is, putK_is, put_s, slot_is, pureOp, apureO, aev, cv, cvc, argT, Bool.false_eq_true, ↓reduceIte, List.map_cons, List.map_nil, List.append_nil, reduceCtorEq]
    refine call_meets (hs) (by simp only [aev, cv, cvc, toD_sl, consO_some, toDL_nil, toDL_cons, show (e != 0) = true by simpa using he]) ?_; simp only [awp_reg, awp_seq, awp_cond, awp_ret, seqQ_n, seqQ_r, awpOps_nil, awpOps_one, awpOp_is, putK_is, put_s, upd_s, slot_is, retA_is, pureOp, apureO, killT, aev, cv, cvc, binK, elO_s, condA_t, flat_c, flat_tup, flatL_nil, flatL_cons, ownsV_sl, ownsL_nil, ownsL_cons, toD_c, toD_nils, toD_tup, consO_some, toDL_nil, toDL_cons, notExit, resA_nil, resA_tmp, oneA_2, ↓reduceIte, List.getElem?_cons_zero, List.getElem?_cons_succ, List.append_nil, Option.map_some, Bool.and_self, Bool.or_true, and_self, Nat.reduceEqDiff, List.isEmpty_nil, show (e != 0) = true by simpa using he]
  subst he
  rw [if_neg (by simp)]
  obtain ⟨n, rfl⟩ := Int.eq_ofNat_of_zero_le hz.1
  refine Meets.weak (r0 := .tup [seqR fr n, I 0]) ?_ fun ok w v h => tup_imp (fun _ => cons_imp (fun _ => seqR_imp) fun _ h => h) h
  refine meets_of Ty.mixed Try.func28 (by kernel_rfl) rfl (by kernel_rfl) (by simp) ?_; rw [Try.ntmps28, Try.results28]
  simp only [awp_reg, awp_seq, seqQ_n, awpOps_nil, awpOps_one, awpOp_is, isCallV, callW_is, callV_is, putK_is, put_s, slot_is, pureOp, apureO, aev, cv, cvc, argT, Bool.false_eq_true, ↓reduceIte, List.map_cons, List.map_nil, List.append_nil, reduceCtorEq]
  refine call_meets (hs) (by simp only [aev, cv, cvc, toD_sl, consO_some, toDL_nil, toDL_cons]) ?_; simp only [awp_skip, awp_reg, awp_seq, awp_cond, awp_block, awp_loop, seqQ_n, awpOps_nil, awpOps_one, awpOp_is, putK_is, put_s, upd_s, slot_is, pureOp, apureO, killT, aev, cv, cvc, binK, elO_s, condA_f, flat_c, flat_tup, flatL_nil, flatL_cons, ownsV_sl, ownsL_nil, ownsL_cons, ↓reduceIte, List.getElem?_cons_zero, List.getElem?_cons_succ, List.append_nil, Bool.true_and, Bool.and_self, Bool.or_true, true_and, and_self, Nat.reduceEqDiff, List.isEmpty_nil, bne_self_eq_false]
  refine loop_g (fun k : Nat => k ≤ n) (fun k => ⟨34, [(7, I k), (6, seqW k), (4, I n), (0, ints fr)], rowH fr k⟩) (fun k => n - k) 0 (Nat.zero_le _) (by simp only [slot_is, aev, cv, cvc, Weak, ↓reduceIte, Bool.and_true, Bool.and_self, and_true, and_self, reduceCtorEq, Nat.reduceEqDiff, seqW]; simp) rfl (.inl rfl) ?_
  intro k hk K hK
  simp only at hK
  cases k with
  | zero =>
    simp only [awp_reg, awp_seq, awp_cond, seqQ_n, awpOps_nil, awpOps_one, awpOp_is, putK_is, put_s, slot_is, pureOp, apureO, aev, cv, cvc, binK, ↓reduceIte, Bool.true_and, true_and, Nat.reduceEqDiff, seqW, rowH]
    refine condA_dec (fun hlt => ?_) (fun hge => ?_)
    · have hlt' : 0 < n := by omega
      have hi := hx ((0 : Nat) : Int) hd
      rw [hin rfl hlt] at hi
      have hx1 : firstI fr 1 = [(idxR fr ((0 : Nat) : Int)).1] := rfl
      generalize (idxR fr ((0 : Nat) : Int)).1 = x at *
      simp only [awp_skip, awp_reg, awp_seq, awp_block, seqQ_n, awpOps_one, awpOp_is, isCallV, callW_is, callV_is, putK_is, put_s, slot_is, pureOp, apureO, aev, cv, cvc, Bool.false_eq_true, ↓reduceIte, List.map_cons, List.map_nil, List.append_nil, reduceCtorEq, Nat.reduceEqDiff]
      refine call_meets (hi) (by simp only [aev, cv, cvc, toD_c, toD_sl, consO_some, toDL_nil, toDL_cons, wrap_in (x := ((0 : Nat) : Int) + 1) (by omega) (by omega)]) ?_; simp only [awp_reg, seqQ_n, loopQ_n, blkQ_n, awpOps_nil, awpOps_one, awpOp_is, isCallV, putK_is, updK_is, put_s, upd_s, slot_is, slot.eq_1, pureOp, apureO, astepO, appA_own, appV, killT, aev, cv, cvc, binK, elO_s, cellsA, cellOk, setAll, fillA, elemsA, elemsN, chunk, flat_c, flat_tup, flat_sl, flatL_nil, flatL_cons, isD_sl, isDL_nil, isDL_cons, ownsV_c, ownsV_sl, ownsL_nil, ownsL_cons, Bool.false_eq_true, ↓reduceIte, List.getElem?_cons_zero, List.getElem?_cons_succ, List.length_cons, List.length_nil, List.map_cons, List.map_nil, List.cons_append, List.nil_append, List.append_nil, List.set_cons_zero, List.take_succ_cons, List.drop_zero, List.all_cons, List.all_nil, Bool.and_true, Bool.true_and, Bool.and_self, Bool.or_true, Value.oneCell', true_and, and_true, and_self, Nat.reduceMul, Nat.reduceLT, Nat.reduceLeDiff, Nat.reduceEqDiff, Nat.reduceMod, Nat.zero_add, List.isEmpty_nil, List.range_succ, List.range_zero, Nat.le_refl, List.take_nil, Ty.td22, Ty.td40, wrap_in (x := ((0 : Nat) : Int) + 1) (by omega) (by omega)]
      refine hK 1 _ hlt' (by omega) ?_ rfl (.weak (by simp [rowH]) (by simp [WeakH, rowH, hx1]) rfl rfl)
      simp only [slot_is, aev, cv, cvc, Weak, ↓reduceIte, Bool.and_true, Bool.and_self, and_true, and_self, reduceCtorEq, Nat.reduceEqDiff, Nat.zero_add, seqW]; simp
    · have hk' : n = 0 := by omega
      subst hk'
      simp only [awp_reg, awp_seq, awp_exit, awp_ret, seqQ_n, seqQ_e, loopQ_e, blkQ_e, awpOps_nil, awpOps_one, awpOp_is, putK_is, put_s, slot_is, retA_is, pureOp, apureO, aev, cv, cvc, toD_c, toD_nils, toD_tup, consO_some, toDL_nil, toDL_cons, notExit, resA_nil, resA_tmp, oneA_2, ↓reduceIte, Option.map_some, Bool.and_self, and_self, Nat.reduceEqDiff, seqR]
  | succ k =>
    have hlen := firstI_len fr (k + 1)
    have hbt : List.take (k + 1) (List.map encL (firstI fr (k + 1))) = List.map encL (firstI fr (k + 1)) := List.take_of_length_le (by simp [hlen])
    simp only [awp_reg, awp_seq, awp_cond, seqQ_n, awpOps_nil, awpOps_one, awpOp_is, putK_is, put_s, slot_is, pureOp, apureO, aev, cv, cvc, binK, ↓reduceIte, Bool.true_and, true_and, Nat.reduceEqDiff, seqW, rowH]
    refine condA_dec (fun hlt => ?_) (fun hge => ?_)
    · have hlt' : k + 1 < n := by omega
      have hi := hx ((k + 1 : Nat) : Int) hd
      rw [hin rfl hlt] at hi
      have hst := hstep (k + 1)
      generalize (idxR fr ((k + 1 : Nat) : Int)).1 = x at *
      simp only [awp_skip, awp_reg, awp_seq, awp_block, seqQ_n, awpOps_one, awpOp_is, isCallV, callW_is, callV_is, putK_is, put_s, slot_is, pureOp, apureO, aev, cv, cvc, Bool.false_eq_true, ↓reduceIte, List.map_cons, List.map_nil, List.append_nil, reduceCtorEq, Nat.reduceEqDiff]
      refine call_meets (hi) (by simp only [aev, cv, cvc, toD_c, toD_sl, consO_some, toDL_nil, toDL_cons, hbt, wrap_in (x := ((k + 1 : Nat) : Int) + 1) (by omega) (by omega)]) ?_; simp only [awp_reg, seqQ_n, loopQ_n, blkQ_n, awpOps_nil, awpOps_one, awpOp_is, isCallV, putK_is, updK_is, put_s, upd_s, slot_is, slot.eq_1, pureOp, apureO, astepO, appA_own, appV, killT, killB, killH, aev, cv, cvc, binK, elO_s, cellsA, cellOk, setAll, fillA, elemsA, elemsN, rowE, chunk, flat_c, flat_tup, flat_sl, flatL_nil, flatL_cons, isD_sl, isDL_nil, isDL_cons, ownsV_c, ownsV_sl, ownsL_nil, ownsL_cons, killV_c, killV_tup, killV_sl, killV_own, killL_nil, killL_cons, Bool.false_eq_true, ↓reduceIte, List.getElem?_cons_zero, List.getElem?_cons_succ, List.length_cons, List.length_nil, List.map_cons, List.map_nil, List.cons_append, List.nil_append, List.append_nil, List.set_cons_zero, List.set_cons_succ, Option.map_some, Option.map_none, List.take_succ_cons, List.drop_zero, List.all_cons, List.all_nil, Bool.and_true, Bool.true_and, Bool.and_self, Bool.or_true, Bool.or_false, Value.oneCell', true_and, and_true, and_self, Nat.reduceAdd, Nat.reduceMul, Nat.reduceLT, Nat.reduceLeDiff, Nat.reduceEqDiff, Nat.reduceMod, Nat.zero_add, List.isEmpty_nil, List.mem_cons, List.not_mem_nil, or_false, List.range_succ, List.range_zero, Nat.le_refl, List.take_nil, Ty.td22, Ty.td40, hbt, List.length_map, hlen, wrap_in (x := ((k + 1 : Nat) : Int) + 1) (by omega) (by omega)]
      refine ⟨by omega, by omega, ?_⟩
      refine hK (k + 1 + 1) _ hlt' (by omega) ?_ rfl (.weak (by simp [rowH]) (by simp [WeakH, rowH, hst]) rfl rfl)
      simp only [slot_is, aev, cv, cvc, Weak, ↓reduceIte, Bool.and_true, Bool.and_self, and_true, and_self, reduceCtorEq, Nat.reduceEqDiff, seqW]; simp
    · have hk' : n = k + 1 := by omega
      subst hk'
      simp only [awp_reg, awp_seq, awp_exit, awp_ret, seqQ_n, seqQ_e, loopQ_e, blkQ_e, awpOps_nil, awpOps_one, awpOp_is, putK_is, put_s, slot_is, retA_is, pureOp, apureO, aev, cv, cvc, elemsA, toD_c, toD_tup, toD_own, consO_some, toDL_nil, toDL_cons, notExit, resA_nil, resA_tmp, oneA_2, ↓reduceIte, List.getElem?_cons_zero, List.getElem?_cons_succ, Option.map_some, Bool.and_self, and_self, Nat.reduceEqDiff, Nat.le_refl, seqR, hbt, List.length_map, hlen]
end Go.Proofs.Ytoobaeebgnbpjaa.B12
