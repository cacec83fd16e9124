/- Cells: slices.Concat. -/
import Derived.Test.YtimagnkdgpfamaaA2
namespace Go.Proofs.Ytimagnkdgpfamaa.B13
open Go Go.Proofs.Ytimagnkdgpfamaa.Eng Go.Proofs.Ytimagnkdgpfamaa Go.RowKit Go.Proofs.Ytimagnkdgpfamaa.A1 Go.Proofs.Ytimagnkdgpfamaa.A2
set_option linter.unusedSimpArgs false
set_option linter.unusedVariables false
set_option linter.unusedSectionVars false
set_option maxRecDepth 100000

abbrev encC (x : List Int) : List AV := [ints x]
/-- The first k lists as one. -/
def flatK (A : List (List Int)) (k : Nat) : List Int := (A.take k).flatten
theorem flatK_step {A : List (List Int)} {k : Nat} (h : k < A.length) : flatK A (k + 1) = flatK A k ++ A[k] := by
  rw [flatK, List.take_succ_eq_append_getElem h, List.flatten_append]
  simp [flatK]
theorem flatK_all (A : List (List Int)) : flatK A A.length = A.flatten := by rw [flatK, List.take_length]
theorem flatK_le (A : List (List Int)) (k : Nat) : (flatK A k).length ≤ A.flatten.length := by
  conv => rhs; rw [← List.take_append_drop k A]
  rw [List.flatten_append, List.length_append]
  exact Nat.le_add_right _ _

def catS (b : Bool) (n : Nat) : AV := if b then .own 0 1 n else .nils
def catH (b : Bool) (es : List (List AV)) : Heap := if b then [some (.row 3 1 es)] else []

theorem catR_imp {A : List (List Int)} {ok : Nat → Prop} {w : World} {v : Value} (h : RepD ok w (if A.length = 0 then .nils else ints A.flatten) v) : RepD ok w (ints A.flatten) v := by
  cases A with
  | nil => exact nil_imp h
  | cons _ _ => exact h

theorem concat (A : List (List Int)) (hA : A.length ≤ 1000000) (hn : A.flatten.length ≤ 1000000) : Meets Try.prog 73 [.sl false 1 (A.map encC)] (ints A.flatten) := by
  refine Meets.weak (r0 := if A.length = 0 then .nils else ints A.flatten) ?_ fun ok w v h => catR_imp h
  refine meets_of (X := false) Ty.mixed Try.func73 (by kernel_rfl) rfl (by kernel_rfl) (by simp) ?_; rw [Try.ntmps73, Try.results73]
  simp only [awp_reg, awp_seq, awp_block, awp_loop, seqQ_n, awpOps_nil, awpOps_one, awpOp_is, putK_is, put_s, slot_is, pureOp, apureO, aev, cv, cvc, elO_s, lenA, lenK, argT, ↓reduceIte, Bool.true_and, true_and, reduceCtorEq, Option.isSome_some, Ty.td98, List.length_map]
  refine loop_k (fun k : Nat => k ≤ A.length) (fun k => ⟨36, [(11, I k), (10, I A.length), (9, .sl false 1 (A.map encC)), (3, I (flatK A k).length), (0, .sl false 1 (A.map encC))], []⟩) (fun k => A.length - k) 0 (Nat.zero_le _) (by simp only [slot_is, aev, cv, cvc, Weak, ↓reduceIte, Bool.and_true, Bool.true_and, Bool.and_self, true_and, and_true, and_self, reduceCtorEq, Nat.reduceEqDiff]; simp [flatK]) rfl rfl ?_
  intro k hk K hK
  simp only at hK
  simp only [awp_reg, awp_seq, awp_cond, seqQ_n, awpOps_nil, awpOps_one, awpOp_is, putK_is, put_s, slot_is, pureOp, apureO, aev, cv, cvc, binK, ↓reduceIte, Bool.true_and, true_and, Nat.reduceEqDiff]
  refine condA_dec (fun hlt => ?_) (fun hge => ?_)
  · have hlt' : k < A.length := by omega
    have hx : A[k]? = some A[k] := List.getElem?_eq_getElem hlt'
    have hs := flatK_step hlt'
    have hle := flatK_le A (k + 1)
    generalize A[k] = x at *
    rw [hs, List.length_append] at hle
    have h1 : ¬ (((flatK A k).length : Int) + x.length < 0) := by omega
    simp only [awp_skip, awp_reg, awp_seq, awp_cond, awp_block, seqQ_n, loopQ_n, blkQ_n, awpOps_nil, awpOps_one, awpOp_is, putK_is, put_s, slot_is, pureOp, apureO, aev, cv, cvc, binK, elO_s, elO_none, lenA, lenK, loadA_d, condA_f, Int.natCast_nonneg, Bool.false_eq_true, ↓reduceIte, List.getElem?_cons_zero, Option.map_some, Bool.true_and, true_and, Nat.reduceEqDiff, Int.toNat_natCast, Option.isSome_some, decide_false, Ty.td22, Ty.td98, List.getElem?_map, hx, List.length_map, wrap_in (x := ((flatK A k).length : Int) + x.length) (by omega) (by omega), wrap_in (x := (k : Int) + 1) (by omega) (by omega), h1]
    refine hK (k + 1) _ hlt' (by omega) ?_ rfl rfl
    simp only [slot_is, aev, cv, cvc, Weak, ↓reduceIte, Bool.and_true, Bool.true_and, Bool.and_self, true_and, and_true, and_self, reduceCtorEq, Nat.reduceEqDiff, hs]
    simp
  · have hk' : k = A.length := by omega
    subst hk'
    rw [flatK_all]
    simp only [awp_reg, awp_seq, awp_exit, seqQ_n, seqQ_e, loopQ_e, blkQ_e, awpOps_one, awpOp_is, isCallV, callW_is, callV_is, putK_is, put_s, slot_is, pureOp, apureO, aev, cv, cvc, Bool.false_eq_true, ↓reduceIte, List.map_cons, List.map_nil, List.append_nil, Nat.reduceEqDiff]
    generalize hT : A.flatten.length = T at *
    have h1 : ¬ ((T : Int) < 0) := by omega
    have hpos : T ≠ 0 → 0 < A.length := fun h => by
      cases A with
      | nil => exact absurd hT.symm (by simpa using h)
      | cons _ _ => simp
    by_cases h0 : T = 0
    · have h2 : ¬ (0 : Int) < T := by omega
      refine call_inl (X := false) Ty.mixed Try.func78 (by kernel_rfl) rfl (by kernel_rfl) (by simp) ?_; rw [Try.ntmps78, Try.results78]; simp only [awp_skip, awp_reg, awp_seq, awp_cond, awp_block, awp_loop, awp_ret, seqQ_n, awpOps_nil, awpOps_one, awpOp_is, inlQ_is, retT_s, shiftT, unshift, putK_is, put_s, slot_is, pureOp, apureO, capA_nils, aev, cv, cvc, binK, elO_s, lenA, lenK, condA_f, notExit, resA_nil, resA_tmp, oneA_1, argT, ↓reduceIte, List.cons_append, List.nil_append, Bool.true_and, true_and, reduceCtorEq, Nat.reduceAdd, Nat.reduceLeDiff, Nat.reduceEqDiff, Nat.reduceSub, Nat.zero_add, Nat.add_zero, Option.isSome_some, decide_false, Nat.le_refl, Ty.td22, Ty.td98, h1, h2, List.length_map, wrap_in (x := (T : Int) - 0) (by omega) (by omega), wrap_in (x := (0 : Int) - 0) (by omega) (by omega), Int.sub_zero, wrap_in (x := (T : Int)) (by omega) (by omega), wrap_in (x := (0 : Int)) (by omega) (by omega)]
      refine loop_k (fun x : Nat × List (List AV) × Bool => x.1 ≤ A.length ∧ (x.2.2 = false → T = 0 ∧ x.1 = 0) ∧ (x.2.2 = true → 0 < A.length) ∧ x.2.1.take (flatK A x.1).length = (flatK A x.1).map enc ∧ (flatK A x.1).length ≤ x.2.1.length) (fun x => ⟨36, [(27, I x.1), (26, I A.length), (25, .sl false 1 (A.map encC)), (6, catS x.2.2 (flatK A x.1).length), (0, .sl false 1 (A.map encC))], catH x.2.2 x.2.1⟩) (fun x => A.length - x.1) (0, [], false) ⟨Nat.zero_le _, fun _ => ⟨h0, rfl⟩, (fun h => by cases h), by simp [flatK], by simp [flatK]⟩ (by simp only [slot_is, aev, cv, cvc, Weak, Bool.false_eq_true, ↓reduceIte, Bool.and_true, Bool.and_self, and_true, and_self, reduceCtorEq, Nat.reduceEqDiff, catS] <;> simp) rfl rfl ?_
      rintro ⟨k, es, b⟩ ⟨hk, hb, hp, ht, hl⟩ K hK
      simp only at hk hb hp ht hl hK
      cases b with
      | false =>
        obtain ⟨hT0, rfl⟩ := hb rfl
        simp only [awp_reg, awp_seq, awp_cond, seqQ_n, awpOps_nil, awpOps_one, awpOp_is, putK_is, put_s, slot_is, pureOp, apureO, aev, cv, cvc, binK, Bool.false_eq_true, ↓reduceIte, Bool.true_and, true_and, Nat.reduceEqDiff, catS, catH]
        refine condA_dec (fun hlt => ?_) (fun hge => ?_)
        · have hlt' : 0 < A.length := by omega
          have hx : A[0]? = some A[0] := List.getElem?_eq_getElem hlt'
          have hs := flatK_step hlt'
          have hle := flatK_le A 1
          have hf0 : flatK A 0 = [] := by simp [flatK]
          generalize A[0] = x at *
          rw [hf0, List.nil_append] at hs
          have hx0 : x = [] := List.eq_nil_of_length_eq_zero (by rw [hs] at hle; omega)
          subst hx0
          simp only [awp_skip, awp_reg, awp_seq, awp_block, seqQ_n, loopQ_n, blkQ_n, awpOps_nil, awpOps_one, awpOp_is, isCallV, putK_is, updK_is, put_s, upd_s, slot_is, pureOp, apureO, astepO, appA_sl, appV, killT, aev, cv, cvc, binK, elO_s, loadA_d, elemsA, elemsN, Int.natCast_nonneg, Bool.false_eq_true, ↓reduceIte, List.getElem?_cons_zero, List.length_cons, List.length_nil, List.map_nil, List.nil_append, Option.map_some, Bool.true_and, true_and, Nat.reduceLT, Nat.reduceLeDiff, Nat.reduceEqDiff, Nat.zero_add, Ty.td3, Ty.td22, Ty.td98, show Int.toNat ((0 : Nat) : Int) = 0 from rfl, List.getElem?_map, hx, Nat.zero_mul, show ((0 : Nat) : Int) + 1 = 1 by omega, wrap_in (x := (1 : Int)) (by omega) (by omega)]
          refine hK (1, [], true) _ ⟨hlt', (fun h => by cases h), fun _ => hlt', by simp [hs], by simp [hs]⟩ (by simp only; omega) ?_ rfl rfl
          simp only [slot_is, aev, cv, cvc, Weak, ↓reduceIte, List.length_nil, Bool.and_true, Bool.and_self, and_true, and_self, reduceCtorEq, Nat.reduceEqDiff, catS, hs]; simp
        · rw [if_pos (by omega)]
          simp only [awp_reg, awp_seq, awp_exit, awp_ret, seqQ_n, seqQ_e, loopQ_e, blkQ_e, awpOps_nil, awpOps_one, awpOp_is, putK_is, put_s, slot_is, retA_is, pureOp, apureO, aev, cv, cvc, toD_nils, notExit, resA_nil, resA_tmp, oneA_1, ↓reduceIte, Bool.and_self, and_self, Nat.reduceEqDiff]
      | true =>
        have hpA := hp rfl
        simp only [awp_reg, awp_seq, awp_cond, seqQ_n, awpOps_nil, awpOps_one, awpOp_is, putK_is, put_s, slot_is, pureOp, apureO, aev, cv, cvc, binK, ↓reduceIte, Bool.true_and, true_and, Nat.reduceEqDiff, catS, catH]
        refine condA_dec (fun hlt => ?_) (fun hge => ?_)
        · have hlt' : k < A.length := by omega
          have hx : A[k]? = some A[k] := List.getElem?_eq_getElem hlt'
          have hs := flatK_step hlt'
          have hle := flatK_le A (k + 1)
          generalize A[k] = x at *
          rw [hs, List.length_append] at hle
          simp only [awp_skip, awp_reg, awp_seq, awp_block, seqQ_n, loopQ_n, blkQ_n, awpOps_nil, awpOps_one, awpOp_is, isCallV, putK_is, updK_is, put_s, upd_s, slot_is, pureOp, apureO, astepO, appA_sl, appV, killT, killB, killH, aev, cv, cvc, binK, elO_s, loadA_d, elemsA, elemsN, rowE, killV_c, killV_sl, killV_own, killV_dptr, Int.natCast_nonneg, Bool.false_eq_true, ↓reduceIte, List.getElem?_cons_zero, List.length_cons, List.length_nil, List.map_cons, List.map_nil, List.set_cons_zero, Option.map_some, Bool.true_and, Bool.and_self, Bool.or_false, true_and, and_self, Nat.reduceLT, Nat.reduceEqDiff, Nat.zero_add, List.mem_cons, List.not_mem_nil, or_false, Int.toNat_natCast, List.getElem?_nil, Ty.td3, Ty.td22, Ty.td98, List.getElem?_map, hx, List.length_map, ht, hl, wrap_in (x := (k : Int) + 1) (by omega) (by omega)]
          refine ⟨by omega, by omega, ?_⟩
          refine hK (k + 1, (flatK A k).map enc ++ x.map enc, true) _ ⟨hlt', (fun h => by cases h), fun _ => hpA, by rw [hs, List.map_append, List.take_of_length_le (by simp)], by simp [hs]⟩ (by simp only; omega) ?_ rfl rfl
          simp only [slot_is, aev, cv, cvc, Weak, ↓reduceIte, Bool.and_true, Bool.and_self, and_true, and_self, reduceCtorEq, Nat.reduceEqDiff, catS, hs, List.length_append]
          simp
        · have hk' : k = A.length := by omega
          subst hk'
          rw [if_neg (by omega)]
          simp only [awp_reg, awp_seq, awp_exit, awp_ret, seqQ_n, seqQ_e, loopQ_e, blkQ_e, awpOps_nil, awpOps_one, awpOp_is, putK_is, put_s, slot_is, retA_is, pureOp, apureO, aev, cv, cvc, elemsA, toD_own, notExit, resA_nil, resA_tmp, oneA_1, ↓reduceIte, List.getElem?_cons_zero, Option.map_some, Bool.true_and, Bool.and_self, true_and, and_self, Nat.reduceEqDiff, ht, hl]
          rw [flatK_all]
    · have h2 : (0 : Int) < T := by omega
      refine call_inl (X := false) Ty.mixed Try.func78 (by kernel_rfl) rfl (by kernel_rfl) (by simp) ?_; rw [Try.ntmps78, Try.results78]; simp only [awp_skip, awp_reg, awp_seq, awp_cond, awp_block, awp_loop, awp_ret, seqQ_n, awpOps_nil, awpOps_one, awpOp_is, isCallV, inlQ_is, retT_s, shiftT, unshift, putK_is, updK_is, put_s, upd_s, slot_is, pureOp, apureO, astepO, sliceA_own, sliceA_nils, sliceP_own, sliceP_nils, pureK_is, capA_nils, boundsA, appA_i, appM_nils, killT, aev, cv, cvc, binK, elO_s, lenA, lenK, condA_t, condA_f, notExit, resA_nil, resA_tmp, oneA_1, argT, Int.natCast_nonneg, Bool.false_eq_true, ↓reduceIte, List.length_cons, List.length_nil, List.map_cons, List.map_nil, List.cons_append, List.nil_append, Option.map_some, Option.map_none, List.all_cons, List.all_nil, Bool.true_and, Bool.and_self, Value.oneCell', true_and, and_self, reduceCtorEq, Nat.reduceAdd, Nat.reduceLT, Nat.reduceLeDiff, Nat.reduceEqDiff, Nat.reduceSub, Nat.zero_add, Nat.add_zero, Int.reduceToNat, Int.toNat_natCast, Option.isSome_some, decide_true, decide_false, Nat.le_refl, Int.le_refl, Ty.td3, Ty.td22, Ty.td98, h1, h2, List.length_map, wrap_in (x := (T : Int) - 0) (by omega) (by omega), wrap_in (x := (0 : Int) - 0) (by omega) (by omega), Int.sub_zero, wrap_in (x := (T : Int)) (by omega) (by omega), wrap_in (x := (0 : Int)) (by omega) (by omega)]
      refine ⟨by omega, by omega, ?_⟩
      refine loop_k (fun x : Nat × List (List AV) × Bool => x.1 ≤ A.length ∧ (x.2.2 = false → T = 0 ∧ x.1 = 0) ∧ (x.2.2 = true → 0 < A.length) ∧ x.2.1.take (flatK A x.1).length = (flatK A x.1).map enc ∧ (flatK A x.1).length ≤ x.2.1.length) (fun x => ⟨36, [(27, I x.1), (26, I A.length), (25, .sl false 1 (A.map encC)), (6, catS x.2.2 (flatK A x.1).length), (0, .sl false 1 (A.map encC))], catH x.2.2 x.2.1⟩) (fun x => A.length - x.1) (0, List.replicate T [.c (.int .i64 0)], true) ⟨Nat.zero_le _, (fun h => by cases h), fun _ => hpos h0, by simp [flatK], by simp [flatK]⟩ (by simp only [slot_is, aev, cv, cvc, Weak, ↓reduceIte, Bool.and_true, Bool.true_and, Bool.and_self, true_and, and_true, and_self, reduceCtorEq, Nat.reduceEqDiff, catS] <;> simp [flatK]) rfl rfl ?_
      rintro ⟨k, es, b⟩ ⟨hk, hb, hp, ht, hl⟩ K hK
      simp only at hk hb hp ht hl hK
      cases b with
      | false =>
        obtain ⟨hT0, rfl⟩ := hb rfl
        simp only [awp_reg, awp_seq, awp_cond, seqQ_n, awpOps_nil, awpOps_one, awpOp_is, putK_is, put_s, slot_is, pureOp, apureO, aev, cv, cvc, binK, Bool.false_eq_true, ↓reduceIte, Bool.true_and, true_and, Nat.reduceEqDiff, catS, catH]
        refine condA_dec (fun hlt => ?_) (fun hge => ?_)
        · have hlt' : 0 < A.length := by omega
          have hx : A[0]? = some A[0] := List.getElem?_eq_getElem hlt'
          have hs := flatK_step hlt'
          have hle := flatK_le A 1
          have hf0 : flatK A 0 = [] := by simp [flatK]
          generalize A[0] = x at *
          rw [hf0, List.nil_append] at hs
          have hx0 : x = [] := List.eq_nil_of_length_eq_zero (by rw [hs] at hle; omega)
          subst hx0
          simp only [awp_skip, awp_reg, awp_seq, awp_block, seqQ_n, loopQ_n, blkQ_n, awpOps_nil, awpOps_one, awpOp_is, isCallV, putK_is, updK_is, put_s, upd_s, slot_is, pureOp, apureO, astepO, appA_sl, appV, killT, aev, cv, cvc, binK, elO_s, loadA_d, elemsA, elemsN, Int.natCast_nonneg, Bool.false_eq_true, ↓reduceIte, List.getElem?_cons_zero, List.length_cons, List.length_nil, List.map_nil, List.nil_append, Option.map_some, Bool.true_and, true_and, Nat.reduceLT, Nat.reduceLeDiff, Nat.reduceEqDiff, Nat.zero_add, Ty.td3, Ty.td22, Ty.td98, show Int.toNat ((0 : Nat) : Int) = 0 from rfl, List.getElem?_map, hx, Nat.zero_mul, show ((0 : Nat) : Int) + 1 = 1 by omega, wrap_in (x := (1 : Int)) (by omega) (by omega)]
          refine hK (1, [], true) _ ⟨hlt', (fun h => by cases h), fun _ => hlt', by simp [hs], by simp [hs]⟩ (by simp only; omega) ?_ rfl rfl
          simp only [slot_is, aev, cv, cvc, Weak, ↓reduceIte, List.length_nil, Bool.and_true, Bool.and_self, and_true, and_self, reduceCtorEq, Nat.reduceEqDiff, catS, hs]; simp
        · rw [if_pos (by omega)]
          simp only [awp_reg, awp_seq, awp_exit, awp_ret, seqQ_n, seqQ_e, loopQ_e, blkQ_e, awpOps_nil, awpOps_one, awpOp_is, putK_is, put_s, slot_is, retA_is, pureOp, apureO, aev, cv, cvc, toD_nils, notExit, resA_nil, resA_tmp, oneA_1, ↓reduceIte, Bool.and_self, and_self, Nat.reduceEqDiff]
      | true =>
        have hpA := hp rfl
        simp only [awp_reg, awp_seq, awp_cond, seqQ_n, awpOps_nil, awpOps_one, awpOp_is, putK_is, put_s, slot_is, pureOp, apureO, aev, cv, cvc, binK, ↓reduceIte, Bool.true_and, true_and, Nat.reduceEqDiff, catS, catH]
        refine condA_dec (fun hlt => ?_) (fun hge => ?_)
        · have hlt' : k < A.length := by omega
          have hx : A[k]? = some A[k] := List.getElem?_eq_getElem hlt'
          have hs := flatK_step hlt'
          have hle := flatK_le A (k + 1)
          generalize A[k] = x at *
          rw [hs, List.length_append] at hle
          simp only [awp_skip, awp_reg, awp_seq, awp_block, seqQ_n, loopQ_n, blkQ_n, awpOps_nil, awpOps_one, awpOp_is, isCallV, putK_is, updK_is, put_s, upd_s, slot_is, pureOp, apureO, astepO, appA_sl, appV, killT, killB, killH, aev, cv, cvc, binK, elO_s, loadA_d, elemsA, elemsN, rowE, killV_c, killV_sl, killV_own, killV_dptr, Int.natCast_nonneg, Bool.false_eq_true, ↓reduceIte, List.getElem?_cons_zero, List.length_cons, List.length_nil, List.map_cons, List.map_nil, List.set_cons_zero, Option.map_some, Bool.true_and, Bool.and_self, Bool.or_false, true_and, and_self, Nat.reduceLT, Nat.reduceEqDiff, Nat.zero_add, List.mem_cons, List.not_mem_nil, or_false, Int.toNat_natCast, List.getElem?_nil, Ty.td3, Ty.td22, Ty.td98, List.getElem?_map, hx, List.length_map, ht, hl, wrap_in (x := (k : Int) + 1) (by omega) (by omega)]
          refine ⟨by omega, by omega, ?_⟩
          refine hK (k + 1, (flatK A k).map enc ++ x.map enc, true) _ ⟨hlt', (fun h => by cases h), fun _ => hpA, by rw [hs, List.map_append, List.take_of_length_le (by simp)], by simp [hs]⟩ (by simp only; omega) ?_ rfl rfl
          simp only [slot_is, aev, cv, cvc, Weak, ↓reduceIte, Bool.and_true, Bool.and_self, and_true, and_self, reduceCtorEq, Nat.reduceEqDiff, catS, hs, List.length_append]
          simp
        · have hk' : k = A.length := by omega
          subst hk'
          rw [if_neg (by omega)]
          simp only [awp_reg, awp_seq, awp_exit, awp_ret, seqQ_n, seqQ_e, loopQ_e, blkQ_e, awpOps_nil, awpOps_one, awpOp_is, putK_is, put_s, slot_is, retA_is, pureOp, apureO, aev, cv, cvc, elemsA, toD_own, notExit, resA_nil, resA_tmp, oneA_1, ↓reduceIte, List.getElem?_cons_zero, Option.map_some, Bool.true_and, Bool.and_self, true_and, and_self, Nat.reduceEqDiff, ht, hl]
          rw [flatK_all]

theorem concatO (A : List (List Int)) (hA0 : A ≠ []) (hA : A.length ≤ 1000000) (hn : A.flatten.length ≤ 1000000) : MeetsO Try.prog 73 [.sl false 1 (A.map encC)] (.own 0 1 A.flatten.length) [some (.row 3 1 (A.flatten.map enc))] := by
  have hA1 : 0 < A.length := List.length_pos_iff.2 hA0
  refine meetsO_of (X := false) Ty.mixed Try.func73 (by kernel_rfl) rfl (by kernel_rfl) (by simp) ?_; rw [Try.ntmps73, Try.results73]
  simp only [awp_reg, awp_seq, awp_block, awp_loop, seqQ_n, awpOps_nil, awpOps_one, awpOp_is, putK_is, put_s, slot_is, pureOp, apureO, aev, cv, cvc, elO_s, lenA, lenK, argT, ↓reduceIte, Bool.true_and, true_and, reduceCtorEq, Option.isSome_some, Ty.td98, List.length_map]
  refine loop_k (fun k : Nat => k ≤ A.length) (fun k => ⟨36, [(11, I k), (10, I A.length), (9, .sl false 1 (A.map encC)), (3, I (flatK A k).length), (0, .sl false 1 (A.map encC))], []⟩) (fun k => A.length - k) 0 (Nat.zero_le _) (by simp only [slot_is, aev, cv, cvc, Weak, ↓reduceIte, Bool.and_true, Bool.true_and, Bool.and_self, true_and, and_true, and_self, reduceCtorEq, Nat.reduceEqDiff]; simp [flatK]) rfl rfl ?_
  intro k hk K hK
  simp only at hK
  simp only [awp_reg, awp_seq, awp_cond, seqQ_n, awpOps_nil, awpOps_one, awpOp_is, putK_is, put_s, slot_is, pureOp, apureO, aev, cv, cvc, binK, ↓reduceIte, Bool.true_and, true_and, Nat.reduceEqDiff]
  refine condA_dec (fun hlt => ?_) (fun hge => ?_)
  · have hlt' : k < A.length := by omega
    have hx : A[k]? = some A[k] := List.getElem?_eq_getElem hlt'
    have hs := flatK_step hlt'
    have hle := flatK_le A (k + 1)
    generalize A[k] = x at *
    rw [hs, List.length_append] at hle
    have h1 : ¬ (((flatK A k).length : Int) + x.length < 0) := by omega
    simp only [awp_skip, awp_reg, awp_seq, awp_cond, awp_block, seqQ_n, loopQ_n, blkQ_n, awpOps_nil, awpOps_one, awpOp_is, putK_is, put_s, slot_is, pureOp, apureO, aev, cv, cvc, binK, elO_s, elO_none, lenA, lenK, loadA_d, condA_f, Int.natCast_nonneg, Bool.false_eq_true, ↓reduceIte, List.getElem?_cons_zero, Option.map_some, Bool.true_and, true_and, Nat.reduceEqDiff, Int.toNat_natCast, Option.isSome_some, decide_false, Ty.td22, Ty.td98, List.getElem?_map, hx, List.length_map, wrap_in (x := ((flatK A k).length : Int) + x.length) (by omega) (by omega), wrap_in (x := (k : Int) + 1) (by omega) (by omega), h1]
    refine hK (k + 1) _ hlt' (by omega) ?_ rfl rfl
    simp only [slot_is, aev, cv, cvc, Weak, ↓reduceIte, Bool.and_true, Bool.true_and, Bool.and_self, true_and, and_true, and_self, reduceCtorEq, Nat.reduceEqDiff, hs]
    simp
  · have hk' : k = A.length := by omega
    subst hk'
    rw [flatK_all]
    simp only [awp_reg, awp_seq, awp_exit, seqQ_n, seqQ_e, loopQ_e, blkQ_e, awpOps_one, awpOp_is, isCallV, callW_is, callV_is, putK_is, put_s, slot_is, pureOp, apureO, aev, cv, cvc, Bool.false_eq_true, ↓reduceIte, List.map_cons, List.map_nil, List.append_nil, Nat.reduceEqDiff]
    generalize hT : A.flatten.length = T at *
    have h1 : ¬ ((T : Int) < 0) := by omega
    have hpos : T ≠ 0 → 0 < A.length := fun h => by
      cases A with
      | nil => exact absurd hT.symm (by simpa using h)
      | cons _ _ => simp
    by_cases h0 : T = 0
    · have h2 : ¬ (0 : Int) < T := by omega
      refine call_inl (X := false) Ty.mixed Try.func78 (by kernel_rfl) rfl (by kernel_rfl) (by simp) ?_; rw [Try.ntmps78, Try.results78]; simp only [awp_skip, awp_reg, awp_seq, awp_cond, awp_block, awp_loop, awp_ret, seqQ_n, awpOps_nil, awpOps_one, awpOp_is, inlQ_is, retT_s, shiftT, unshift, putK_is, put_s, slot_is, pureOp, apureO, capA_nils, aev, cv, cvc, binK, elO_s, lenA, lenK, condA_f, notExit, resA_nil, resA_tmp, oneA_1, argT, ↓reduceIte, List.cons_append, List.nil_append, Bool.true_and, true_and, reduceCtorEq, Nat.reduceAdd, Nat.reduceLeDiff, Nat.reduceEqDiff, Nat.reduceSub, Nat.zero_add, Nat.add_zero, Option.isSome_some, decide_false, Nat.le_refl, Ty.td22, Ty.td98, h1, h2, List.length_map, wrap_in (x := (T : Int) - 0) (by omega) (by omega), wrap_in (x := (0 : Int) - 0) (by omega) (by omega), Int.sub_zero, wrap_in (x := (T : Int)) (by omega) (by omega), wrap_in (x := (0 : Int)) (by omega) (by omega)]
      refine loop_k (fun x : Nat × List (List AV) × Bool => x.1 ≤ A.length ∧ (x.2.2 = false → T = 0 ∧ x.1 = 0) ∧ (x.2.2 = true → 0 < A.length) ∧ x.2.1.take (flatK A x.1).length = (flatK A x.1).map enc ∧ (flatK A x.1).length ≤ x.2.1.length ∧ (x.1 ≠ 0 → x.2.1 = (flatK A x.1).map enc)) (fun x => ⟨36, [(27, I x.1), (26, I A.length), (25, .sl false 1 (A.map encC)), (6, catS x.2.2 (flatK A x.1).length), (0, .sl false 1 (A.map encC))], catH x.2.2 x.2.1⟩) (fun x => A.length - x.1) (0, [], false) ⟨Nat.zero_le _, fun _ => ⟨h0, rfl⟩, (fun h => by cases h), by simp [flatK], by simp [flatK], fun h => absurd rfl h⟩ (by simp only [slot_is, aev, cv, cvc, Weak, Bool.false_eq_true, ↓reduceIte, Bool.and_true, Bool.and_self, and_true, and_self, reduceCtorEq, Nat.reduceEqDiff, catS] <;> simp) rfl rfl ?_
      rintro ⟨k, es, b⟩ ⟨hk, hb, hp, ht, hl, he⟩ K hK
      simp only at hk hb hp ht hl he hK
      cases b with
      | false =>
        obtain ⟨hT0, rfl⟩ := hb rfl
        simp only [awp_reg, awp_seq, awp_cond, seqQ_n, awpOps_nil, awpOps_one, awpOp_is, putK_is, put_s, slot_is, pureOp, apureO, aev, cv, cvc, binK, Bool.false_eq_true, ↓reduceIte, Bool.true_and, true_and, Nat.reduceEqDiff, catS, catH]
        refine condA_dec (fun hlt => ?_) (fun hge => ?_)
        · have hlt' : 0 < A.length := by omega
          have hx : A[0]? = some A[0] := List.getElem?_eq_getElem hlt'
          have hs := flatK_step hlt'
          have hle := flatK_le A 1
          have hf0 : flatK A 0 = [] := by simp [flatK]
          generalize A[0] = x at *
          rw [hf0, List.nil_append] at hs
          have hx0 : x = [] := List.eq_nil_of_length_eq_zero (by rw [hs] at hle; omega)
          subst hx0
          simp only [awp_skip, awp_reg, awp_seq, awp_block, seqQ_n, loopQ_n, blkQ_n, awpOps_nil, awpOps_one, awpOp_is, isCallV, putK_is, updK_is, put_s, upd_s, slot_is, pureOp, apureO, astepO, appA_sl, appV, killT, aev, cv, cvc, binK, elO_s, loadA_d, elemsA, elemsN, Int.natCast_nonneg, Bool.false_eq_true, ↓reduceIte, List.getElem?_cons_zero, List.length_cons, List.length_nil, List.map_nil, List.nil_append, Option.map_some, Bool.true_and, true_and, Nat.reduceLT, Nat.reduceLeDiff, Nat.reduceEqDiff, Nat.zero_add, Ty.td3, Ty.td22, Ty.td98, show Int.toNat ((0 : Nat) : Int) = 0 from rfl, List.getElem?_map, hx, Nat.zero_mul, show ((0 : Nat) : Int) + 1 = 1 by omega, wrap_in (x := (1 : Int)) (by omega) (by omega)]
          refine hK (1, [], true) _ ⟨hlt', (fun h => by cases h), fun _ => hlt', by simp [hs], by simp [hs], fun _ => by simp [hs]⟩ (by simp only; omega) ?_ rfl rfl
          simp only [slot_is, aev, cv, cvc, Weak, ↓reduceIte, List.length_nil, Bool.and_true, Bool.and_self, and_true, and_self, reduceCtorEq, Nat.reduceEqDiff, catS, hs]; simp
        · exact absurd hge (by omega)
      | true =>
        have hpA := hp rfl
        simp only [awp_reg, awp_seq, awp_cond, seqQ_n, awpOps_nil, awpOps_one, awpOp_is, putK_is, put_s, slot_is, pureOp, apureO, aev, cv, cvc, binK, ↓reduceIte, Bool.true_and, true_and, Nat.reduceEqDiff, catS, catH]
        refine condA_dec (fun hlt => ?_) (fun hge => ?_)
        · have hlt' : k < A.length := by omega
          have hx : A[k]? = some A[k] := List.getElem?_eq_getElem hlt'
          have hs := flatK_step hlt'
          have hle := flatK_le A (k + 1)
          generalize A[k] = x at *
          rw [hs, List.length_append] at hle
          simp only [awp_skip, awp_reg, awp_seq, awp_block, seqQ_n, loopQ_n, blkQ_n, awpOps_nil, awpOps_one, awpOp_is, isCallV, putK_is, updK_is, put_s, upd_s, slot_is, pureOp, apureO, astepO, appA_sl, appV, killT, killB, killH, aev, cv, cvc, binK, elO_s, loadA_d, elemsA, elemsN, rowE, killV_c, killV_sl, killV_own, killV_dptr, Int.natCast_nonneg, Bool.false_eq_true, ↓reduceIte, List.getElem?_cons_zero, List.length_cons, List.length_nil, List.map_cons, List.map_nil, List.set_cons_zero, Option.map_some, Bool.true_and, Bool.and_self, Bool.or_false, true_and, and_self, Nat.reduceLT, Nat.reduceEqDiff, Nat.zero_add, List.mem_cons, List.not_mem_nil, or_false, Int.toNat_natCast, List.getElem?_nil, Ty.td3, Ty.td22, Ty.td98, List.getElem?_map, hx, List.length_map, ht, hl, wrap_in (x := (k : Int) + 1) (by omega) (by omega)]
          refine ⟨by omega, by omega, ?_⟩
          refine hK (k + 1, (flatK A k).map enc ++ x.map enc, true) _ ⟨hlt', (fun h => by cases h), fun _ => hpA, by rw [hs, List.map_append, List.take_of_length_le (by simp)], by simp [hs], fun _ => by rw [hs, List.map_append]⟩ (by simp only; omega) ?_ rfl rfl
          simp only [slot_is, aev, cv, cvc, Weak, ↓reduceIte, Bool.and_true, Bool.and_self, and_true, and_self, reduceCtorEq, Nat.reduceEqDiff, catS, hs, List.length_append]
          simp
        · have hk' : k = A.length := by omega
          subst hk'
          have he' := he (by omega)
          rw [flatK_all] at he' ht hl ⊢
          simp only [awp_reg, awp_seq, awp_exit, awp_ret, seqQ_n, seqQ_e, loopQ_e, blkQ_e, awpOps_nil, awpOps_one, awpOp_is, retO_is, putK_is, put_s, slot_is, pureOp, apureO, aev, cv, cvc, notExit, resA_nil, resA_tmp, oneA_1, ↓reduceIte, List.length_cons, List.length_nil, Bool.true_and, true_and, Nat.reduceEqDiff, Nat.zero_add, Nat.le_refl, he']
          simp [WeakH, refsV, refsH, hT]
    · have h2 : (0 : Int) < T := by omega
      refine call_inl (X := false) Ty.mixed Try.func78 (by kernel_rfl) rfl (by kernel_rfl) (by simp) ?_; rw [Try.ntmps78, Try.results78]; simp only [awp_skip, awp_reg, awp_seq, awp_cond, awp_block, awp_loop, awp_ret, seqQ_n, awpOps_nil, awpOps_one, awpOp_is, isCallV, inlQ_is, retT_s, shiftT, unshift, putK_is, updK_is, put_s, upd_s, slot_is, pureOp, apureO, astepO, sliceA_own, sliceA_nils, sliceP_own, sliceP_nils, pureK_is, capA_nils, boundsA, appA_i, appM_nils, killT, aev, cv, cvc, binK, elO_s, lenA, lenK, condA_t, condA_f, notExit, resA_nil, resA_tmp, oneA_1, argT, Int.natCast_nonneg, Bool.false_eq_true, ↓reduceIte, List.length_cons, List.length_nil, List.map_cons, List.map_nil, List.cons_append, List.nil_append, Option.map_some, Option.map_none, List.all_cons, List.all_nil, Bool.true_and, Bool.and_self, Value.oneCell', true_and, and_self, reduceCtorEq, Nat.reduceAdd, Nat.reduceLT, Nat.reduceLeDiff, Nat.reduceEqDiff, Nat.reduceSub, Nat.zero_add, Nat.add_zero, Int.reduceToNat, Int.toNat_natCast, Option.isSome_some, decide_true, decide_false, Nat.le_refl, Int.le_refl, Ty.td3, Ty.td22, Ty.td98, h1, h2, List.length_map, wrap_in (x := (T : Int) - 0) (by omega) (by omega), wrap_in (x := (0 : Int) - 0) (by omega) (by omega), Int.sub_zero, wrap_in (x := (T : Int)) (by omega) (by omega), wrap_in (x := (0 : Int)) (by omega) (by omega)]
      refine ⟨by omega, by omega, ?_⟩
      refine loop_k (fun x : Nat × List (List AV) × Bool => x.1 ≤ A.length ∧ (x.2.2 = false → T = 0 ∧ x.1 = 0) ∧ (x.2.2 = true → 0 < A.length) ∧ x.2.1.take (flatK A x.1).length = (flatK A x.1).map enc ∧ (flatK A x.1).length ≤ x.2.1.length ∧ (x.1 ≠ 0 → x.2.1 = (flatK A x.1).map enc)) (fun x => ⟨36, [(27, I x.1), (26, I A.length), (25, .sl false 1 (A.map encC)), (6, catS x.2.2 (flatK A x.1).length), (0, .sl false 1 (A.map encC))], catH x.2.2 x.2.1⟩) (fun x => A.length - x.1) (0, List.replicate T [.c (.int .i64 0)], true) ⟨Nat.zero_le _, (fun h => by cases h), fun _ => hpos h0, by simp [flatK], by simp [flatK], fun h => absurd rfl h⟩ (by simp only [slot_is, aev, cv, cvc, Weak, ↓reduceIte, Bool.and_true, Bool.true_and, Bool.and_self, true_and, and_true, and_self, reduceCtorEq, Nat.reduceEqDiff, catS] <;> simp [flatK]) rfl rfl ?_
      rintro ⟨k, es, b⟩ ⟨hk, hb, hp, ht, hl, he⟩ K hK
      simp only at hk hb hp ht hl he hK
      cases b with
      | false =>
        obtain ⟨hT0, rfl⟩ := hb rfl
        simp only [awp_reg, awp_seq, awp_cond, seqQ_n, awpOps_nil, awpOps_one, awpOp_is, putK_is, put_s, slot_is, pureOp, apureO, aev, cv, cvc, binK, Bool.false_eq_true, ↓reduceIte, Bool.true_and, true_and, Nat.reduceEqDiff, catS, catH]
        refine condA_dec (fun hlt => ?_) (fun hge => ?_)
        · have hlt' : 0 < A.length := by omega
          have hx : A[0]? = some A[0] := List.getElem?_eq_getElem hlt'
          have hs := flatK_step hlt'
          have hle := flatK_le A 1
          have hf0 : flatK A 0 = [] := by simp [flatK]
          generalize A[0] = x at *
          rw [hf0, List.nil_append] at hs
          have hx0 : x = [] := List.eq_nil_of_length_eq_zero (by rw [hs] at hle; omega)
          subst hx0
          simp only [awp_skip, awp_reg, awp_seq, awp_block, seqQ_n, loopQ_n, blkQ_n, awpOps_nil, awpOps_one, awpOp_is, isCallV, putK_is, updK_is, put_s, upd_s, slot_is, pureOp, apureO, astepO, appA_sl, appV, killT, aev, cv, cvc, binK, elO_s, loadA_d, elemsA, elemsN, Int.natCast_nonneg, Bool.false_eq_true, ↓reduceIte, List.getElem?_cons_zero, List.length_cons, List.length_nil, List.map_nil, List.nil_append, Option.map_some, Bool.true_and, true_and, Nat.reduceLT, Nat.reduceLeDiff, Nat.reduceEqDiff, Nat.zero_add, Ty.td3, Ty.td22, Ty.td98, show Int.toNat ((0 : Nat) : Int) = 0 from rfl, List.getElem?_map, hx, Nat.zero_mul, show ((0 : Nat) : Int) + 1 = 1 by omega, wrap_in (x := (1 : Int)) (by omega) (by omega)]
          refine hK (1, [], true) _ ⟨hlt', (fun h => by cases h), fun _ => hlt', by simp [hs], by simp [hs], fun _ => by simp [hs]⟩ (by simp only; omega) ?_ rfl rfl
          simp only [slot_is, aev, cv, cvc, Weak, ↓reduceIte, List.length_nil, Bool.and_true, Bool.and_self, and_true, and_self, reduceCtorEq, Nat.reduceEqDiff, catS, hs]; simp
        · exact absurd hge (by omega)
      | true =>
        have hpA := hp rfl
        simp only [awp_reg, awp_seq, awp_cond, seqQ_n, awpOps_nil, awpOps_one, awpOp_is, putK_is, put_s, slot_is, pureOp, apureO, aev, cv, cvc, binK, ↓reduceIte, Bool.true_and, true_and, Nat.reduceEqDiff, catS, catH]
        refine condA_dec (fun hlt => ?_) (fun hge => ?_)
        · have hlt' : k < A.length := by omega
          have hx : A[k]? = some A[k] := List.getElem?_eq_getElem hlt'
          have hs := flatK_step hlt'
          have hle := flatK_le A (k + 1)
          generalize A[k] = x at *
          rw [hs, List.length_append] at hle
          simp only [awp_skip, awp_reg, awp_seq, awp_block, seqQ_n, loopQ_n, blkQ_n, awpOps_nil, awpOps_one, awpOp_is, isCallV, putK_is, updK_is, put_s, upd_s, slot_is, pureOp, apureO, astepO, appA_sl, appV, killT, killB, killH, aev, cv, cvc, binK, elO_s, loadA_d, elemsA, elemsN, rowE, killV_c, killV_sl, killV_own, killV_dptr, Int.natCast_nonneg, Bool.false_eq_true, ↓reduceIte, List.getElem?_cons_zero, List.length_cons, List.length_nil, List.map_cons, List.map_nil, List.set_cons_zero, Option.map_some, Bool.true_and, Bool.and_self, Bool.or_false, true_and, and_self, Nat.reduceLT, Nat.reduceEqDiff, Nat.zero_add, List.mem_cons, List.not_mem_nil, or_false, Int.toNat_natCast, List.getElem?_nil, Ty.td3, Ty.td22, Ty.td98, List.getElem?_map, hx, List.length_map, ht, hl, wrap_in (x := (k : Int) + 1) (by omega) (by omega)]
          refine ⟨by omega, by omega, ?_⟩
          refine hK (k + 1, (flatK A k).map enc ++ x.map enc, true) _ ⟨hlt', (fun h => by cases h), fun _ => hpA, by rw [hs, List.map_append, List.take_of_length_le (by simp)], by simp [hs], fun _ => by rw [hs, List.map_append]⟩ (by simp only; omega) ?_ rfl rfl
          simp only [slot_is, aev, cv, cvc, Weak, ↓reduceIte, Bool.and_true, Bool.and_self, and_true, and_self, reduceCtorEq, Nat.reduceEqDiff, catS, hs, List.length_append]
          simp
        · have hk' : k = A.length := by omega
          subst hk'
          have he' := he (by omega)
          rw [flatK_all] at he' ht hl ⊢
          simp only [awp_reg, awp_seq, awp_exit, awp_ret, seqQ_n, seqQ_e, loopQ_e, blkQ_e, awpOps_nil, awpOps_one, awpOp_is, retO_is, putK_is, put_s, slot_is, pureOp, apureO, aev, cv, cvc, notExit, resA_nil, resA_tmp, oneA_1, ↓reduceIte, List.length_cons, List.length_nil, Bool.true_and, true_and, Nat.reduceEqDiff, Nat.zero_add, Nat.le_refl, he']
          simp [WeakH, refsV, refsH, hT]
end Go.Proofs.Ytimagnkdgpfamaa.B13
