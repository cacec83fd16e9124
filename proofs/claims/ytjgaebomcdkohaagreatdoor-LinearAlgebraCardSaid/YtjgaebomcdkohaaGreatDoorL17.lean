/- Linear expressions: their order, in the program and in its reference. -/
import Derived.Test.YtjgaebomcdkohaaGreatDoorL16
namespace Go.Proofs.YtjgaebomcdkohaaGreatDoor.L17
open Go Go.Proofs.YtjgaebomcdkohaaGreatDoor.Eng Go.Proofs.YtjgaebomcdkohaaGreatDoor Go.RowKit Go.Proofs.YtjgaebomcdkohaaGreatDoor.L1 Go.Proofs.YtjgaebomcdkohaaGreatDoor.L2 Go.Proofs.YtjgaebomcdkohaaGreatDoor.L3 Go.Proofs.YtjgaebomcdkohaaGreatDoor.L4 Go.Proofs.YtjgaebomcdkohaaGreatDoor.L5 Go.Proofs.YtjgaebomcdkohaaGreatDoor.L6 Go.Proofs.YtjgaebomcdkohaaGreatDoor.L16
set_option linter.unusedSimpArgs false
set_option linter.unusedVariables false
set_option linter.unusedSectionVars false
set_option maxRecDepth 100000

theorem lessS (a b : ByteArray) : Op.bytesLess a.toList b.toList = decide (bs a < bs b) := by rw [ByteArray.toList_eq, ByteArray.toList_eq, Go.Proofs.bytesLess_eq]
theorem eqS (a b : ByteArray) : (a.toList == b.toList) = decide (bs a = bs b) := by rw [ByteArray.toList_eq, ByteArray.toList_eq, Bool.eq_iff_iff]; simp
theorem nanS (s : ByteArray) : Meets Tryz.prog 95 [S s] (B false) := by
  refine meets_of (X := false) Ty.mixed Tryz.func95 (by kernel_rfl) rfl (by kernel_rfl) (by simp) ?_; rw [Tryz.ntmps95, Tryz.results95]
  simp only [awp_reg, awp_seq, awp_ret, seqQ_n, awpOps_nil, awpOps_one, awpOp_is, putK_is, put_s, slot_is, retA_is, pureOp, apureO, aev, cv, cvc, binK, toD_c, notExit, resA_nil, resA_tmp, oneA_1, argT, isC, bsD, ↓reduceIte, Bool.true_and, true_and, reduceCtorEq, Nat.reduceEqDiff]
  simp
theorem nanI (n : Int) : Meets Tryz.prog 96 [I n] (B false) := by
  refine meets_of (X := false) Ty.mixed Tryz.func96 (by kernel_rfl) rfl (by kernel_rfl) (by simp) ?_; rw [Tryz.ntmps96, Tryz.results96]
  simp only [awp_reg, awp_seq, awp_ret, seqQ_n, awpOps_nil, awpOps_one, awpOp_is, putK_is, put_s, slot_is, retA_is, pureOp, apureO, aev, cv, cvc, binK, toD_c, notExit, resA_nil, resA_tmp, oneA_1, argT, isC, bsD, ↓reduceIte, Bool.true_and, true_and, reduceCtorEq, Nat.reduceEqDiff]
  simp
theorem cmpStr (a b : ByteArray) : Meets Tryz.prog 69 [S a, S b] (I (sgS a b)) := by
  unfold sgS
  refine meets_of (X := false) Ty.mixed Tryz.func69 (by kernel_rfl) rfl (by kernel_rfl) (by simp) ?_; rw [Tryz.ntmps69, Tryz.results69]
  simp only [awp_reg, awp_seq, seqQ_n, awpOps_nil, awpOps_one, awpOp_is, isCallV, callW_is, callV_is, putK_is, put_s, slot_is, pureOp, apureO, aev, cv, cvc, argT, isC, bsD, Bool.false_eq_true, ↓reduceIte, List.map_cons, List.map_nil, List.append_nil, reduceCtorEq, Nat.zero_add]
  refine call_meets (nanS a) (by simp only [aev, cv, cvc, toD_c, consO_some, toDL_nil, toDL_cons, isC, bsD] <;> rfl) ?_; simp only [awp_reg, awp_seq, seqQ_n, awpOps_nil, awpOps_one, awpOp_is, isCallV, callW_is, callV_is, putK_is, put_s, upd_s, slot_is, pureOp, apureO, killT, aev, cv, cvc, flat_c, ownsV_c, ownsL_nil, ownsL_cons, isC, bsD, Bool.false_eq_true, ↓reduceIte, List.map_cons, List.map_nil, List.append_nil, Bool.or_true, reduceCtorEq, Nat.reduceEqDiff, List.isEmpty_nil]
  refine call_meets (nanS b) (by simp only [aev, cv, cvc, toD_c, consO_some, toDL_nil, toDL_cons, isC, bsD] <;> rfl) ?_; simp only [awp_skip, awp_reg, awp_seq, awp_cond, seqQ_n, awpOps_nil, awpOps_one, awpOp_is, putK_is, put_s, upd_s, slot_is, pureOp, apureO, killT, aev, cv, cvc, binK, condA_f, flat_c, ownsV_c, ownsL_nil, ownsL_cons, isC, bsD, ↓reduceIte, List.append_nil, Bool.or_true, reduceCtorEq, Nat.reduceEqDiff, List.isEmpty_nil]
  rcases sgL_cases (bs a) (bs b) with ⟨h, e⟩ | ⟨h, e⟩ | ⟨h, e⟩
  · rw [e]
    simp only [awp_reg, awp_seq, awp_ret, seqQ_n, seqQ_r, awpOps_nil, awpOps_one, awpOp_is, putK_is, put_s, slot_is, retA_is, pureOp, apureO, aev, cv, cvc, condA_t, toD_c, notExit, resA_nil, resA_tmp, oneA_1, isC, bsD, ↓reduceIte, Bool.and_self, and_self, lessS, decide_eq_true h]
  · rw [e]
    have h1 : ¬ bs a < bs b := fun h' => List.lt_irrefl (bs b) (by rw [h] at h'; exact h')
    simp only [awp_skip, awp_reg, awp_seq, awp_cond, awp_ret, seqQ_n, awpOps_nil, awpOps_one, awpOp_is, putK_is, put_s, slot_is, retA_is, pureOp, apureO, aev, cv, cvc, binK, condA_f, toD_c, notExit, resA_nil, resA_tmp, oneA_1, isC, bsD, ↓reduceIte, Bool.and_self, Bool.or_true, Bool.not_true, and_self, reduceCtorEq, Nat.reduceEqDiff, lessS, eqS, decide_eq_false h1, decide_eq_true h]
  · rw [e]
    have h1 : ¬ bs a < bs b := fun h' => List.lt_irrefl (bs a) (List.lt_trans h' h)
    have h2 : ¬ bs a = bs b := fun h' => List.lt_irrefl (bs b) (by rw [h'] at h; exact h)
    simp only [awp_skip, awp_reg, awp_seq, awp_cond, awp_ret, seqQ_n, seqQ_r, awpOps_nil, awpOps_one, awpOp_is, putK_is, put_s, slot_is, retA_is, pureOp, apureO, aev, cv, cvc, binK, condA_t, condA_f, toD_c, notExit, resA_nil, resA_tmp, oneA_1, isC, bsD, ↓reduceIte, Bool.and_self, Bool.or_false, Bool.not_false, and_self, reduceCtorEq, Nat.reduceEqDiff, or_false, lessS, eqS, decide_eq_false h1, decide_eq_false h2]
theorem cmpInt (a b : Int) : Meets Tryz.prog 70 [I a, I b] (I (sgI a b)) := by
  unfold sgI
  refine meets_of (X := false) Ty.mixed Tryz.func70 (by kernel_rfl) rfl (by kernel_rfl) (by simp) ?_; rw [Tryz.ntmps70, Tryz.results70]
  simp only [awp_reg, awp_seq, seqQ_n, awpOps_nil, awpOps_one, awpOp_is, isCallV, callW_is, callV_is, putK_is, put_s, slot_is, pureOp, apureO, aev, cv, cvc, argT, isC, bsD, Bool.false_eq_true, ↓reduceIte, List.map_cons, List.map_nil, List.append_nil, reduceCtorEq, Nat.zero_add]
  refine call_meets (nanI a) (by simp only [aev, cv, cvc, toD_c, consO_some, toDL_nil, toDL_cons, isC, bsD] <;> rfl) ?_; simp only [awp_reg, awp_seq, seqQ_n, awpOps_nil, awpOps_one, awpOp_is, isCallV, callW_is, callV_is, putK_is, put_s, upd_s, slot_is, pureOp, apureO, killT, aev, cv, cvc, flat_c, ownsV_c, ownsL_nil, ownsL_cons, isC, bsD, Bool.false_eq_true, ↓reduceIte, List.map_cons, List.map_nil, List.append_nil, Bool.or_true, reduceCtorEq, Nat.reduceEqDiff, List.isEmpty_nil]
  refine call_meets (nanI b) (by simp only [aev, cv, cvc, toD_c, consO_some, toDL_nil, toDL_cons, isC, bsD] <;> rfl) ?_; simp only [awp_skip, awp_reg, awp_seq, awp_cond, seqQ_n, awpOps_nil, awpOps_one, awpOp_is, putK_is, put_s, upd_s, slot_is, pureOp, apureO, killT, aev, cv, cvc, binK, condA_f, flat_c, ownsV_c, ownsL_nil, ownsL_cons, isC, bsD, ↓reduceIte, List.append_nil, Bool.true_and, Bool.or_true, true_and, reduceCtorEq, Nat.reduceEqDiff, List.isEmpty_nil]
  by_cases h1 : a < b
  · rw [if_pos h1]
    simp only [awp_reg, awp_seq, awp_ret, seqQ_n, seqQ_r, awpOps_nil, awpOps_one, awpOp_is, putK_is, put_s, slot_is, retA_is, pureOp, apureO, aev, cv, cvc, condA_t, toD_c, notExit, resA_nil, resA_tmp, oneA_1, isC, bsD, ↓reduceIte, Bool.and_self, and_self, decide_eq_true h1]
  · rw [if_neg h1]
    by_cases h2 : b < a
    · rw [if_pos h2]
      simp only [awp_skip, awp_reg, awp_seq, awp_cond, awp_ret, seqQ_n, seqQ_r, awpOps_nil, awpOps_one, awpOp_is, putK_is, put_s, slot_is, retA_is, pureOp, apureO, aev, cv, cvc, binK, condA_t, condA_f, toD_c, notExit, resA_nil, resA_tmp, oneA_1, isC, bsD, ↓reduceIte, Bool.and_self, and_self, reduceCtorEq, Nat.reduceEqDiff, decide_eq_false h1, decide_eq_true h2]
    · rw [if_neg h2]
      simp only [awp_skip, awp_reg, awp_seq, awp_cond, awp_ret, seqQ_n, awpOps_nil, awpOps_one, awpOp_is, putK_is, put_s, slot_is, retA_is, pureOp, apureO, aev, cv, cvc, binK, condA_f, toD_c, notExit, resA_nil, resA_tmp, oneA_1, isC, bsD, ↓reduceIte, Bool.and_self, and_self, reduceCtorEq, Nat.reduceEqDiff, decide_eq_false h1, decide_eq_false h2]
theorem or_ (a b : Int) : Meets Tryz.prog 68 [.sl false 1 [[I a], [I b]]] (I (orI a b)) := by
  unfold orI
  refine meets_of (X := false) Ty.mixed Tryz.func68 (by kernel_rfl) rfl (by kernel_rfl) (by simp) ?_; rw [Tryz.ntmps68, Tryz.results68]
  simp only [awp_reg, awp_seq, awp_block, awp_loop, seqQ_n, awpOps_nil, awpOps_one, awpOp_is, putK_is, put_s, slot_is, pureOp, apureO, aev, cv, cvc, elO_s, lenA, lenK, argT, mlenA_sl, isC, bsD, ↓reduceIte, List.length_cons, List.length_nil, Bool.true_and, true_and, reduceCtorEq, Nat.reduceAdd, Nat.zero_add, Option.isSome_some, Ty.td122]
  refine loop_k (fun k : Nat => k ≤ 2 ∧ (1 ≤ k → a = 0) ∧ (2 ≤ k → b = 0)) (fun k => ⟨18, [(8, I k), (7, I (2 : Nat)), (6, .sl false 1 [[I a], [I b]]), (3, I 0)], []⟩) (fun k => 2 - k) 0 ⟨by omega, by omega, by omega⟩ (by simp only [slot_is, aev, cv, cvc, Weak, isC, bsD, ↓reduceIte, Bool.and_true, Bool.and_self, and_true, and_self, Nat.reduceEqDiff]; rfl) rfl rfl ?_
  rintro k ⟨hk, h1, h2⟩ K hK
  match k, hk with
  | 0, _ =>
    simp only [awp_skip, awp_reg, awp_seq, awp_cond, awp_block, seqQ_n, awpOps_nil, awpOps_one, awpOp_is, putK_is, put_s, slot_is, pureOp, apureO, aev, cv, cvc, binK, elO_s, loadA_d, condA_t, isC, bsD, Int.natCast_nonneg, Bool.false_eq_true, ↓reduceIte, List.getElem?_cons_zero, Bool.true_and, true_and, Nat.reduceEqDiff, Int.toNat_natCast, Ty.td3, Ty.td122, show decide (((0 : Nat) : Int) < ((2 : Nat) : Int)) = true from rfl]
    by_cases h : a = 0
    · subst h
      simp only [awp_skip, awp_reg, seqQ_n, loopQ_n, blkQ_n, awpOps_nil, awpOps_one, awpOp_is, putK_is, put_s, slot_is, pureOp, apureO, aev, cv, cvc, binK, condA_f, isC, bsD, ↓reduceIte, Bool.true_and, true_and, Nat.reduceEqDiff, show ((0 : Int) != 0) = false from rfl]
      refine hK 1 _ ⟨by omega, by omega, by omega⟩ (by omega) ?_ rfl rfl
      simp only [slot_is, aev, cv, cvc, Weak, isC, bsD, ↓reduceIte, Bool.and_true, Bool.and_self, and_true, and_self, Nat.reduceEqDiff]
      rfl
    · rw [if_neg h]
      simp only [awp_reg, awp_seq, awp_ret, seqQ_n, seqQ_r, loopQ_r, blkQ_r, awpOps_nil, awpOps_one, awpOp_is, putK_is, put_s, slot_is, retA_is, pureOp, apureO, aev, cv, cvc, condA_t, toD_c, notExit, resA_nil, resA_tmp, oneA_1, isC, bsD, ↓reduceIte, Bool.and_self, and_self, Nat.reduceEqDiff, show (a != 0) = true by simpa using h]
  | 1, _ =>
    obtain rfl := h1 (by omega)
    simp only [awp_skip, awp_reg, awp_seq, awp_cond, awp_block, seqQ_n, awpOps_nil, awpOps_one, awpOp_is, putK_is, put_s, slot_is, pureOp, apureO, aev, cv, cvc, binK, elO_s, loadA_d, condA_t, isC, bsD, Int.natCast_nonneg, Bool.false_eq_true, ↓reduceIte, List.getElem?_cons_zero, List.getElem?_cons_succ, Bool.true_and, true_and, Nat.reduceEqDiff, Int.toNat_natCast, Ty.td3, Ty.td122, show decide (((1 : Nat) : Int) < ((2 : Nat) : Int)) = true from rfl]
    by_cases h : b = 0
    · subst h
      simp only [awp_skip, awp_reg, seqQ_n, loopQ_n, blkQ_n, awpOps_nil, awpOps_one, awpOp_is, putK_is, put_s, slot_is, pureOp, apureO, aev, cv, cvc, binK, condA_f, isC, bsD, ↓reduceIte, Bool.true_and, true_and, Nat.reduceEqDiff, show ((0 : Int) != 0) = false from rfl]
      refine hK 2 _ ⟨by omega, by omega, by omega⟩ (by omega) ?_ rfl rfl
      simp only [slot_is, aev, cv, cvc, Weak, isC, bsD, ↓reduceIte, Bool.and_true, Bool.and_self, and_true, and_self, Nat.reduceEqDiff]
      rfl
    · simp only [awp_reg, awp_seq, awp_ret, seqQ_n, seqQ_r, loopQ_r, blkQ_r, awpOps_nil, awpOps_one, awpOp_is, putK_is, put_s, slot_is, retA_is, pureOp, apureO, aev, cv, cvc, condA_t, toD_c, notExit, resA_nil, resA_tmp, oneA_1, isC, bsD, ↓reduceIte, Bool.and_self, and_self, Nat.reduceEqDiff, show (b != 0) = true by simpa using h]
  | 2, _ =>
    obtain rfl := h1 (by omega)
    obtain rfl := h2 (by omega)
    simp only [awp_reg, awp_seq, awp_cond, awp_exit, awp_ret, seqQ_n, seqQ_e, loopQ_e, blkQ_e, awpOps_nil, awpOps_one, awpOp_is, putK_is, put_s, slot_is, retA_is, pureOp, apureO, aev, cv, cvc, binK, condA_f, toD_c, notExit, resA_nil, resA_tmp, oneA_1, isC, bsD, ↓reduceIte, Bool.and_self, and_self, Nat.reduceEqDiff, show decide (((2 : Nat) : Int) < ((2 : Nat) : Int)) = false from rfl]
theorem cl (s t : Tm) : Meets Tryz.prog 67 [.agg (tmV s), .agg (tmV t)] (I (cmpC s t)) := by
  unfold cmpC
  refine meets_of (X := false) Ty.mixed Tryz.func67 (by kernel_rfl) rfl (by kernel_rfl) (by simp) ?_; rw [Tryz.ntmps67, Tryz.results67]
  simp only [awp_reg, awp_regD, awp_seq, seqQ_n, awpOps_nil, awpOps_one, awpOp_is, isCallV, lastOnly_cons, putK_is, updK_is, put_s, upd_s, slot_is, keepOp, pureOp, apureO, astepO, killT, aev, cv, cvc, cellsA, cellOk, argT, isC, bsD, Bool.false_eq_true, ↓reduceIte, List.length_cons, List.length_nil, List.cons_append, List.nil_append, Bool.true_and, true_and, reduceCtorEq, Nat.reduceEqDiff, Nat.zero_add, List.isEmpty_cons]
  refine drawS_tail (by kernel_rfl) ?_; simp only [awpOpsD_one, isCallV, awpOpD_is, callWD_is, callVD_is, putK_is, put_s, slot_is, keepOp, pureOp, apureO, aev, cv, cvc, elO_s, loadA_p, isC, bsD, Bool.false_eq_true, ↓reduceIte, List.getElem?_cons_zero, List.getElem?_cons_succ, List.length_cons, List.length_nil, List.map_cons, List.map_nil, List.append_nil, Bool.true_and, true_and, ne_eq, not_false_eq_true, reduceCtorEq, Nat.reduceAdd, Nat.reduceEqDiff, Nat.zero_add, Ty.td9, Ty.td42]
  refine calld_meets (cmpStr s.1 t.1) (by simp only [aev, cv, cvc, toD_c, consO_some, toDL_nil, toDL_cons, isC, bsD] <;> rfl) (by simp only [aev, cv, cvc, flat_c, ownsV_c, ownsL_nil, ownsL_cons, isC, bsD, List.append_nil, Bool.or_true, List.isEmpty_nil]) ?_; simp only [awpOpsD_one, isCallV, awpOpD_is, callWD_is, callVD_is, putK_is, put_s, slot_is, keepOp, pureOp, apureO, aev, cv, cvc, elO_s, loadA_p, isC, bsD, Bool.false_eq_true, ↓reduceIte, List.getElem?_cons_zero, List.getElem?_cons_succ, List.length_cons, List.length_nil, List.map_cons, List.map_nil, List.append_nil, Bool.true_and, true_and, ne_eq, not_false_eq_true, reduceCtorEq, Nat.reduceAdd, Nat.reduceEqDiff, Nat.zero_add, Ty.td3, Ty.td42]
  refine calld_meets (cmpInt s.2 t.2) (by simp only [aev, cv, cvc, toD_c, consO_some, toDL_nil, toDL_cons, isC, bsD] <;> rfl) (by simp only [aev, cv, cvc, flat_c, ownsV_c, ownsL_nil, ownsL_cons, isC, bsD, List.append_nil, Bool.or_true, List.isEmpty_nil]) ?_; simp only [awpOps_one, awpOpsD_one, awpOp_is, isCallV, callW_is, callV_is, updK_is, put_s, upd_s, slot_is, slot.eq_1, keepOp, pureOp, astepO, bsEnd_is, killT, aev, cv, cvc, elO_s, cellsA, cellOk, setAll, fillA, chunk, isD_c, isDL_nil, isDL_cons, isC, bsD, Bool.false_eq_true, ↓reduceIte, List.length_cons, List.length_nil, List.map_cons, List.map_nil, List.cons_append, List.nil_append, List.append_nil, List.set_cons_zero, List.set_cons_succ, List.take_succ_cons, List.take_zero, List.drop_succ_cons, List.drop_zero, List.all_cons, List.all_nil, Bool.true_and, Bool.and_self, Value.oneCell', true_and, and_self, Nat.reduceAdd, Nat.reduceMul, Nat.reduceLT, Nat.reduceLeDiff, Nat.reduceEqDiff, Nat.reduceMod, Nat.zero_add, List.range_succ, List.range_zero, Nat.le_refl, List.take_nil, Ty.td3, Ty.td122]
  refine call_meets (or_ (sgS s.1 t.1) (sgI s.2 t.2)) (by simp only [aev, cv, cvc, elemsA, toD_own, consO_some, toDL_nil, toDL_cons, isC, bsD, ↓reduceIte, List.getElem?_cons_zero, List.getElem?_cons_succ, List.length_cons, List.length_nil, Option.map_some, List.take_succ_cons, Bool.and_self, and_self, Nat.reduceAdd, Nat.zero_add, Nat.le_refl, List.take_nil] <;> rfl) ?_; simp only [awp_ret, seqQ_n, awpOps_nil, awpOps_one, awpOp_is, putK_is, put_s, upd_s, slot_is, retA_is, pureOp, apureO, killT, aev, cv, cvc, flat_c, ownsV_own, ownsL_nil, ownsL_cons, toD_c, notExit, resA_nil, resA_tmp, oneA_1, isC, bsD, ↓reduceIte, List.append_nil, Bool.and_self, Bool.or_false, and_self, List.isEmpty_cons, or_false]

theorem cmpT_l {r : List Tm} {s : Tm} : cmpT (s :: r) [] = 1 := rfl
theorem cmpF (xs ys : List Tm) (hx : xs.length ≤ 1000000) (hy : ys.length ≤ 1000000) : Meets Tryz.prog 66 [tms xs, tms ys, .fn 67 []] (I (cmpT xs ys)) := by
  refine meets_of (X := false) Ty.mixed Tryz.func66 (by kernel_rfl) rfl (by kernel_rfl) (by simp) ?_; rw [Tryz.ntmps66, Tryz.results66]
  simp only [awp_reg, awp_seq, awp_block, awp_loop, seqQ_n, awpOps_nil, awpOps_one, awpOp_is, putK_is, put_s, slot_is, pureOp, apureO, aev, cv, cvc, elO_s, lenA, lenK, argT, mlenA_sl, isC, bsD, ↓reduceIte, Bool.true_and, true_and, reduceCtorEq, Nat.reduceAdd, Nat.zero_add, Option.isSome_some, Ty.td22, List.length_map]
  refine loop_g (fun k : Nat => k ≤ xs.length ∧ k ≤ ys.length ∧ cmpT xs ys = cmpT (xs.drop k) (ys.drop k)) (fun k => ⟨39, [(13, I k), (12, I xs.length), (11, tms xs), (0, tms xs), (1, tms ys), (2, .fn 67 [])], []⟩) (fun k => xs.length - k) 0 ⟨Nat.zero_le _, Nat.zero_le _, rfl⟩ (by simp only [slot_is, aev, cv, cvc, Weak, isC, bsD, ↓reduceIte, Bool.and_true, Bool.and_self, and_true, and_self, reduceCtorEq, Nat.reduceEqDiff]; simp) rfl (.inl rfl) ?_
  rintro k ⟨h1, h2, h3⟩ K hK
  rw [h3]
  by_cases hlt : k < xs.length
  · have hs : xs[k]? = some xs[k] := List.getElem?_eq_getElem hlt
    rw [List.drop_eq_getElem_cons hlt] at h3 ⊢
    generalize xs[k] = s at *
    by_cases hly : k < ys.length
    · have ht : ys[k]? = some ys[k] := List.getElem?_eq_getElem hly
      rw [List.drop_eq_getElem_cons hly, cmpT, orI] at h3 ⊢
      generalize ys[k] = t at *
      simp only [awp_skip, awp_reg, awp_seq, awp_cond, awp_block, seqQ_n, awpOps_nil, awpOps_one, awpOp_is, isCallV, callW_is, callV_is, putK_is, updK_is, put_s, upd_n, upd_s, slot_is, pureOp, apureO, astepO, killT, aev, cv, cvc, binK, elO_s, lenA, lenK, loadA_d, loadA_p, storeA, cellsA, cellOk, setAll, condA_t, condA_f, mlenA_sl, isC, bsD, Int.natCast_nonneg, Bool.false_eq_true, ↓reduceIte, List.getElem?_cons_zero, List.getElem?_cons_succ, List.length_cons, List.length_nil, List.map_cons, List.map_nil, List.cons_append, List.nil_append, List.append_nil, List.set_cons_zero, List.set_cons_succ, Option.map_some, List.take_succ_cons, List.drop_zero, List.all_cons, List.all_nil, Bool.true_and, Bool.and_self, Value.oneCell', true_and, and_self, reduceCtorEq, Nat.reduceAdd, Nat.reduceEqDiff, Nat.zero_add, Int.toNat_natCast, Option.isSome_some, Nat.le_refl, List.take_nil, Ty.td22, Ty.td42, show decide ((k : Int) < (xs.length : Int)) = true from decide_eq_true (by omega), List.getElem?_map, List.length_map, hs, ht, show decide ((ys.length : Int) ≤ (k : Int)) = false from decide_eq_false (by omega)]
      refine call_meets (cl s t) (by simp only [aev, cv, cvc, toD_c, toD_agg, consO_some, toDL_nil, toDL_cons, isC, bsD, Option.map_some] <;> rfl) ?_; simp only [awp_reg, awp_seq, awp_cond, seqQ_n, awpOps_nil, awpOps_one, awpOp_is, putK_is, put_s, upd_s, slot_is, pureOp, apureO, killT, aev, cv, cvc, binK, flat_c, ownsV_c, ownsV_agg, ownsL_nil, ownsL_cons, isC, bsD, ↓reduceIte, List.append_nil, Bool.true_and, Bool.or_true, true_and, List.isEmpty_nil]
      by_cases hc : cmpC s t = 0
      · rw [if_pos hc] at h3
        simp only [awp_skip, awp_reg, seqQ_n, loopQ_n, blkQ_n, awpOps_nil, awpOps_one, awpOp_is, putK_is, put_s, slot_is, pureOp, apureO, aev, cv, cvc, binK, condA_f, isC, bsD, ↓reduceIte, Bool.true_and, true_and, Nat.reduceEqDiff, hc, show ((0 : Int) != 0) = false from rfl]
        rw [wrap_in (by omega) (by omega)]
        refine hK (k + 1) _ ⟨by omega, by omega, h3⟩ (by omega) ?_ rfl (.trim rfl rfl rfl)
        simp only [slot_is, aev, cv, cvc, Weak, isC, bsD, ↓reduceIte, Bool.and_true, Bool.and_self, and_true, and_self, reduceCtorEq, Nat.reduceEqDiff]
        simp
      · rw [if_neg hc]
        simp only [awp_reg, awp_seq, awp_ret, seqQ_n, seqQ_r, loopQ_r, blkQ_r, awpOps_nil, awpOps_one, awpOp_is, putK_is, put_s, slot_is, retA_is, pureOp, apureO, aev, cv, cvc, condA_t, toD_c, notExit, resA_nil, resA_tmp, oneA_1, isC, bsD, ↓reduceIte, Bool.and_self, and_self, Nat.reduceEqDiff, show (cmpC s t != 0) = true by simpa using hc]
    · have h0 : ys.drop k = [] := List.drop_eq_nil_of_le (by omega)
      rw [h0, cmpT_l]
      simp only [awp_skip, awp_reg, awp_seq, awp_cond, awp_block, awp_ret, seqQ_n, seqQ_r, loopQ_r, blkQ_r, awpOps_nil, awpOps_one, awpOp_is, isCallV, putK_is, updK_is, put_s, upd_n, upd_s, slot_is, retA_is, pureOp, apureO, astepO, killT, aev, cv, cvc, binK, elO_s, lenA, lenK, loadA_d, storeA, cellsA, cellOk, condA_t, toD_c, notExit, resA_nil, resA_tmp, oneA_1, mlenA_sl, isC, bsD, Int.natCast_nonneg, Bool.false_eq_true, ↓reduceIte, List.getElem?_cons_zero, List.length_cons, List.length_nil, List.nil_append, List.set_cons_zero, Option.map_some, List.take_succ_cons, List.all_cons, List.all_nil, Bool.and_true, Bool.true_and, Bool.and_self, Value.oneCell', true_and, and_true, and_self, reduceCtorEq, Nat.reduceAdd, Nat.reduceEqDiff, Nat.zero_add, Int.toNat_natCast, Option.isSome_some, Nat.le_refl, List.take_nil, Ty.td22, Ty.td42, show decide ((k : Int) < (xs.length : Int)) = true from decide_eq_true (by omega), List.getElem?_map, List.length_map, hs, show decide ((ys.length : Int) ≤ (k : Int)) = true from decide_eq_true (by omega)]
  · have h0 : xs.drop k = [] := List.drop_eq_nil_of_le (by omega)
    rw [h0]
    by_cases hly : k < ys.length
    · rw [List.drop_eq_getElem_cons hly]
      simp only [awp_reg, awp_seq, awp_cond, awp_exit, awp_ret, seqQ_n, seqQ_r, seqQ_e, loopQ_e, blkQ_e, awpOps_nil, awpOps_one, awpOp_is, putK_is, put_s, slot_is, retA_is, pureOp, apureO, aev, cv, cvc, binK, elO_s, lenA, lenK, condA_t, condA_f, toD_c, notExit, resA_nil, resA_tmp, oneA_1, mlenA_sl, isC, bsD, ↓reduceIte, Bool.true_and, true_and, reduceCtorEq, Nat.reduceEqDiff, Option.isSome_some, Ty.td22, show decide ((k : Int) < (xs.length : Int)) = false from decide_eq_false (by omega), List.length_map, show decide ((xs.length : Int) < (ys.length : Int)) = true from decide_eq_true (by omega)]
      rfl
    · have h0' : ys.drop k = [] := List.drop_eq_nil_of_le (by omega)
      rw [h0']
      simp only [awp_skip, awp_reg, awp_seq, awp_cond, awp_exit, awp_ret, seqQ_n, seqQ_e, loopQ_e, blkQ_e, awpOps_nil, awpOps_one, awpOp_is, putK_is, put_s, slot_is, retA_is, pureOp, apureO, aev, cv, cvc, binK, elO_s, lenA, lenK, condA_f, toD_c, notExit, resA_nil, resA_tmp, oneA_1, mlenA_sl, isC, bsD, ↓reduceIte, Bool.true_and, true_and, reduceCtorEq, Nat.reduceEqDiff, Option.isSome_some, Ty.td22, show decide ((k : Int) < (xs.length : Int)) = false from decide_eq_false (by omega), List.length_map, show decide ((xs.length : Int) < (ys.length : Int)) = false from decide_eq_false (by omega)]
      rfl
theorem compare (c1 : Int) (t1 : List Tm) (c2 : Int) (t2 : List Tm) (h1 : t1.length ≤ 1000000) (h2 : t2.length ≤ 1000000) : Meets Tryz.prog 30 [ln c1 t1, ln c2 t2] (I (cmpE (c1, t1) (c2, t2))) := by
  unfold cmpE
  refine meets_of (X := false) Ty.mixed Tryz.func30 (by kernel_rfl) rfl (by kernel_rfl) (by simp) ?_; rw [Tryz.ntmps30, Tryz.results30]
  simp only [awp_reg, awp_seq, seqQ_n, awpOps_nil, awpOps_one, awpOp_is, isCallV, callW_is, callV_is, putK_is, updK_is, put_s, upd_s, slot_is, pureOp, apureO, astepO, killT, aev, cv, cvc, elO_s, loadA_p, cellsA, cellOk, argT, isC, bsD, Bool.false_eq_true, ↓reduceIte, List.getElem?_cons_zero, List.getElem?_cons_succ, List.length_cons, List.length_nil, List.map_cons, List.map_nil, List.cons_append, List.nil_append, List.append_nil, Bool.true_and, true_and, ne_eq, not_false_eq_true, reduceCtorEq, Nat.reduceAdd, Nat.reduceEqDiff, Nat.zero_add, Ty.td22, Ty.td24]
  refine call_meets (cmpF t1 t2 h1 h2) (by simp only [aev, cv, cvc, toD_sl, toD_fn, consO_some, toDL_nil, toDL_cons, isC, bsD, Option.map_some] <;> rfl) ?_; simp only [awp_reg, awp_seq, seqQ_n, awpOps_nil, awpOps_one, awpOp_is, isCallV, callW_is, callV_is, putK_is, put_s, upd_s, slot_is, pureOp, apureO, killT, aev, cv, cvc, elO_s, loadA_p, flat_c, ownsV_sl, ownsV_fn, ownsL_nil, ownsL_cons, isC, bsD, Bool.false_eq_true, ↓reduceIte, List.getElem?_cons_zero, List.getElem?_cons_succ, List.length_cons, List.length_nil, List.map_cons, List.map_nil, List.append_nil, Bool.true_and, Bool.or_true, true_and, ne_eq, not_false_eq_true, reduceCtorEq, Nat.reduceAdd, Nat.reduceEqDiff, Nat.zero_add, List.isEmpty_nil, Ty.td3, Ty.td24]
  refine call_meets (cmpInt c1 c2) (by simp only [aev, cv, cvc, toD_c, consO_some, toDL_nil, toDL_cons, isC, bsD] <;> rfl) ?_; simp only [awpOps_one, awpOp_is, isCallV, callW_is, callV_is, updK_is, upd_s, slot_is, slot.eq_1, pureOp, astepO, bsEnd_is, killT, aev, cv, cvc, elO_s, cellsA, cellOk, setAll, fillA, chunk, flat_c, isD_c, isDL_nil, isDL_cons, ownsV_c, ownsL_nil, ownsL_cons, isC, bsD, Bool.false_eq_true, ↓reduceIte, List.length_cons, List.length_nil, List.map_cons, List.map_nil, List.cons_append, List.nil_append, List.append_nil, List.set_cons_zero, List.set_cons_succ, List.take_succ_cons, List.take_zero, List.drop_succ_cons, List.drop_zero, List.all_cons, List.all_nil, Bool.true_and, Bool.and_self, Bool.or_true, Value.oneCell', true_and, and_self, Nat.reduceAdd, Nat.reduceMul, Nat.reduceLT, Nat.reduceLeDiff, Nat.reduceEqDiff, Nat.reduceMod, Nat.zero_add, List.isEmpty_nil, List.range_succ, List.range_zero, Nat.le_refl, List.take_nil, Ty.td3, Ty.td122]
  refine call_meets (or_ (cmpT t1 t2) (sgI c1 c2)) (by simp only [aev, cv, cvc, elemsA, toD_own, consO_some, toDL_nil, toDL_cons, isC, bsD, ↓reduceIte, List.getElem?_cons_zero, List.getElem?_cons_succ, List.length_cons, List.length_nil, Option.map_some, List.take_succ_cons, Bool.and_self, and_self, Nat.reduceAdd, Nat.zero_add, Nat.le_refl, List.take_nil] <;> rfl) ?_; simp only [awp_ret, seqQ_n, awpOps_nil, awpOps_one, awpOp_is, putK_is, put_s, upd_s, slot_is, retA_is, pureOp, apureO, killT, aev, cv, cvc, flat_c, ownsV_own, ownsL_nil, ownsL_cons, toD_c, notExit, resA_nil, resA_tmp, oneA_1, isC, bsD, ↓reduceIte, List.append_nil, Bool.and_self, Bool.or_false, and_self, List.isEmpty_cons, or_false]

/-! The reference. -/
theorem few14 (c : Int) (ts : List Tm) (m : Nat) (hm : m ≤ 1000) (hl : ts.length ≤ 9223372036854775807) : Meets Tryz.prog 19 [ln c ts, I m] (B (ts.all (fun t => decide (t.1.size ≤ 40)) && decide (ts.length ≤ m))) := by
  refine meets_of (X := true) Ty.mixed Tryz.func19 (by kernel_rfl) rfl (by kernel_rfl) (by simp) ?_; rw [Tryz.ntmps19, Tryz.results19]
  simp only [awp_reg, awp_seq, awp_block, awp_loop, seqQ_n, awpOps_nil, awpOps_one, awpOp_is, isCallV, putK_is, updK_is, put_s, upd_s, slot_is, pureOp, apureO, astepO, killT, aev, cv, cvc, cellsA, cellOk, argT, isC, bsD, Bool.false_eq_true, ↓reduceIte, List.length_nil, List.nil_append, Bool.true_and, true_and, Nat.zero_add]
  refine loop_g (fun k : Nat => k ≤ ts.length ∧ ts.all (fun t => decide (t.1.size ≤ 40)) = (ts.drop k).all (fun t => decide (t.1.size ≤ 40))) (fun k => ⟨26, [(5, I k), (2, .ptr 0 0), (1, I m)], [some (.var 24 [I c, tms ts])]⟩) (fun k => ts.length - k) 0 ⟨Nat.zero_le _, rfl⟩ (by simp only [slot_is, aev, cv, cvc, Weak, isC, bsD, ↓reduceIte, Bool.and_true, Bool.and_self, and_true, and_self, reduceCtorEq, Nat.reduceEqDiff]; rfl) rfl (.inl rfl) ?_
  rintro k ⟨h1, h2⟩ K hK
  rw [h2]
  by_cases hlt : k < ts.length
  · have ht : ts[k]? = some ts[k] := List.getElem?_eq_getElem hlt
    rw [List.drop_eq_getElem_cons hlt, List.all_cons] at h2 ⊢
    generalize ts[k] = t at *
    by_cases h40 : t.1.size ≤ 40
    · rw [decide_eq_true h40, Bool.true_and] at h2
      simp only [awp_skip, awp_reg, awp_seq, awp_cond, awp_block, seqQ_n, loopQ_n, blkQ_n, awpOps_nil, awpOps_one, awpOp_is, putK_is, put_s, slot_is, pureOp, apureO, aev, cv, cvc, binK, elO_s, lenA, lenK, loadA_d, loadA_p, condA_t, condA_f, mlenA_c, mlenA_sl, isC, bsD, Int.natCast_nonneg, Bool.false_eq_true, ↓reduceIte, List.getElem?_cons_zero, List.getElem?_cons_succ, List.length_cons, List.length_nil, Option.map_some, List.drop_zero, Bool.true_and, true_and, ne_eq, not_false_eq_true, reduceCtorEq, Nat.reduceAdd, Nat.reduceEqDiff, Nat.zero_add, Int.toNat_natCast, Option.isSome_some, Ty.td9, Ty.td22, Ty.td24, Ty.td42, show decide ((k : Int) < (ts.length : Int)) = true from decide_eq_true (by omega), List.getElem?_map, List.length_map, ht, show decide ((40 : Int) < (t.1.size : Int)) = false from decide_eq_false (by omega)]
      rw [wrap_in (by omega) (by omega)]
      refine hK (k + 1) _ ⟨by omega, h2⟩ (by omega) ?_ rfl (.inl rfl)
      simp only [slot_is, aev, cv, cvc, Weak, isC, bsD, ↓reduceIte, Bool.and_true, Bool.and_self, and_true, and_self, Nat.reduceEqDiff]
      simp
    · rw [decide_eq_false h40, Bool.false_and, Bool.false_and]
      simp only [awp_skip, awp_reg, awp_seq, awp_cond, awp_block, awp_ret, seqQ_n, seqQ_r, loopQ_r, blkQ_r, awpOps_nil, awpOps_one, awpOp_is, putK_is, put_s, slot_is, retA_is, pureOp, apureO, aev, cv, cvc, binK, elO_s, lenA, lenK, loadA_d, loadA_p, condA_t, toD_c, notExit, resA_nil, resA_tmp, oneA_1, mlenA_c, mlenA_sl, isC, bsD, Int.natCast_nonneg, Bool.false_eq_true, ↓reduceIte, List.getElem?_cons_zero, List.getElem?_cons_succ, List.length_cons, List.length_nil, Option.map_some, List.drop_zero, Bool.and_true, Bool.true_and, Bool.and_self, true_and, and_true, and_self, ne_eq, not_false_eq_true, reduceCtorEq, Nat.reduceAdd, Nat.reduceEqDiff, Nat.zero_add, Int.toNat_natCast, Option.isSome_some, Ty.td9, Ty.td22, Ty.td24, Ty.td42, show decide ((k : Int) < (ts.length : Int)) = true from decide_eq_true (by omega), List.getElem?_map, List.length_map, ht, show decide ((40 : Int) < (t.1.size : Int)) = true from decide_eq_true (by omega)]
  · have h0 : ts.drop k = [] := List.drop_eq_nil_of_le (by omega)
    rw [h0]
    simp only [awp_reg, awp_seq, awp_cond, awp_exit, awp_ret, seqQ_n, seqQ_e, loopQ_e, blkQ_e, awpOps_nil, awpOps_one, awpOp_is, putK_is, put_s, slot_is, retA_is, pureOp, apureO, aev, cv, cvc, binK, elO_s, lenA, lenK, loadA_p, condA_f, toD_c, notExit, resA_nil, resA_tmp, oneA_1, mlenA_sl, isC, bsD, Bool.false_eq_true, ↓reduceIte, List.getElem?_cons_zero, List.getElem?_cons_succ, List.length_cons, List.length_nil, List.all_nil, Bool.true_and, true_and, ne_eq, not_false_eq_true, reduceCtorEq, Nat.reduceAdd, Nat.reduceEqDiff, Nat.zero_add, Option.isSome_some, Ty.td22, Ty.td24, show decide ((k : Int) < (ts.length : Int)) = false from decide_eq_false (by omega), List.length_map]
    simp
theorem refCompare (c1 : Int) (t1 : List Tm) (c2 : Int) (t2 : List Tm) (h1 : t1.length ≤ 1000000) (h2 : t2.length ≤ 1000000) : Meets Tryz.prog 31 [ln c1 t1, ln c2 t2] (I (cmpE (c1, t1) (c2, t2))) := by
  unfold cmpE
  simp only
  refine meets_of (X := true) Ty.mixed Tryz.func31 (by kernel_rfl) rfl (by kernel_rfl) (by simp) ?_; rw [Tryz.ntmps31, Tryz.results31]
  simp only [awp_reg, awp_seq, awp_block, awp_loop, seqQ_n, awpOps_nil, awpOps_one, awpOp_is, isCallV, putK_is, updK_is, put_s, upd_s, slot_is, pureOp, apureO, astepO, killT, aev, cv, cvc, cellsA, cellOk, argT, isC, bsD, Bool.false_eq_true, ↓reduceIte, List.length_cons, List.length_nil, List.cons_append, List.nil_append, Bool.true_and, true_and, reduceCtorEq, Nat.reduceEqDiff, Nat.zero_add]
  refine loop_g (fun k : Nat => k ≤ t1.length ∧ k ≤ t2.length ∧ cmpT t1 t2 = cmpT (t1.drop k) (t2.drop k)) (fun k => ⟨95, [(5, I k), (3, .ptr 1 0), (2, .ptr 0 0)], [some (.var 24 [I c1, tms t1]), some (.var 24 [I c2, tms t2])]⟩) (fun k => t1.length - k) 0 ⟨Nat.zero_le _, Nat.zero_le _, rfl⟩ (by simp only [slot_is, aev, cv, cvc, Weak, isC, bsD, ↓reduceIte, Bool.and_true, Bool.and_self, and_true, and_self, Nat.reduceEqDiff]; rfl) rfl (.inl rfl) ?_
  rintro k ⟨hk1, hk2, h3⟩ K hK
  rw [h3]
  by_cases hlt : k < t1.length
  · have hs : t1[k]? = some t1[k] := List.getElem?_eq_getElem hlt
    rw [List.drop_eq_getElem_cons hlt] at h3 ⊢
    generalize t1[k] = s at *
    by_cases hly : k < t2.length
    · have ht : t2[k]? = some t2[k] := List.getElem?_eq_getElem hly
      rw [List.drop_eq_getElem_cons hly, cmpT] at h3 ⊢
      generalize t2[k] = t at *
      simp only [awp_regX, awp_skip, awp_reg, awp_seq, awp_cond, awp_block, seqQ_n, awpOps_nil, awpOps_one, awpOps_if, awpOp_is, awpO_is, putK_is, put_s, slot_is, pureOp, apureO, aev, cv, cvc, binK, elO_s, lenA, lenK, loadA_p, yieldA, guardA_tt, condA_t, pickA_t, mlenA_sl, isC, bsD, Bool.false_eq_true, ↓reduceIte, List.getElem?_cons_zero, List.getElem?_cons_succ, List.length_cons, List.length_nil, List.getElem?_toArray, Option.bind_some, Bool.true_and, true_and, ne_eq, not_false_eq_true, reduceCtorEq, Nat.reduceAdd, Nat.reduceEqDiff, Nat.zero_add, Option.isSome_some, Ty.td22, Ty.td24, show decide ((k : Int) < (t1.length : Int)) = true from decide_eq_true (by omega), show decide ((k : Int) < (t2.length : Int)) = true from decide_eq_true (by omega), List.length_map]
      refine drawS_wild ?_; simp (config := {maxSteps := 2000000}) only [awp_reg, awp_seq, awp_block, seqQ_n, awpOps_one, awpOps_if, awpOp_is, isCallV, putK_is, put_s, slot_is, pureOp, apureO, astepO, killT, killB, aev, cv, cvc, binK, elO_s, loadA_d, loadA_p, storeA, cellsA, cellOk, setAll, yieldA, killV_c, killV_sl, killL_nil, killL_cons, eqFK_nil, isC, bsD, Int.natCast_nonneg, Bool.false_eq_true, ↓reduceIte, List.getElem?_cons_zero, List.getElem?_cons_succ, List.length_cons, List.length_nil, List.map_cons, List.map_nil, List.cons_append, List.nil_append, List.append_nil, List.set_cons_zero, List.set_cons_succ, List.getElem?_toArray, Option.bind_some, Option.map_some, List.take_succ_cons, List.drop_succ_cons, List.drop_zero, List.all_cons, List.all_nil, Bool.true_and, Bool.and_self, Bool.or_true, Bool.true_or, Bool.false_or, Bool.or_false, Value.oneCell', true_and, and_self, ne_eq, not_false_eq_true, reduceCtorEq, Nat.reduceAdd, Nat.reduceLT, Nat.reduceLeDiff, Nat.reduceEqDiff, Nat.zero_add, List.mem_cons, List.not_mem_nil, or_false, false_or, Int.toNat_natCast, List.range_succ, List.range_zero, decide_true, List.zipIdx_cons, List.zipIdx_nil, Nat.le_refl, List.drop_nil, List.take_nil, List.any_cons, List.any_nil, true_or, awpW_nil, awpW_one, wRun_is, wOp_is, keepK_is, stepK_is, contW_is, nextW_n, nextW_s, confs_nil, confs_cons, conf_is, meet_nil, meet_cons, opV_move, opV_alloc, opV_load, opV_fieldAddr, opV_store, opV_indexAddr, tch_move, tch_alloc, tch_load, tch_fieldAddr, tch_indexAddr, tch_store, rd_move, rd_alloc, rd_load, rd_fieldAddr, rd_indexAddr, rd_store, namesV_c, namesV_junk, namesV_sl, namesV_dptr, namesV_ptr, namesV_agg, namesL_nil, namesL_cons, namesH_nil, namesH_cons, namesB_var, namesB_none, killO_s, allLt_is, maskH_is, mergeH_is, setH_is, newL_is, refsT, refsH, refsV, refsL, Bool.or_self, true_or, Nat.reduceBEq, Ty.td9, Ty.td22, Ty.td24, Ty.td42, List.getElem?_map, hs, ht]
      refine ⟨by kernel_rfl, ?_⟩
      unfold cmpC sgS at h3 ⊢
      rcases sgL_cases (bs s.1) (bs t.1) with ⟨h, e⟩ | ⟨h, e⟩ | ⟨h, e⟩
      · rw [e]
        simp only [awp_reg, awp_seq, awp_cond, awp_ret, seqQ_n, seqQ_r, loopQ_r, blkQ_r, awpOps_nil, awpOps_one, awpOps_if, awpOp_is, putK_is, put_s, slot_is, retA_is, pureOp, apureO, aev, cv, cvc, yieldA, guardA_no, guardA_ft, condA_t, pickA_t, toD_c, notExit, resA_nil, resA_tmp, oneA_1, isC, bsD, ↓reduceIte, List.getElem?_cons_zero, List.getElem?_cons_succ, List.getElem?_toArray, Option.bind_some, Bool.true_and, true_and, Nat.reduceEqDiff, lessS, decide_eq_true h]
        rfl
      · rw [e] at h3 ⊢
        have n1 : ¬ bs s.1 < bs t.1 := fun h' => List.lt_irrefl (bs t.1) (by rw [h] at h'; exact h')
        unfold sgI at h3 ⊢
        by_cases l1 : s.2 < t.2
        · rw [if_pos l1]
          simp only [awp_reg, awp_seq, awp_cond, awp_ret, seqQ_n, seqQ_r, loopQ_r, blkQ_r, awpOps_nil, awpOps_one, awpOps_if, awpOp_is, awpO_is, putK_is, put_s, slot_is, retA_is, pureOp, apureO, aev, cv, cvc, binK, elO_s, loadA_p, yieldA, guardA_tt, guardA_ff, condA_t, pickA_t, pickA_f, toD_c, notExit, resA_nil, resA_tmp, oneA_1, eqFK_nil, eqOpK_e, isC, bsD, Bool.false_eq_true, ↓reduceIte, List.getElem?_cons_zero, List.getElem?_cons_succ, List.length_cons, List.length_nil, List.getElem?_toArray, Option.bind_some, Bool.true_and, true_and, ne_eq, not_false_eq_true, reduceCtorEq, Nat.reduceAdd, Nat.reduceEqDiff, Nat.zero_add, Ty.td3, Ty.td9, Ty.td42, lessS, eqS, decide_eq_false n1, decide_eq_true h, decide_eq_true l1]
          rfl
        · by_cases l2 : t.2 < s.2
          · rw [if_neg l1, if_pos l2]
            simp only [awp_skip, awp_reg, awp_seq, awp_cond, awp_ret, seqQ_n, seqQ_r, loopQ_n, loopQ_r, blkQ_n, blkQ_r, awpOps_nil, awpOps_one, awpOps_if, awpOp_is, awpO_is, putK_is, put_s, slot_is, retA_is, pureOp, apureO, aev, cv, cvc, binK, elO_s, loadA_p, yieldA, guardA_tt, guardA_ff, condA_t, condA_f, pickA_t, pickA_f, toD_c, notExit, resA_nil, resA_tmp, oneA_1, eqCK, eqFK_nil, eqFK_cons, eqOpK_e, eqOpK_n, isC, bsD, Bool.false_eq_true, ↓reduceIte, List.getElem?_cons_zero, List.getElem?_cons_succ, List.length_cons, List.length_nil, List.getElem?_toArray, Option.bind_some, List.take_succ_cons, List.drop_zero, Bool.and_true, Bool.true_and, Bool.and_false, Bool.not_true, Bool.not_false, true_and, and_true, ne_eq, not_false_eq_true, reduceCtorEq, Nat.reduceAdd, Nat.reduceEqDiff, Nat.zero_add, Option.isSome_some, Option.isSome_none, Nat.le_refl, List.take_nil, Ty.td3, Ty.td9, Ty.td42, lessS, eqS, decide_eq_false n1, decide_eq_true h, decide_eq_false l1, show (s.2 == t.2) = false by simp; omega]
            rfl
          · rw [if_neg l1, if_neg l2] at h3
            simp only [awp_skip, awp_reg, awp_seq, awp_cond, seqQ_n, loopQ_n, blkQ_n, awpOps_nil, awpOps_one, awpOps_if, awpOp_is, awpO_is, putK_is, put_s, slot_is, pureOp, apureO, aev, cv, cvc, binK, elO_s, loadA_p, yieldA, guardA_tt, guardA_ff, condA_f, pickA_t, pickA_f, eqCK, eqFK_nil, eqFK_cons, eqOpK_e, eqOpK_n, isC, bsD, Bool.false_eq_true, ↓reduceIte, List.getElem?_cons_zero, List.getElem?_cons_succ, List.length_cons, List.length_nil, List.getElem?_toArray, Option.bind_some, List.take_succ_cons, List.drop_zero, Bool.and_true, Bool.true_and, Bool.not_true, true_and, and_true, ne_eq, not_false_eq_true, reduceCtorEq, Nat.reduceAdd, Nat.reduceEqDiff, Nat.zero_add, Option.isSome_some, Option.isSome_none, Nat.le_refl, List.take_nil, Ty.td3, Ty.td9, Ty.td42, lessS, eqS, decide_eq_false n1, decide_eq_true h, decide_eq_false l1, show (s.2 == t.2) = true by simp; omega]
            rw [wrap_in (by omega) (by omega)]
            refine hK (k + 1) _ ⟨by omega, by omega, h3⟩ (by omega) ?_ rfl (.trim rfl rfl rfl)
            simp only [slot_is, aev, cv, cvc, Weak, isC, bsD, ↓reduceIte, Bool.and_true, Bool.and_self, and_true, and_self, Nat.reduceEqDiff]
            simp
      · rw [e]
        have n1 : ¬ bs s.1 < bs t.1 := fun h' => List.lt_irrefl (bs s.1) (List.lt_trans h' h)
        have n2 : ¬ bs s.1 = bs t.1 := fun h' => List.lt_irrefl (bs t.1) (by rw [h'] at h; exact h)
        simp only [awp_reg, awp_seq, awp_cond, awp_ret, seqQ_n, seqQ_r, loopQ_r, blkQ_r, awpOps_nil, awpOps_one, awpOps_if, awpOp_is, awpO_is, putK_is, put_s, slot_is, retA_is, pureOp, apureO, aev, cv, cvc, binK, elO_s, loadA_p, yieldA, guardA_tt, guardA_tf, guardA_ff, condA_t, condA_f, pickA_t, pickA_f, toD_c, notExit, resA_nil, resA_tmp, oneA_1, eqCK, eqFK_nil, eqFK_cons, eqOpK_e, eqOpK_n, isC, bsD, Bool.false_eq_true, ↓reduceIte, List.getElem?_cons_zero, List.getElem?_cons_succ, List.length_cons, List.length_nil, List.getElem?_toArray, Option.bind_some, List.take_succ_cons, List.drop_zero, Bool.and_true, Bool.true_and, Bool.false_and, Bool.not_false, true_and, and_true, ne_eq, not_false_eq_true, reduceCtorEq, Nat.reduceAdd, Nat.reduceEqDiff, Nat.zero_add, Option.isSome_some, Option.isSome_none, Nat.le_refl, List.take_nil, Ty.td3, Ty.td9, Ty.td42, lessS, eqS, decide_eq_false n1, decide_eq_false n2]
        rfl
    · have h0 : t2.drop k = [] := List.drop_eq_nil_of_le (by omega)
      rw [h0, cmpT_l]
      simp only [awp_reg, awp_seq, awp_cond, awp_block, awp_exit, awp_ret, seqQ_n, seqQ_r, seqQ_e, loopQ_e, blkQ_r, blkQ_e, awpOps_nil, awpOps_one, awpOps_if, awpOp_is, awpO_is, putK_is, put_s, slot_is, retA_is, pureOp, apureO, aev, cv, cvc, binK, elO_s, lenA, lenK, loadA_p, yieldA, guardA_tt, guardA_tf, guardA_ft, guardA_ff, condA_t, condA_f, pickA_t, pickA_f, toD_c, notExit, resA_nil, resA_tmp, oneA_1, mlenA_sl, isC, bsD, Bool.false_eq_true, ↓reduceIte, List.getElem?_cons_zero, List.getElem?_cons_succ, List.length_cons, List.length_nil, List.getElem?_toArray, Option.bind_some, Bool.true_and, true_and, ne_eq, not_false_eq_true, reduceCtorEq, Nat.reduceAdd, Nat.reduceEqDiff, Nat.zero_add, Option.isSome_some, Ty.td22, Ty.td24, show decide ((k : Int) < (t1.length : Int)) = true from decide_eq_true (by omega), show decide ((k : Int) < (t2.length : Int)) = false from decide_eq_false (by omega), List.length_map, show decide ((t1.length : Int) < (t2.length : Int)) = false from decide_eq_false (by omega), show ((t1.length : Int) == (t2.length : Int)) = false by simp; omega, show decide ((t2.length : Int) < (t1.length : Int)) = true from decide_eq_true (by omega)]
      rfl
  · have h0 : t1.drop k = [] := List.drop_eq_nil_of_le (by omega)
    rw [h0]
    by_cases hly : k < t2.length
    · rw [List.drop_eq_getElem_cons hly]
      simp only [awp_reg, awp_seq, awp_cond, awp_block, awp_exit, awp_ret, seqQ_n, seqQ_r, seqQ_e, loopQ_e, blkQ_r, blkQ_e, awpOps_nil, awpOps_one, awpOps_if, awpOp_is, putK_is, put_s, slot_is, retA_is, pureOp, apureO, aev, cv, cvc, binK, elO_s, lenA, lenK, loadA_p, yieldA, guardA_no, guardA_tf, guardA_ft, condA_t, condA_f, pickA_t, pickA_f, toD_c, notExit, resA_nil, resA_tmp, oneA_1, mlenA_sl, isC, bsD, Bool.false_eq_true, ↓reduceIte, List.getElem?_cons_zero, List.getElem?_cons_succ, List.length_cons, List.length_nil, List.getElem?_toArray, Option.bind_some, Bool.true_and, true_and, ne_eq, not_false_eq_true, reduceCtorEq, Nat.reduceAdd, Nat.reduceEqDiff, Nat.zero_add, Option.isSome_some, Ty.td22, Ty.td24, show decide ((k : Int) < (t1.length : Int)) = false from decide_eq_false (by omega), List.length_map, show decide ((t1.length : Int) < (t2.length : Int)) = true from decide_eq_true (by omega)]
      rfl
    · have h0' : t2.drop k = [] := List.drop_eq_nil_of_le (by omega)
      rw [h0']
      unfold sgI
      by_cases l1 : c1 < c2
      · rw [if_pos l1]
        simp only [awp_reg, awp_seq, awp_cond, awp_block, awp_exit, awp_ret, seqQ_n, seqQ_r, seqQ_e, loopQ_e, blkQ_r, blkQ_e, awpOps_nil, awpOps_one, awpOps_if, awpOp_is, awpO_is, putK_is, put_s, slot_is, retA_is, pureOp, apureO, aev, cv, cvc, binK, elO_s, lenA, lenK, loadA_p, yieldA, guardA_tt, guardA_tf, guardA_ff, condA_t, condA_f, pickA_t, pickA_f, toD_c, notExit, resA_nil, resA_tmp, oneA_1, mlenA_sl, eqFK_nil, isC, bsD, Bool.false_eq_true, ↓reduceIte, List.getElem?_cons_zero, List.getElem?_cons_succ, List.length_cons, List.length_nil, List.getElem?_toArray, Option.bind_some, Bool.true_and, true_and, ne_eq, not_false_eq_true, reduceCtorEq, Nat.reduceAdd, Nat.reduceEqDiff, Nat.zero_add, Option.isSome_some, Ty.td3, Ty.td22, Ty.td24, show decide ((k : Int) < (t1.length : Int)) = false from decide_eq_false (by omega), List.length_map, show decide ((t1.length : Int) < (t2.length : Int)) = false from decide_eq_false (by omega), show ((t1.length : Int) == (t2.length : Int)) = true by simp; omega, decide_eq_true l1]
        rfl
      · by_cases l2 : c2 < c1
        · rw [if_neg l1, if_pos l2]
          simp only [awp_reg, awp_seq, awp_cond, awp_block, awp_exit, awp_ret, seqQ_n, seqQ_r, seqQ_e, loopQ_e, blkQ_r, blkQ_e, awpOps_nil, awpOps_one, awpOps_if, awpOp_is, awpO_is, putK_is, put_s, slot_is, retA_is, pureOp, apureO, aev, cv, cvc, binK, elO_s, lenA, lenK, loadA_p, yieldA, guardA_tt, guardA_tf, guardA_ff, condA_t, condA_f, pickA_t, pickA_f, toD_c, notExit, resA_nil, resA_tmp, oneA_1, mlenA_sl, eqFK_nil, isC, bsD, Bool.false_eq_true, ↓reduceIte, List.getElem?_cons_zero, List.getElem?_cons_succ, List.length_cons, List.length_nil, List.getElem?_toArray, Option.bind_some, Bool.true_and, true_and, ne_eq, not_false_eq_true, reduceCtorEq, Nat.reduceAdd, Nat.reduceEqDiff, Nat.zero_add, Option.isSome_some, Ty.td3, Ty.td22, Ty.td24, show decide ((k : Int) < (t1.length : Int)) = false from decide_eq_false (by omega), List.length_map, show decide ((t1.length : Int) < (t2.length : Int)) = false from decide_eq_false (by omega), show ((t1.length : Int) == (t2.length : Int)) = true by simp; omega, decide_eq_false l1, show decide ((t2.length : Int) < (t1.length : Int)) = false from decide_eq_false (by omega), decide_eq_true l2]
          rfl
        · rw [if_neg l1, if_neg l2]
          simp only [awp_skip, awp_reg, awp_seq, awp_cond, awp_block, awp_exit, awp_ret, seqQ_n, seqQ_e, loopQ_e, blkQ_n, blkQ_e, awpOps_nil, awpOps_one, awpOps_if, awpOp_is, awpO_is, putK_is, put_s, slot_is, retA_is, pureOp, apureO, aev, cv, cvc, binK, elO_s, lenA, lenK, loadA_p, yieldA, guardA_tt, guardA_tf, guardA_ff, condA_f, pickA_t, pickA_f, toD_c, notExit, resA_nil, resA_tmp, oneA_1, mlenA_sl, eqFK_nil, isC, bsD, Bool.false_eq_true, ↓reduceIte, List.getElem?_cons_zero, List.getElem?_cons_succ, List.length_cons, List.length_nil, List.getElem?_toArray, Option.bind_some, Bool.true_and, true_and, ne_eq, not_false_eq_true, reduceCtorEq, Nat.reduceAdd, Nat.reduceEqDiff, Nat.zero_add, Option.isSome_some, Ty.td3, Ty.td22, Ty.td24, show decide ((k : Int) < (t1.length : Int)) = false from decide_eq_false (by omega), List.length_map, show decide ((t1.length : Int) < (t2.length : Int)) = false from decide_eq_false (by omega), show ((t1.length : Int) == (t2.length : Int)) = true by simp; omega, decide_eq_false l1, show decide ((t2.length : Int) < (t1.length : Int)) = false from decide_eq_false (by omega), decide_eq_false l2]
          rfl
theorem refEqual (c1 : Int) (t1 : List Tm) (c2 : Int) (t2 : List Tm) (h1 : t1.length ≤ 1000000) (h2 : t2.length ≤ 1000000) : Meets Tryz.prog 18 [ln c1 t1, ln c2 t2] (B (eqE (c1, t1) (c2, t2))) := by
  rw [cmpE_zero]
  refine meets_of (X := false) Ty.mixed Tryz.func18 (by kernel_rfl) rfl (by kernel_rfl) (by simp) ?_; rw [Tryz.ntmps18, Tryz.results18]
  simp only [awp_reg, awp_seq, seqQ_n, awpOps_nil, awpOps_one, awpOp_is, isCallV, callW_is, callV_is, putK_is, updK_is, put_s, upd_s, slot_is, pureOp, apureO, astepO, killT, aev, cv, cvc, elO_s, loadA_p, cellsA, cellOk, argT, isC, bsD, Bool.false_eq_true, ↓reduceIte, List.getElem?_cons_zero, List.getElem?_cons_succ, List.length_cons, List.length_nil, List.map_cons, List.map_nil, List.cons_append, List.nil_append, List.append_nil, List.take_succ_cons, List.drop_zero, Bool.true_and, true_and, reduceCtorEq, Nat.reduceAdd, Nat.reduceEqDiff, Nat.zero_add, Nat.le_refl, List.take_nil, Ty.td24]
  refine call_meets (refCompare c1 t1 c2 t2 h1 h2) (by simp only [aev, cv, cvc, toD_c, toD_agg, toD_sl, consO_some, toDL_nil, toDL_cons, isC, bsD, Option.map_some] <;> rfl) ?_; simp only [awp_ret, seqQ_n, awpOps_nil, awpOps_one, awpOp_is, putK_is, put_s, upd_s, slot_is, retA_is, pureOp, apureO, killT, aev, cv, cvc, binK, flat_c, ownsV_c, ownsV_agg, ownsV_sl, ownsL_nil, ownsL_cons, toD_c, notExit, resA_nil, resA_tmp, oneA_1, isC, bsD, ↓reduceIte, List.append_nil, Bool.and_self, Bool.or_true, and_self, List.isEmpty_nil]
abbrev fewE (ts : List Tm) : Bool := ts.all (fun t => decide (t.1.size ≤ 40)) && decide (ts.length ≤ 14)
theorem few_ (c1 : Int) (t1 : List Tm) (c2 : Int) (t2 : List Tm) (h1 : t1.length ≤ 9223372036854775807) (h2 : t2.length ≤ 9223372036854775807) : Meets Tryz.prog 11 [ln c1 t1, ln c2 t2] (B (fewE t1 && fewE t2)) := by
  refine meets_of (X := false) Ty.mixed Tryz.func11 (by kernel_rfl) rfl (by kernel_rfl) (by simp) ?_; rw [Tryz.ntmps11, Tryz.results11]
  simp only [awp_reg, awp_seq, seqQ_n, awpOps_nil, awpOps_one, awpOp_is, isCallV, callW_is, callV_is, putK_is, updK_is, put_s, upd_s, slot_is, pureOp, apureO, astepO, killT, aev, cv, cvc, elO_s, loadA_p, cellsA, cellOk, argT, isC, bsD, Bool.false_eq_true, ↓reduceIte, List.getElem?_cons_zero, List.length_cons, List.length_nil, List.map_cons, List.map_nil, List.cons_append, List.nil_append, List.append_nil, List.take_succ_cons, List.drop_zero, Bool.true_and, true_and, reduceCtorEq, Nat.reduceAdd, Nat.reduceEqDiff, Nat.zero_add, Nat.le_refl, List.take_nil, Ty.td24]
  refine call_meets (few14 c1 t1 14 (by omega) h1) (by simp only [aev, cv, cvc, toD_c, toD_agg, toD_sl, consO_some, toDL_nil, toDL_cons, isC, bsD, Option.map_some] <;> rfl) ?_; simp only [awpOps_one, awpOps_if, awpOp_is, putK_is, put_s, upd_s, slot_is, pureOp, apureO, killT, aev, cv, cvc, yieldA, flat_c, ownsV_c, ownsV_agg, ownsV_sl, ownsL_nil, ownsL_cons, isC, bsD, ↓reduceIte, List.getElem?_cons_zero, List.getElem?_cons_succ, List.append_nil, List.getElem?_toArray, Option.bind_some, Bool.or_true, List.isEmpty_nil]
  cases h : fewE t1 with
  | false => simp only [awp_ret, seqQ_n, awpOps_nil, awpOps_one, awpOps_if, awpOp_is, putK_is, put_s, slot_is, retA_is, pureOp, apureO, aev, cv, cvc, yieldA, guardA_tf, pickA_f, toD_c, notExit, resA_nil, resA_tmp, oneA_1, isC, bsD, ↓reduceIte, List.getElem?_cons_zero, List.getElem?_cons_succ, List.getElem?_toArray, Option.bind_some, Bool.false_and, Bool.and_self, and_self, Nat.reduceEqDiff, h]
  | true =>
    simp only [awpOps_if, awpOp_is, isCallV, callW_is, callV_is, awpO_is, putK_is, put_s, slot_is, pureOp, apureO, aev, cv, cvc, elO_s, loadA_p, yieldA, guardA_tt, isC, bsD, Bool.false_eq_true, ↓reduceIte, List.getElem?_cons_zero, List.getElem?_cons_succ, List.length_cons, List.length_nil, List.map_cons, List.map_nil, List.append_nil, List.getElem?_toArray, Option.bind_some, List.take_succ_cons, List.drop_zero, Bool.true_and, true_and, Nat.reduceAdd, Nat.reduceEqDiff, Nat.zero_add, Nat.le_refl, List.take_nil, Ty.td24, h]
    refine call_meets (few14 c2 t2 14 (by omega) h2) (by simp only [aev, cv, cvc, toD_c, toD_agg, toD_sl, consO_some, toDL_nil, toDL_cons, isC, bsD, Option.map_some, h] <;> rfl) ?_; simp only [awp_ret, seqQ_n, awpOps_nil, awpOps_one, awpOp_is, putK_is, put_s, upd_s, slot_is, retA_is, pureOp, apureO, killT, aev, cv, cvc, pickA_t, flat_c, ownsV_c, ownsV_agg, ownsV_sl, ownsL_nil, ownsL_cons, toD_c, notExit, resA_nil, resA_tmp, oneA_1, isC, bsD, ↓reduceIte, List.append_nil, Bool.and_self, Bool.or_true, and_self, Nat.reduceEqDiff, List.isEmpty_nil, h]

end Go.Proofs.YtjgaebomcdkohaaGreatDoor.L17
