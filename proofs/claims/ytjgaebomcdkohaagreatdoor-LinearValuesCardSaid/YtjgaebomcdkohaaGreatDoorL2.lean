/- Linear expressions: names and what is valid, in the program. -/
import Derived.Test.YtjgaebomcdkohaaGreatDoorL1
namespace Go.Proofs.YtjgaebomcdkohaaGreatDoor.L2
open Go Go.Proofs.YtjgaebomcdkohaaGreatDoor.Eng Go.Proofs.YtjgaebomcdkohaaGreatDoor Go.RowKit Go.Proofs.YtjgaebomcdkohaaGreatDoor.L1
set_option linter.unusedSimpArgs false
set_option linter.unusedVariables false
set_option linter.unusedSectionVars false
set_option maxRecDepth 100000

theorem digit (x : Int) : Meets Tryz.prog 112 [U x] (B (digI x)) := by
  refine meets_of (X := false) Ty.mixed Tryz.func112 (by kernel_rfl) rfl (by kernel_rfl) (by simp) ?_; rw [Tryz.ntmps112, Tryz.results112]
  by_cases h : 48 ≤ x
  · simp only [awp_reg, awp_seq, awp_ret, seqQ_n, awpOps_nil, awpOps_one, awpOps_if, awpOp_is, awpO_is, putK_is, put_s, slot_is, retA_is, pureOp, apureO, aev, cv, cvc, binK, yieldA, guardA_tt, pickA_t, toD_c, notExit, resA_nil, resA_tmp, oneA_1, argT, isC, bsD, ↓reduceIte, List.getElem?_cons_zero, List.getElem?_cons_succ, List.getElem?_toArray, Option.bind_some, Bool.true_and, true_and, reduceCtorEq, Nat.reduceEqDiff, show decide (48 ≤ x) = true from decide_eq_true (by omega)]
    simp [digI, h]
  · simp only [awp_reg, awp_seq, awp_ret, seqQ_n, awpOps_nil, awpOps_one, awpOps_if, awpOp_is, putK_is, put_s, slot_is, retA_is, pureOp, apureO, aev, cv, cvc, binK, yieldA, guardA_tf, pickA_f, toD_c, notExit, resA_nil, resA_tmp, oneA_1, argT, isC, bsD, ↓reduceIte, List.getElem?_cons_zero, List.getElem?_cons_succ, List.getElem?_toArray, Option.bind_some, Bool.true_and, true_and, reduceCtorEq, Nat.reduceEqDiff, show decide (48 ≤ x) = false from decide_eq_false (by omega)]
    simp [digI, h]
theorem letter (x : Int) : Meets Tryz.prog 113 [U x] (B (letterI x)) := by
  refine meets_of (X := false) Ty.mixed Tryz.func113 (by kernel_rfl) rfl (by kernel_rfl) (by simp) ?_; rw [Tryz.ntmps113, Tryz.results113]
  by_cases h : 97 ≤ x
  · simp only [awp_reg, awp_seq, awp_ret, seqQ_n, awpOps_nil, awpOps_one, awpOps_if, awpOp_is, awpO_is, putK_is, put_s, slot_is, retA_is, pureOp, apureO, aev, cv, cvc, binK, yieldA, guardA_tt, pickA_t, toD_c, notExit, resA_nil, resA_tmp, oneA_1, argT, isC, bsD, ↓reduceIte, List.getElem?_cons_zero, List.getElem?_cons_succ, List.getElem?_toArray, Option.bind_some, Bool.true_and, true_and, reduceCtorEq, Nat.reduceEqDiff, show decide (97 ≤ x) = true from decide_eq_true (by omega)]
    simp [letterI, h]
  · simp only [awp_reg, awp_seq, awp_ret, seqQ_n, awpOps_nil, awpOps_one, awpOps_if, awpOp_is, putK_is, put_s, slot_is, retA_is, pureOp, apureO, aev, cv, cvc, binK, yieldA, guardA_tf, pickA_f, toD_c, notExit, resA_nil, resA_tmp, oneA_1, argT, isC, bsD, ↓reduceIte, List.getElem?_cons_zero, List.getElem?_cons_succ, List.getElem?_toArray, Option.bind_some, Bool.true_and, true_and, reduceCtorEq, Nat.reduceEqDiff, show decide (97 ≤ x) = false from decide_eq_false (by omega)]
    simp [letterI, h]
theorem nameByte (x : Int) : Meets Tryz.prog 114 [U x] (B (nbI x)) := by
  refine meets_of (X := false) Ty.mixed Tryz.func114 (by kernel_rfl) rfl (by kernel_rfl) (by simp) ?_; rw [Tryz.ntmps114, Tryz.results114]
  simp only [awp_reg, awp_seq, seqQ_n, awpOps_nil, awpOps_one, awpOp_is, isCallV, callW_is, callV_is, putK_is, put_s, slot_is, pureOp, apureO, aev, cv, cvc, argT, isC, bsD, Bool.false_eq_true, ↓reduceIte, List.map_cons, List.map_nil, List.append_nil, reduceCtorEq]
  refine call_meets (letter x) (by simp only [aev, cv, cvc, toD_c, consO_some, toDL_nil, toDL_cons, isC, bsD] <;> rfl) ?_; simp only [awpOps_one, awpOps_if, awpOp_is, putK_is, put_s, upd_s, slot_is, pureOp, apureO, killT, aev, cv, cvc, yieldA, flat_c, ownsV_c, ownsL_nil, ownsL_cons, isC, bsD, ↓reduceIte, List.getElem?_cons_zero, List.getElem?_cons_succ, List.append_nil, List.getElem?_toArray, Option.bind_some, Bool.or_true, List.isEmpty_nil]
  cases h : letterI x with
  | true => simp only [awp_ret, seqQ_n, awpOps_nil, awpOps_one, awpOps_if, awpOp_is, putK_is, put_s, slot_is, retA_is, pureOp, apureO, aev, cv, cvc, yieldA, guardA_ft, pickA_t, toD_c, notExit, resA_nil, resA_tmp, oneA_1, isC, bsD, ↓reduceIte, List.getElem?_cons_zero, List.getElem?_cons_succ, List.getElem?_toArray, Option.bind_some, Bool.and_self, Bool.true_or, and_self, Nat.reduceEqDiff, true_or, h, nbI]
  | false =>
    simp only [awpOps_if, awpOp_is, isCallV, callW_is, callV_is, awpO_is, putK_is, put_s, slot_is, pureOp, apureO, aev, cv, cvc, yieldA, guardA_ff, isC, bsD, Bool.false_eq_true, ↓reduceIte, List.getElem?_cons_zero, List.getElem?_cons_succ, List.map_cons, List.map_nil, List.append_nil, List.getElem?_toArray, Option.bind_some, reduceCtorEq, Nat.reduceEqDiff, h]
    refine call_meets (digit x) (by simp only [aev, cv, cvc, toD_c, consO_some, toDL_nil, toDL_cons, isC, bsD, h] <;> rfl) ?_; simp only [awp_ret, seqQ_n, awpOps_nil, awpOps_one, awpOp_is, putK_is, put_s, upd_s, slot_is, retA_is, pureOp, apureO, killT, aev, cv, cvc, pickA_f, flat_c, ownsV_c, ownsL_nil, ownsL_cons, toD_c, notExit, resA_nil, resA_tmp, oneA_1, isC, bsD, ↓reduceIte, List.append_nil, Bool.true_and, Bool.or_true, true_and, Nat.reduceEqDiff, List.isEmpty_nil, h]
    simp [nbI, h]
theorem fits (x : Int) : Meets Tryz.prog 42 [I x] (B (fitsI x)) := by
  refine meets_of (X := false) Ty.mixed Tryz.func42 (by kernel_rfl) rfl (by kernel_rfl) (by simp) ?_; rw [Tryz.ntmps42, Tryz.results42]
  by_cases h : -1000000 ≤ x
  · simp only [awp_reg, awp_seq, awp_ret, seqQ_n, awpOps_nil, awpOps_one, awpOps_if, awpOp_is, awpO_is, putK_is, put_s, slot_is, retA_is, pureOp, apureO, aev, cv, cvc, binK, yieldA, guardA_tt, pickA_t, toD_c, notExit, resA_nil, resA_tmp, oneA_1, argT, isC, bsD, ↓reduceIte, List.getElem?_cons_zero, List.getElem?_cons_succ, List.getElem?_toArray, Option.bind_some, Bool.true_and, true_and, reduceCtorEq, Nat.reduceEqDiff, show decide (-1000000 ≤ x) = true from decide_eq_true (by omega)]
    simp [fitsI, h]
  · simp only [awp_reg, awp_seq, awp_ret, seqQ_n, awpOps_nil, awpOps_one, awpOps_if, awpOp_is, putK_is, put_s, slot_is, retA_is, pureOp, apureO, aev, cv, cvc, binK, yieldA, guardA_tf, pickA_f, toD_c, notExit, resA_nil, resA_tmp, oneA_1, argT, isC, bsD, ↓reduceIte, List.getElem?_cons_zero, List.getElem?_cons_succ, List.getElem?_toArray, Option.bind_some, Bool.true_and, true_and, reduceCtorEq, Nat.reduceEqDiff, show decide (-1000000 ≤ x) = false from decide_eq_false (by omega)]
    simp [fitsI, h]

theorem span_drop (p : Int → Bool) {l : List UInt8} {k : Nat} (h : k < l.length) : spanN p (l.drop k) = if p l[k].toNat = true then spanN p (l.drop (k + 1)) + 1 else 0 := by
  rw [List.drop_eq_getElem_cons h]
  unfold spanN
  rw [List.takeWhile_cons]
  split <;> simp_all
theorem span_ (f : FuncId) (p : Int → Bool) (hf : ∀ x, Meets Tryz.prog f [U x] (B (p x))) (s : ByteArray) (hs : s.size ≤ 1000000) (i : Nat) (hi : i ≤ s.size) : Meets Tryz.prog 111 [S s, I i, .fn f []] (I (i + spanN p ((bs s).drop i) : Nat)) := by
  refine meets_of (X := false) Ty.mixed Tryz.func111 (by kernel_rfl) rfl (by kernel_rfl) (by simp) ?_; rw [Tryz.ntmps111, Tryz.results111]
  simp only [awp_reg, awp_seq, awp_block, awp_loop, seqQ_n, awpOps_nil, awpOps_one, awpOp_is, putK_is, put_s, pureOp, apureO, aev, cv, cvc, argT, isC, bsD, ↓reduceIte, Nat.reduceAdd, Nat.zero_add]
  refine loop_k (fun k : Nat => i ≤ k ∧ k ≤ s.size ∧ k + spanN p ((bs s).drop k) = i + spanN p ((bs s).drop i)) (fun k => ⟨21, [(1, I k), (0, S s), (2, .fn f [])], []⟩) (fun k => s.size - k) i ⟨Nat.le_refl _, hi, rfl⟩ (by simp only [slot_is, aev, cv, cvc, Weak, isC, bsD, ↓reduceIte, Bool.and_self, and_self, reduceCtorEq, Nat.reduceEqDiff]) rfl rfl ?_
  rintro k ⟨h1, h2, h3⟩ K hK
  rw [← h3]
  by_cases hlt : k < s.size
  · have hlt' : k < (bs s).length := by rw [bs_size]; exact hlt
    have hb : s[k]? = some (bs s)[k] := by rw [bs_get]; exact List.getElem?_eq_getElem hlt'
    have hd := span_drop p hlt'
    rw [hd]
    rw [hd] at h3
    clear hd
    generalize (bs s)[k] = b at *
    simp only [awp_reg, awp_seq, awpOps_one, awpOps_if, awpOp_is, isCallV, callW_is, callV_is, awpO_is, putK_is, put_s, slot_is, pureOp, apureO, aev, cv, cvc, binK, elO_s, lenA, lenK, yieldA, guardA_tt, mlenA_c, isC, bsD, Int.natCast_nonneg, Bool.false_eq_true, ↓reduceIte, List.getElem?_cons_zero, List.getElem?_cons_succ, List.map_cons, List.map_nil, List.append_nil, List.getElem?_toArray, Option.bind_some, Bool.true_and, true_and, reduceCtorEq, Nat.reduceEqDiff, Int.toNat_natCast, Ty.td9, show decide ((k : Int) < (s.size : Int)) = true from decide_eq_true (by omega), hb]
    refine call_meets (hf b.toNat) (by simp only [aev, cv, cvc, toD_c, consO_some, toDL_nil, toDL_cons, isC, bsD] <;> rfl) ?_; simp only [awp_cond, seqQ_n, awpOps_nil, awpOps_one, awpOp_is, putK_is, put_s, upd_s, slot_is, pureOp, apureO, killT, aev, cv, cvc, pickA_t, flat_c, ownsV_c, ownsL_nil, ownsL_cons, isC, bsD, ↓reduceIte, List.append_nil, Bool.or_true, Nat.reduceEqDiff, List.isEmpty_nil]
    by_cases hp : p b.toNat = true
    · rw [if_pos hp] at h3
      simp only [awp_skip, awp_reg, awp_block, seqQ_n, loopQ_n, blkQ_n, awpOps_nil, awpOps_one, awpOp_is, putK_is, put_s, slot_is, pureOp, apureO, aev, cv, cvc, binK, condA_t, isC, bsD, ↓reduceIte, Bool.true_and, true_and, Nat.reduceEqDiff, hp]
      rw [wrap_in (by omega) (by omega)]
      refine hK (k + 1) _ ⟨by omega, by omega, by omega⟩ (by omega) ?_ rfl rfl
      simp only [slot_is, aev, cv, cvc, Weak, isC, bsD, ↓reduceIte, Bool.and_true, Bool.and_self, and_true, and_self, reduceCtorEq, Nat.reduceEqDiff]
      simp
    · have hp' : p b.toNat = false := by simpa using hp
      simp only [awp_reg, awp_seq, awp_exit, awp_ret, seqQ_n, seqQ_e, loopQ_e, blkQ_e, awpOps_nil, awpOps_one, awpOp_is, putK_is, put_s, slot_is, retA_is, pureOp, apureO, aev, cv, cvc, condA_f, toD_c, notExit, resA_nil, resA_tmp, oneA_1, isC, bsD, Bool.false_eq_true, ↓reduceIte, Bool.and_self, and_self, Nat.reduceEqDiff, Nat.add_zero, hp']
  · have hk : k = s.size := by omega
    have h0 : spanN p ((bs s).drop k) = 0 := by rw [hk, ← bs_size, List.drop_length]; rfl
    rw [h0, Nat.add_zero]
    simp only [awp_reg, awp_seq, awp_cond, awp_exit, awp_ret, seqQ_n, seqQ_e, loopQ_e, blkQ_e, awpOps_nil, awpOps_one, awpOps_if, awpOp_is, putK_is, put_s, slot_is, retA_is, pureOp, apureO, aev, cv, cvc, binK, elO_s, lenA, lenK, yieldA, guardA_tf, condA_f, pickA_f, toD_c, notExit, resA_nil, resA_tmp, oneA_1, mlenA_c, isC, bsD, ↓reduceIte, List.getElem?_cons_zero, List.getElem?_cons_succ, List.getElem?_toArray, Option.bind_some, Bool.and_true, Bool.true_and, Bool.and_self, true_and, and_true, and_self, reduceCtorEq, Nat.reduceEqDiff, Ty.td9, show decide ((k : Int) < (s.size : Int)) = false from decide_eq_false (by omega)]

theorem span_dig (s : ByteArray) (hs : s.size ≤ 1000000) (i : Nat) (hi : i ≤ s.size) : Meets Tryz.prog 111 [S s, I i, .fn 112 []] (I (i + spanN digI ((bs s).drop i) : Nat)) := span_ _ _ digit s hs i hi
theorem span_nb (s : ByteArray) (hs : s.size ≤ 1000000) (i : Nat) (hi : i ≤ s.size) : Meets Tryz.prog 111 [S s, I i, .fn 114 []] (I (i + spanN nbI ((bs s).drop i) : Nat)) := span_ _ _ nameByte s hs i hi

theorem name (s : ByteArray) (hs : s.size ≤ 1000000) : Meets Tryz.prog 84 [S s] (B (nameE s)) := by
  refine meets_of (X := false) Ty.mixed Tryz.func84 (by kernel_rfl) rfl (by kernel_rfl) (by simp) ?_; rw [Tryz.ntmps84, Tryz.results84]
  have hsz := bs_size s
  by_cases h0 : 0 < s.size
  case neg =>
    have hz : bs s = [] := List.eq_nil_of_length_eq_zero (by omega)
    simp only [awp_skip, awp_reg, awp_seq, awp_cond, awp_ret, seqQ_n, awpOps_nil, awpOps_one, awpOps_if, awpOp_is, putK_is, put_s, slot_is, retA_is, pureOp, apureO, aev, cv, cvc, binK, elO_s, lenA, lenK, yieldA, guardA_tf, condA_f, pickA_f, toD_c, notExit, resA_nil, resA_tmp, oneA_1, argT, mlenA_c, isC, bsD, ↓reduceIte, List.getElem?_cons_zero, List.getElem?_cons_succ, List.getElem?_toArray, Option.bind_some, Bool.true_and, true_and, reduceCtorEq, Nat.reduceEqDiff, Ty.td9, show decide ((1 : Int) < (s.size : Int)) = false from decide_eq_false (by omega), show decide ((0 : Int) < (s.size : Int)) = false from decide_eq_false (by omega)]
    simp [nameE, nameL, hz]
  obtain ⟨b, l, hl⟩ : ∃ b l, bs s = b :: l := by
    cases h : bs s with
    | nil => rw [h] at hsz; simp at hsz; omega
    | cons b l => exact ⟨b, l, rfl⟩
  have g0 : s[0]? = some b := by rw [bs_get, hl]; rfl
  have hll : l.length + 1 = s.size := by rw [← hsz, hl]; simp
  by_cases h1 : 1 < s.size ∧ (b.toNat : Int) = 95
  · obtain ⟨h1, h95⟩ := h1
    obtain ⟨d, r, hr⟩ : ∃ d r, l = d :: r := by
      cases l with
      | nil => simp at hll; omega
      | cons d r => exact ⟨d, r, rfl⟩
    have g1 : s[1]? = some d := by rw [bs_get, hl, hr]; rfl
    have hn : nameE s = (!decide ((d.toNat : Int) = 48) && (decide (s.size - 1 ≤ 9) && decide (1 + spanN digI l = s.size))) := by
      unfold nameE nameL
      rw [if_pos ⟨by omega, by rw [hl]; exact h95⟩, hsz, hl]
      simp [hr, hd]
    rw [hn]
    simp only [awp_reg, awp_seq, awp_cond, seqQ_n, awpOps_nil, awpOps_one, awpOps_if, awpOp_is, awpO_is, putK_is, put_s, slot_is, pureOp, apureO, aev, cv, cvc, binK, elO_s, lenA, lenK, yieldA, guardA_tt, condA_t, pickA_t, argT, mlenA_c, isC, bsD, ↓reduceIte, List.getElem?_cons_zero, List.getElem?_cons_succ, List.getElem?_toArray, Option.bind_some, Bool.true_and, true_and, reduceCtorEq, Nat.reduceEqDiff, Int.reduceToNat, Int.le_refl, Ty.td9, show decide ((1 : Int) < (s.size : Int)) = true from decide_eq_true (by omega), g0, show ((b.toNat : Int) == 95) = true by simpa using h95, g1]
    have hsp := span_dig s hs 1 (by omega)
    rw [hl, List.drop_succ_cons, List.drop_zero] at hsp
    by_cases h48 : (d.toNat : Int) = 48
    · simp only [awp_ret, seqQ_n, seqQ_r, awpOps_nil, awpOps_one, awpOps_if, awpOp_is, putK_is, put_s, slot_is, retA_is, pureOp, apureO, aev, cv, cvc, yieldA, guardA_tf, pickA_f, toD_c, notExit, resA_nil, resA_tmp, oneA_1, isC, bsD, ↓reduceIte, List.getElem?_cons_zero, List.getElem?_cons_succ, List.getElem?_toArray, Option.bind_some, Bool.true_and, true_and, Nat.reduceEqDiff, show ((d.toNat : Int) != 48) = false by simpa using h48]
      simp [h48]
    · rw [decide_eq_false h48]
      simp only [awpOps_one, awpOps_if, awpOp_is, awpO_is, putK_is, put_s, slot_is, pureOp, apureO, aev, cv, cvc, binK, elO_s, lenA, lenK, yieldA, guardA_tt, pickA_t, mlenA_c, isC, bsD, ↓reduceIte, List.getElem?_cons_zero, List.getElem?_cons_succ, List.getElem?_toArray, Option.bind_some, Bool.true_and, Bool.not_false, true_and, reduceCtorEq, Nat.reduceEqDiff, Ty.td9, show ((d.toNat : Int) != 48) = true by simpa using h48, wrap_in (x := (s.size : Int) - 1) (by omega) (by omega)]
      by_cases h9 : s.size - 1 ≤ 9
      · rw [decide_eq_true h9]
        simp only [awpOps_if, awpOp_is, isCallV, callW_is, callV_is, awpO_is, putK_is, put_s, slot_is, pureOp, apureO, aev, cv, cvc, yieldA, guardA_tt, isC, bsD, Bool.false_eq_true, ↓reduceIte, List.getElem?_cons_zero, List.getElem?_cons_succ, List.map_cons, List.map_nil, List.append_nil, List.getElem?_toArray, Option.bind_some, Bool.true_and, true_and, reduceCtorEq, Nat.reduceEqDiff, show decide ((s.size : Int) - 1 ≤ 9) = true from decide_eq_true (by omega)]
        refine ⟨by omega, ?_⟩
        refine call_meets (hsp) (by simp only [aev, cv, cvc, toD_c, toD_fn, consO_some, toDL_nil, toDL_cons, isC, bsD, Option.map_some, show decide ((s.size : Int) - 1 ≤ 9) = true from decide_eq_true (by omega)] <;> rfl) ?_; simp only [awp_ret, seqQ_n, seqQ_r, awpOps_nil, awpOps_one, awpOps_if, awpOp_is, awpO_is, putK_is, put_s, upd_s, slot_is, retA_is, pureOp, apureO, killT, aev, cv, cvc, binK, elO_s, lenA, lenK, yieldA, guardA_tt, pickA_t, flat_c, ownsV_c, ownsV_fn, ownsL_nil, ownsL_cons, toD_c, notExit, resA_nil, resA_tmp, oneA_1, mlenA_c, isC, bsD, ↓reduceIte, List.getElem?_cons_zero, List.getElem?_cons_succ, List.append_nil, List.getElem?_toArray, Option.bind_some, Bool.true_and, Bool.or_true, true_and, reduceCtorEq, Nat.reduceEqDiff, List.isEmpty_nil, Ty.td9, show decide ((s.size : Int) - 1 ≤ 9) = true from decide_eq_true (by omega)]
        congr 1
        by_cases he : 1 + spanN digI l = s.size
        · simp [he]
        · simp [he]; omega
      · simp only [awp_ret, seqQ_n, seqQ_r, awpOps_nil, awpOps_one, awpOps_if, awpOp_is, putK_is, put_s, slot_is, retA_is, pureOp, apureO, aev, cv, cvc, yieldA, guardA_tf, pickA_f, toD_c, notExit, resA_nil, resA_tmp, oneA_1, isC, bsD, ↓reduceIte, List.getElem?_cons_zero, List.getElem?_cons_succ, List.getElem?_toArray, Option.bind_some, Bool.true_and, true_and, Nat.reduceEqDiff, show decide ((s.size : Int) - 1 ≤ 9) = false from decide_eq_false (by omega)]
        simp [h9]
  · have hn : nameE s = (decide (s.size ≤ 30) && (letterI b.toNat && decide (1 + spanN nbI l = s.size))) := by
      unfold nameE nameL
      rw [if_neg (by rw [hsz, hl]; exact h1), hsz, hl]
      simp [hd, h0]
    rw [hn]
    have hsp := span_nb s hs 1 (by omega)
    rw [hl, List.drop_succ_cons, List.drop_zero] at hsp
    have first : ∀ P : Prop, (1 < s.size → ((b.toNat : Int) == 95) = false → P) → (¬ 1 < s.size → P) → P := fun P a b' => by
      by_cases h : 1 < s.size
      · exact a h (by simpa using fun e => h1 ⟨h, e⟩)
      · exact b' h
    refine first _ (fun h2 h3 => ?_) fun h2 => ?_
    all_goals
      first
        | simp only [awp_skip, awp_reg, awp_seq, awp_cond, seqQ_n, awpOps_nil, awpOps_one, awpOps_if, awpOp_is, awpO_is, putK_is, put_s, slot_is, pureOp, apureO, aev, cv, cvc, binK, elO_s, lenA, lenK, yieldA, guardA_tt, condA_f, pickA_t, argT, mlenA_c, isC, bsD, ↓reduceIte, List.getElem?_cons_zero, List.getElem?_cons_succ, List.getElem?_toArray, Option.bind_some, Bool.true_and, true_and, reduceCtorEq, Nat.reduceEqDiff, Int.reduceToNat, Int.le_refl, Ty.td9, show decide ((1 : Int) < (s.size : Int)) = true from decide_eq_true (by omega), g0, h3, show decide ((0 : Int) < (s.size : Int)) = true from decide_eq_true (by omega)]
        | simp only [awp_skip, awp_reg, awp_seq, awp_cond, seqQ_n, awpOps_nil, awpOps_one, awpOps_if, awpOp_is, awpO_is, putK_is, put_s, slot_is, pureOp, apureO, aev, cv, cvc, binK, elO_s, lenA, lenK, yieldA, guardA_tt, guardA_tf, condA_f, pickA_t, pickA_f, argT, mlenA_c, isC, bsD, ↓reduceIte, List.getElem?_cons_zero, List.getElem?_cons_succ, List.getElem?_toArray, Option.bind_some, Bool.true_and, true_and, reduceCtorEq, Nat.reduceEqDiff, Ty.td9, show decide ((1 : Int) < (s.size : Int)) = false from decide_eq_false (by omega), g0, show decide ((0 : Int) < (s.size : Int)) = true from decide_eq_true (by omega)]
      by_cases h30 : s.size ≤ 30
      · rw [decide_eq_true h30]
        simp only [awpOps_if, awpOp_is, isCallV, callW_is, callV_is, awpO_is, putK_is, put_s, slot_is, pureOp, apureO, aev, cv, cvc, elO_s, yieldA, guardA_tt, isC, bsD, Bool.false_eq_true, ↓reduceIte, List.getElem?_cons_zero, List.getElem?_cons_succ, List.map_cons, List.map_nil, List.append_nil, List.getElem?_toArray, Option.bind_some, Bool.true_and, true_and, reduceCtorEq, Nat.reduceEqDiff, Int.reduceToNat, Int.le_refl, Ty.td9, show decide ((s.size : Int) ≤ 30) = true from decide_eq_true (by omega), g0]
        refine call_meets (letter b.toNat) (by simp only [aev, cv, cvc, toD_c, consO_some, toDL_nil, toDL_cons, isC, bsD, show decide ((s.size : Int) ≤ 30) = true from decide_eq_true (by omega)] <;> rfl) ?_; simp only [awpOps_one, awpOps_if, awpOp_is, putK_is, put_s, upd_s, slot_is, pureOp, apureO, killT, aev, cv, cvc, yieldA, pickA_t, flat_c, ownsV_c, ownsL_nil, ownsL_cons, isC, bsD, ↓reduceIte, List.getElem?_cons_zero, List.getElem?_cons_succ, List.append_nil, List.getElem?_toArray, Option.bind_some, Bool.or_true, Nat.reduceEqDiff, List.isEmpty_nil, show decide ((s.size : Int) ≤ 30) = true from decide_eq_true (by omega)]
        cases hlt : letterI b.toNat with
        | false => simp only [awp_ret, seqQ_n, awpOps_nil, awpOps_one, awpOps_if, awpOp_is, putK_is, put_s, slot_is, retA_is, pureOp, apureO, aev, cv, cvc, yieldA, guardA_tf, pickA_f, toD_c, notExit, resA_nil, resA_tmp, oneA_1, isC, bsD, ↓reduceIte, List.getElem?_cons_zero, List.getElem?_cons_succ, List.getElem?_toArray, Option.bind_some, Bool.false_and, Bool.and_self, and_self, Nat.reduceEqDiff, hlt]
        | true =>
          simp only [awpOps_if, awpOp_is, isCallV, callW_is, callV_is, awpO_is, putK_is, put_s, slot_is, pureOp, apureO, aev, cv, cvc, yieldA, guardA_tt, isC, bsD, Bool.false_eq_true, ↓reduceIte, List.getElem?_cons_zero, List.getElem?_cons_succ, List.map_cons, List.map_nil, List.append_nil, List.getElem?_toArray, Option.bind_some, Bool.true_and, true_and, reduceCtorEq, Nat.reduceEqDiff, hlt]
          refine call_meets (hsp) (by simp only [aev, cv, cvc, toD_c, toD_fn, consO_some, toDL_nil, toDL_cons, isC, bsD, Option.map_some, hlt] <;> rfl) ?_; simp only [awp_ret, seqQ_n, awpOps_nil, awpOps_one, awpOps_if, awpOp_is, awpO_is, putK_is, put_s, upd_s, slot_is, retA_is, pureOp, apureO, killT, aev, cv, cvc, binK, elO_s, lenA, lenK, yieldA, guardA_tt, pickA_t, flat_c, ownsV_c, ownsV_fn, ownsL_nil, ownsL_cons, toD_c, notExit, resA_nil, resA_tmp, oneA_1, mlenA_c, isC, bsD, ↓reduceIte, List.getElem?_cons_zero, List.getElem?_cons_succ, List.append_nil, List.getElem?_toArray, Option.bind_some, Bool.true_and, Bool.or_true, true_and, reduceCtorEq, Nat.reduceEqDiff, List.isEmpty_nil, Ty.td9, hlt]
          congr 1
          by_cases he : 1 + spanN nbI l = s.size
          · simp [he]
          · simp [he]; omega
      · simp only [awp_ret, seqQ_n, awpOps_nil, awpOps_one, awpOps_if, awpOp_is, putK_is, put_s, slot_is, retA_is, pureOp, apureO, aev, cv, cvc, yieldA, guardA_tf, pickA_f, toD_c, notExit, resA_nil, resA_tmp, oneA_1, isC, bsD, ↓reduceIte, List.getElem?_cons_zero, List.getElem?_cons_succ, List.getElem?_toArray, Option.bind_some, Bool.true_and, true_and, Nat.reduceEqDiff, show decide ((s.size : Int) ≤ 30) = false from decide_eq_false (by omega)]
        simp [h30]

end Go.Proofs.YtjgaebomcdkohaaGreatDoor.L2
