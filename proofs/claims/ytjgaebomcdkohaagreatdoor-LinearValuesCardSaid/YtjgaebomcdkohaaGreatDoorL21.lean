/- Linear expressions: the reference's names and what is valid to it. -/
import Derived.Test.YtjgaebomcdkohaaGreatDoorL17
import Derived.Test.YtjgaebomcdkohaaGreatDoorL20
namespace Go.Proofs.YtjgaebomcdkohaaGreatDoor.L21
open Go Go.Proofs.YtjgaebomcdkohaaGreatDoor.Eng Go.Proofs.YtjgaebomcdkohaaGreatDoor Go.RowKit Go.Proofs.YtjgaebomcdkohaaGreatDoor.L1 Go.Proofs.YtjgaebomcdkohaaGreatDoor.L2 Go.Proofs.YtjgaebomcdkohaaGreatDoor.L3 Go.Proofs.YtjgaebomcdkohaaGreatDoor.L16 Go.Proofs.YtjgaebomcdkohaaGreatDoor.L17
set_option linter.unusedSimpArgs false
set_option linter.unusedVariables false
set_option linter.unusedSectionVars false
set_option maxRecDepth 100000

theorem rdigit (x : Int) : Meets Tryz.prog 87 [U x] (B (digI x)) := by
  refine meets_of (X := false) Ty.mixed Tryz.func87 (by kernel_rfl) rfl (by kernel_rfl) (by simp) ?_; rw [Tryz.ntmps87, Tryz.results87]
  by_cases h : 48 ≤ x
  · simp only [awp_reg, awp_seq, awp_ret, seqQ_n, awpOps_nil, awpOps_one, awpOps_if, awpOp_is, awpO_is, putK_is, put_s, slot_is, retA_is, pureOp, apureO, aev, cv, cvc, binK, yieldA, guardA_tt, pickA_t, toD_c, notExit, resA_nil, resA_tmp, oneA_1, argT, isC, bsD, ↓reduceIte, List.getElem?_cons_zero, List.getElem?_cons_succ, List.getElem?_toArray, Option.bind_some, Bool.true_and, true_and, reduceCtorEq, Nat.reduceEqDiff, show decide (48 ≤ x) = true from decide_eq_true (by omega)]
    simp [digI, h]
  · simp only [awp_reg, awp_seq, awp_ret, seqQ_n, awpOps_nil, awpOps_one, awpOps_if, awpOp_is, putK_is, put_s, slot_is, retA_is, pureOp, apureO, aev, cv, cvc, binK, yieldA, guardA_tf, pickA_f, toD_c, notExit, resA_nil, resA_tmp, oneA_1, argT, isC, bsD, ↓reduceIte, List.getElem?_cons_zero, List.getElem?_cons_succ, List.getElem?_toArray, Option.bind_some, Bool.true_and, true_and, reduceCtorEq, Nat.reduceEqDiff, show decide (48 ≤ x) = false from decide_eq_false (by omega)]
    simp [digI, h]
theorem rletter (x : Int) : Meets Tryz.prog 88 [U x] (B (letterI x)) := by
  refine meets_of (X := false) Ty.mixed Tryz.func88 (by kernel_rfl) rfl (by kernel_rfl) (by simp) ?_; rw [Tryz.ntmps88, Tryz.results88]
  by_cases h : 97 ≤ x
  · simp only [awp_reg, awp_seq, awp_ret, seqQ_n, awpOps_nil, awpOps_one, awpOps_if, awpOp_is, awpO_is, putK_is, put_s, slot_is, retA_is, pureOp, apureO, aev, cv, cvc, binK, yieldA, guardA_tt, pickA_t, toD_c, notExit, resA_nil, resA_tmp, oneA_1, argT, isC, bsD, ↓reduceIte, List.getElem?_cons_zero, List.getElem?_cons_succ, List.getElem?_toArray, Option.bind_some, Bool.true_and, true_and, reduceCtorEq, Nat.reduceEqDiff, show decide (97 ≤ x) = true from decide_eq_true (by omega)]
    simp [letterI, h]
  · simp only [awp_reg, awp_seq, awp_ret, seqQ_n, awpOps_nil, awpOps_one, awpOps_if, awpOp_is, putK_is, put_s, slot_is, retA_is, pureOp, apureO, aev, cv, cvc, binK, yieldA, guardA_tf, pickA_f, toD_c, notExit, resA_nil, resA_tmp, oneA_1, argT, isC, bsD, ↓reduceIte, List.getElem?_cons_zero, List.getElem?_cons_succ, List.getElem?_toArray, Option.bind_some, Bool.true_and, true_and, reduceCtorEq, Nat.reduceEqDiff, show decide (97 ≤ x) = false from decide_eq_false (by omega)]
    simp [letterI, h]
theorem rsmall (x : Int) : Meets Tryz.prog 44 [I x] (B (fitsI x)) := by
  refine meets_of (X := false) Ty.mixed Tryz.func44 (by kernel_rfl) rfl (by kernel_rfl) (by simp) ?_; rw [Tryz.ntmps44, Tryz.results44]
  by_cases h : -1000000 ≤ x
  · simp only [awp_reg, awp_seq, awp_ret, seqQ_n, awpOps_nil, awpOps_one, awpOps_if, awpOp_is, awpO_is, putK_is, put_s, slot_is, retA_is, pureOp, apureO, aev, cv, cvc, binK, yieldA, guardA_tt, pickA_t, toD_c, notExit, resA_nil, resA_tmp, oneA_1, argT, isC, bsD, ↓reduceIte, List.getElem?_cons_zero, List.getElem?_cons_succ, List.getElem?_toArray, Option.bind_some, Bool.true_and, true_and, reduceCtorEq, Nat.reduceEqDiff, show decide (-1000000 ≤ x) = true from decide_eq_true (by omega)]
    simp [fitsI, h]
  · simp only [awp_reg, awp_seq, awp_ret, seqQ_n, awpOps_nil, awpOps_one, awpOps_if, awpOp_is, putK_is, put_s, slot_is, retA_is, pureOp, apureO, aev, cv, cvc, binK, yieldA, guardA_tf, pickA_f, toD_c, notExit, resA_nil, resA_tmp, oneA_1, argT, isC, bsD, ↓reduceIte, List.getElem?_cons_zero, List.getElem?_cons_succ, List.getElem?_toArray, Option.bind_some, Bool.true_and, true_and, reduceCtorEq, Nat.reduceEqDiff, show decide (-1000000 ≤ x) = false from decide_eq_false (by omega)]
    simp [fitsI, h]
theorem span_le (p : Int → Bool) (s : ByteArray) (k : Nat) (hk : k ≤ s.size) : k + spanN p ((bs s).drop k) ≤ s.size := by
  have := spanN_le p ((bs s).drop k)
  rw [List.length_drop, bs_size] at this
  omega
theorem rname (s : ByteArray) (hs : s.size ≤ 1000000) : Meets Tryz.prog 55 [S s] (B (nameE s)) := by
  have hsz := bs_size s
  by_cases h0 : s.size = 0
  · have hz : bs s = [] := List.eq_nil_of_length_eq_zero (by omega)
    rw [show nameE s = false by simp [nameE, nameL, hz]]
    refine meets_of (X := false) Ty.mixed Tryz.func55 (by kernel_rfl) rfl (by kernel_rfl) (by simp) ?_; rw [Tryz.ntmps55, Tryz.results55]
    simp only [awp_reg, awp_seq, awp_cond, awp_ret, seqQ_n, seqQ_r, awpOps_nil, awpOps_one, awpOps_if, awpOp_is, putK_is, put_s, slot_is, retA_is, pureOp, apureO, aev, cv, cvc, binK, elO_s, lenA, lenK, yieldA, guardA_ft, condA_t, pickA_t, toD_c, notExit, resA_nil, resA_tmp, oneA_1, argT, mlenA_c, isC, bsD, ↓reduceIte, List.getElem?_cons_zero, List.getElem?_cons_succ, List.getElem?_toArray, Option.bind_some, Bool.and_true, Bool.true_and, Bool.and_self, true_and, and_true, and_self, reduceCtorEq, Nat.reduceEqDiff, Ty.td9, show ((s.size : Int) == 0) = true from beq_iff_eq.2 (by omega)]
  by_cases h30 : 30 < s.size
  · have hn : nameE s = false := by
      unfold nameE nameL
      rw [hsz]
      split
      · rw [decide_eq_false (show ¬ s.size - 1 ≤ 9 by omega)]; simp
      · rw [decide_eq_false (show ¬ s.size ≤ 30 by omega)]; simp
    rw [hn]
    refine meets_of (X := false) Ty.mixed Tryz.func55 (by kernel_rfl) rfl (by kernel_rfl) (by simp) ?_; rw [Tryz.ntmps55, Tryz.results55]
    simp only [awp_reg, awp_seq, awp_cond, awp_ret, seqQ_n, seqQ_r, awpOps_nil, awpOps_one, awpOps_if, awpOp_is, awpO_is, putK_is, put_s, slot_is, retA_is, pureOp, apureO, aev, cv, cvc, binK, elO_s, lenA, lenK, yieldA, guardA_ff, condA_t, pickA_f, toD_c, notExit, resA_nil, resA_tmp, oneA_1, argT, mlenA_c, isC, bsD, ↓reduceIte, List.getElem?_cons_zero, List.getElem?_cons_succ, List.getElem?_toArray, Option.bind_some, Bool.and_true, Bool.true_and, Bool.and_self, true_and, and_true, and_self, reduceCtorEq, Nat.reduceEqDiff, Ty.td9, show ((s.size : Int) == 0) = false from beq_eq_false_iff_ne.2 (by omega), show decide ((30 : Int) < (s.size : Int)) = true from decide_eq_true (by omega)]
  obtain ⟨b, l, hl⟩ : ∃ b l, bs s = b :: l := by
    cases h : bs s with
    | nil => rw [h] at hsz; simp at hsz; omega
    | cons b l => exact ⟨b, l, rfl⟩
  have g0 : s[0]? = some b := by rw [bs_get, hl]; rfl
  have f0 : ((s.size : Int) == 0) = false := beq_eq_false_iff_ne.2 (by omega)
  have f30 : decide ((30 : Int) < (s.size : Int)) = false := decide_eq_false (by omega)
  by_cases h95 : (b.toNat : Int) = 95
  · have f95 : ((b.toNat : Int) == 95) = true := by simpa using h95
    by_cases h2 : s.size < 2
    · have hn : nameE s = false := by
        unfold nameE nameL
        rw [hsz, if_neg (by omega), hl]
        simp [hd, letterI, h95]
      rw [hn]
      refine meets_of (X := false) Ty.mixed Tryz.func55 (by kernel_rfl) rfl (by kernel_rfl) (by simp) ?_; rw [Tryz.ntmps55, Tryz.results55]
      simp only [awp_skip, awp_reg, awp_seq, awp_cond, awp_ret, seqQ_n, seqQ_r, awpOps_nil, awpOps_one, awpOps_if, awpOp_is, awpO_is, putK_is, put_s, slot_is, retA_is, pureOp, apureO, aev, cv, cvc, binK, elO_s, lenA, lenK, yieldA, guardA_ft, guardA_ff, condA_t, condA_f, pickA_t, pickA_f, toD_c, notExit, resA_nil, resA_tmp, oneA_1, argT, mlenA_c, isC, bsD, ↓reduceIte, List.getElem?_cons_zero, List.getElem?_cons_succ, List.getElem?_toArray, Option.bind_some, Bool.and_true, Bool.true_and, Bool.and_self, true_and, and_true, and_self, reduceCtorEq, Nat.reduceEqDiff, Int.reduceToNat, Int.le_refl, Ty.td9, f0, f30, g0, f95, show decide ((s.size : Int) < 2) = true from decide_eq_true (by omega)]
    have f2 : decide ((s.size : Int) < 2) = false := decide_eq_false (by omega)
    have hn : nameE s = (!decide (hd ((bs s).drop 1) = 48) && (decide (s.size - 1 ≤ 9) && decide (1 + spanN digI ((bs s).drop 1) = s.size))) := by
      unfold nameE nameL
      rw [hsz, if_pos ⟨by omega, by rw [hl]; exact h95⟩]
    rw [hn]
    by_cases h10 : 10 < s.size
    · rw [decide_eq_false (show ¬ s.size - 1 ≤ 9 by omega)]
      refine meets_of (X := false) Ty.mixed Tryz.func55 (by kernel_rfl) rfl (by kernel_rfl) (by simp) ?_; rw [Tryz.ntmps55, Tryz.results55]
      simp only [awp_skip, awp_reg, awp_seq, awp_cond, awp_ret, seqQ_n, seqQ_r, awpOps_nil, awpOps_one, awpOps_if, awpOp_is, awpO_is, putK_is, put_s, slot_is, retA_is, pureOp, apureO, aev, cv, cvc, binK, elO_s, lenA, lenK, yieldA, guardA_ft, guardA_ff, condA_t, condA_f, pickA_t, pickA_f, toD_c, notExit, resA_nil, resA_tmp, oneA_1, argT, mlenA_c, isC, bsD, ↓reduceIte, List.getElem?_cons_zero, List.getElem?_cons_succ, List.getElem?_toArray, Option.bind_some, Bool.and_true, Bool.true_and, Bool.false_and, Bool.and_false, Bool.and_self, true_and, and_true, and_self, reduceCtorEq, Nat.reduceEqDiff, Int.reduceToNat, Int.le_refl, Ty.td9, f0, f30, g0, f95, f2, show decide ((10 : Int) < (s.size : Int)) = true from decide_eq_true (by omega)]
    obtain ⟨d, r, hr⟩ : ∃ d r, l = d :: r := by
      have : l.length + 1 = s.size := by rw [← hsz, hl]; simp
      cases l with
      | nil => simp at this; omega
      | cons d r => exact ⟨d, r, rfl⟩
    have g1 : s[1]? = some d := by rw [bs_get, hl, hr]; rfl
    have f10 : decide ((10 : Int) < (s.size : Int)) = false := decide_eq_false (by omega)
    rw [decide_eq_true (show s.size - 1 ≤ 9 by omega), show hd ((bs s).drop 1) = (d.toNat : Int) by rw [hl, hr]; rfl]
    by_cases h48 : (d.toNat : Int) = 48
    · rw [decide_eq_true h48]
      refine meets_of (X := false) Ty.mixed Tryz.func55 (by kernel_rfl) rfl (by kernel_rfl) (by simp) ?_; rw [Tryz.ntmps55, Tryz.results55]
      simp only [awp_skip, awp_reg, awp_seq, awp_cond, awp_ret, seqQ_n, seqQ_r, awpOps_nil, awpOps_one, awpOps_if, awpOp_is, awpO_is, putK_is, put_s, slot_is, retA_is, pureOp, apureO, aev, cv, cvc, binK, elO_s, lenA, lenK, yieldA, guardA_ff, condA_t, condA_f, pickA_f, toD_c, notExit, resA_nil, resA_tmp, oneA_1, argT, mlenA_c, isC, bsD, ↓reduceIte, List.getElem?_cons_zero, List.getElem?_cons_succ, List.getElem?_toArray, Option.bind_some, Bool.and_true, Bool.true_and, Bool.false_and, Bool.and_self, Bool.not_true, true_and, and_true, and_self, reduceCtorEq, Nat.reduceEqDiff, Int.reduceToNat, Int.le_refl, Ty.td9, f0, f30, g0, f95, f2, f10, g1, show ((d.toNat : Int) == 48) = true by simpa using h48]
      omega
    rw [decide_eq_false h48, Bool.not_false, Bool.true_and, Bool.true_and]
    refine meets_of (X := false) Ty.mixed Tryz.func55 (by kernel_rfl) rfl (by kernel_rfl) (by simp) ?_; rw [Tryz.ntmps55, Tryz.results55]
    simp only [awp_skip, awp_reg, awp_seq, awp_cond, awp_block, awp_loop, seqQ_n, awpOps_nil, awpOps_one, awpOps_if, awpOp_is, awpO_is, putK_is, put_s, slot_is, pureOp, apureO, aev, cv, cvc, binK, elO_s, lenA, lenK, yieldA, guardA_ff, condA_t, condA_f, pickA_f, argT, mlenA_c, isC, bsD, ↓reduceIte, List.getElem?_cons_zero, List.getElem?_cons_succ, List.getElem?_toArray, Option.bind_some, Bool.true_and, true_and, reduceCtorEq, Nat.reduceEqDiff, Int.reduceToNat, Int.le_refl, Ty.td9, f0, f30, g0, f95, f2, f10, g1, show ((d.toNat : Int) == 48) = false by simpa using h48]
    refine ⟨by omega, ?_⟩
    refine loop_k (fun k : Nat => 1 ≤ k ∧ k ≤ s.size ∧ decide (1 + spanN digI ((bs s).drop 1) = s.size) = decide (k + spanN digI ((bs s).drop k) = s.size)) (fun k => ⟨62, [(3, I k), (0, S s)], []⟩) (fun k => s.size - k) 1 ⟨by omega, by omega, rfl⟩ (by simp only [slot_is, aev, cv, cvc, Weak, isC, bsD, ↓reduceIte, Bool.and_true, Bool.and_self, and_true, and_self, reduceCtorEq]; rfl) rfl rfl ?_
    rintro k ⟨k1, k2, k3⟩ K hK
    rw [k3]
    by_cases hlt : k < s.size
    · have hlt' : k < (bs s).length := by rw [bs_size]; exact hlt
      have hb : s[k]? = some (bs s)[k] := by rw [bs_get]; exact List.getElem?_eq_getElem hlt'
      rw [span_drop digI hlt'] at k3 ⊢
      generalize (bs s)[k] = x at *
      simp only [awp_skip, awp_reg, awp_seq, awp_cond, awp_block, seqQ_n, awpOps_nil, awpOps_one, awpOp_is, isCallV, callW_is, callV_is, putK_is, put_s, slot_is, pureOp, apureO, aev, cv, cvc, binK, elO_s, lenA, lenK, condA_t, mlenA_c, isC, bsD, Int.natCast_nonneg, Bool.false_eq_true, ↓reduceIte, List.map_cons, List.map_nil, List.append_nil, Bool.true_and, true_and, reduceCtorEq, Nat.reduceEqDiff, Int.toNat_natCast, Ty.td9, show decide ((k : Int) < (s.size : Int)) = true from decide_eq_true (by omega), hb]
      refine call_meets (rdigit x.toNat) (by simp only [aev, cv, cvc, toD_c, consO_some, toDL_nil, toDL_cons, isC, bsD] <;> rfl) ?_; simp only [awp_cond, seqQ_n, awpOps_nil, awpOps_one, awpOp_is, putK_is, put_s, upd_s, slot_is, pureOp, apureO, killT, aev, cv, cvc, flat_c, ownsV_c, ownsL_nil, ownsL_cons, isC, bsD, ↓reduceIte, List.append_nil, Bool.or_true, List.isEmpty_nil]
      by_cases hp : digI x.toNat = true
      · rw [if_pos hp] at k3
        simp only [awp_skip, awp_reg, seqQ_n, loopQ_n, blkQ_n, awpOps_nil, awpOps_one, awpOp_is, putK_is, put_s, slot_is, pureOp, apureO, aev, cv, cvc, binK, condA_f, isC, bsD, ↓reduceIte, Bool.true_and, Bool.not_true, true_and, Nat.reduceEqDiff, hp]
        rw [wrap_in (by omega) (by omega)]
        refine hK (k + 1) _ ⟨by omega, by omega, by rw [k3]; congr 1; apply propext; omega⟩ (by omega) ?_ rfl rfl
        simp only [slot_is, aev, cv, cvc, Weak, isC, bsD, ↓reduceIte, Bool.and_true, Bool.and_self, and_true, and_self, reduceCtorEq]
        simp
      · have hp' : digI x.toNat = false := by simpa using hp
        rw [if_neg hp, decide_eq_false (by omega)]
        simp only [awp_reg, awp_seq, awp_ret, seqQ_n, seqQ_r, loopQ_r, blkQ_r, awpOps_nil, awpOps_one, awpOp_is, putK_is, put_s, slot_is, retA_is, pureOp, apureO, aev, cv, cvc, condA_t, toD_c, notExit, resA_nil, resA_tmp, oneA_1, isC, bsD, ↓reduceIte, Bool.and_self, Bool.not_false, and_self, hp']
    · have hk : k = s.size := by omega
      have e0 : spanN digI ((bs s).drop k) = 0 := by rw [hk, ← bs_size, List.drop_length]; rfl
      rw [e0, decide_eq_true (by omega)]
      simp only [awp_reg, awp_seq, awp_cond, awp_exit, awp_ret, seqQ_n, seqQ_r, seqQ_e, loopQ_e, blkQ_e, awpOps_nil, awpOps_one, awpOp_is, putK_is, put_s, slot_is, retA_is, pureOp, apureO, aev, cv, cvc, binK, elO_s, lenA, lenK, condA_f, toD_c, notExit, resA_nil, resA_tmp, oneA_1, mlenA_c, isC, bsD, ↓reduceIte, Bool.and_true, Bool.true_and, Bool.and_self, true_and, and_true, and_self, reduceCtorEq, Nat.reduceEqDiff, Ty.td9, show decide ((k : Int) < (s.size : Int)) = false from decide_eq_false (by omega)]
  · have f95 : ((b.toNat : Int) == 95) = false := by simpa using h95
    have hn : nameE s = (letterI b.toNat && decide (1 + spanN nbI ((bs s).drop 1) = s.size)) := by
      unfold nameE nameL
      rw [hsz, if_neg (fun h => h95 (by have := h.2; rw [hl] at this; exact this)), decide_eq_true (show 0 < s.size by omega), decide_eq_true (show s.size ≤ 30 by omega), hl]
      rfl
    rw [hn]
    refine meets_of (X := false) Ty.mixed Tryz.func55 (by kernel_rfl) rfl (by kernel_rfl) (by simp) ?_; rw [Tryz.ntmps55, Tryz.results55]
    simp only [awp_skip, awp_reg, awp_seq, awp_cond, awp_block, awp_loop, seqQ_n, awpOps_nil, awpOps_one, awpOps_if, awpOp_is, awpO_is, putK_is, put_s, slot_is, pureOp, apureO, aev, cv, cvc, binK, elO_s, lenA, lenK, yieldA, guardA_ff, condA_f, pickA_f, argT, mlenA_c, isC, bsD, ↓reduceIte, List.getElem?_cons_zero, List.getElem?_cons_succ, List.getElem?_toArray, Option.bind_some, Bool.true_and, true_and, reduceCtorEq, Nat.reduceEqDiff, Int.reduceToNat, Int.le_refl, Ty.td9, f0, f30, g0, f95]
    refine loop_k (fun k : Nat => k ≤ s.size ∧ (1 ≤ k → letterI b.toNat = true ∧ decide (1 + spanN nbI ((bs s).drop 1) = s.size) = decide (k + spanN nbI ((bs s).drop k) = s.size))) (fun k => ⟨62, [(4, I k), (0, S s)], []⟩) (fun k => s.size - k) 0 ⟨by omega, fun h => by omega⟩ (by simp only [slot_is, aev, cv, cvc, Weak, isC, bsD, ↓reduceIte, Bool.and_true, Bool.and_self, and_true, and_self, reduceCtorEq]; rfl) rfl rfl ?_
    rintro k ⟨k2, k3⟩ K hK
    by_cases hlt : k < s.size
    · have hlt' : k < (bs s).length := by rw [bs_size]; exact hlt
      have hb : s[k]? = some (bs s)[k] := by rw [bs_get]; exact List.getElem?_eq_getElem hlt'
      cases k with
      | zero =>
        have hb0 : s[0]? = some b := g0
        simp only [awp_skip, awp_reg, awp_seq, awp_cond, awp_block, seqQ_n, awpOps_nil, awpOps_one, awpOp_is, isCallV, callW_is, callV_is, putK_is, put_s, slot_is, pureOp, apureO, aev, cv, cvc, binK, elO_s, lenA, lenK, condA_t, mlenA_c, isC, bsD, Int.natCast_nonneg, Bool.false_eq_true, ↓reduceIte, List.map_cons, List.map_nil, List.append_nil, Bool.true_and, true_and, reduceCtorEq, Nat.reduceEqDiff, Int.toNat_natCast, Ty.td9, show decide (((0 : Nat) : Int) < (s.size : Int)) = true from decide_eq_true (by omega), hb0]
        refine call_meets (rletter b.toNat) (by simp only [aev, cv, cvc, toD_c, consO_some, toDL_nil, toDL_cons, isC, bsD] <;> rfl) ?_; simp only [awpOps_one, awpOps_if, awpOp_is, putK_is, put_s, upd_s, slot_is, pureOp, apureO, killT, aev, cv, cvc, yieldA, flat_c, ownsV_c, ownsL_nil, ownsL_cons, isC, bsD, ↓reduceIte, List.getElem?_cons_zero, List.getElem?_cons_succ, List.append_nil, List.getElem?_toArray, Option.bind_some, Bool.or_true, List.isEmpty_nil]
        cases hp : letterI b.toNat with
        | true =>
          simp only [awp_skip, awp_reg, awp_cond, seqQ_n, loopQ_n, blkQ_n, awpOps_nil, awpOps_one, awpOps_if, awpOp_is, putK_is, put_s, slot_is, pureOp, apureO, aev, cv, cvc, binK, yieldA, guardA_no, guardA_tf, condA_f, pickA_f, isC, bsD, ↓reduceIte, List.getElem?_cons_zero, List.getElem?_cons_succ, List.getElem?_toArray, Option.bind_some, Bool.true_and, Bool.not_true, true_and, Nat.reduceEqDiff, hp]
          refine hK 1 _ ⟨by omega, fun _ => ⟨hp, rfl⟩⟩ (by omega) ?_ rfl rfl
          simp only [slot_is, aev, cv, cvc, Weak, isC, bsD, ↓reduceIte, Bool.and_true, Bool.and_self, and_true, and_self, reduceCtorEq]
          rfl
        | false => simp only [awp_reg, awp_seq, awp_cond, awp_ret, seqQ_n, seqQ_r, loopQ_r, blkQ_r, awpOps_nil, awpOps_one, awpOps_if, awpOp_is, awpO_is, putK_is, put_s, slot_is, retA_is, pureOp, apureO, aev, cv, cvc, binK, yieldA, guardA_tt, guardA_ft, condA_t, pickA_t, toD_c, notExit, resA_nil, resA_tmp, oneA_1, isC, bsD, ↓reduceIte, List.getElem?_cons_zero, List.getElem?_cons_succ, List.getElem?_toArray, Option.bind_some, Bool.false_and, Bool.and_self, Bool.not_false, and_self, Nat.reduceEqDiff, hp, show (((0 : Nat) : Int) == 0) = true from rfl]
      | succ k =>
        obtain ⟨q1, q2⟩ := k3 (by omega)
        rw [q1, Bool.true_and, q2]
        rw [span_drop nbI hlt'] at q2 ⊢
        generalize (bs s)[k + 1] = x at *
        have fk : (((k + 1 : Nat) : Int) == 0) = false := beq_eq_false_iff_ne.2 (by omega)
        simp only [awp_skip, awp_reg, awp_seq, awp_cond, awp_block, seqQ_n, awpOps_nil, awpOps_one, awpOp_is, isCallV, callW_is, callV_is, putK_is, put_s, slot_is, pureOp, apureO, aev, cv, cvc, binK, elO_s, lenA, lenK, condA_t, mlenA_c, isC, bsD, Int.natCast_nonneg, Bool.false_eq_true, ↓reduceIte, List.map_cons, List.map_nil, List.append_nil, Bool.true_and, true_and, reduceCtorEq, Nat.reduceEqDiff, Int.toNat_natCast, Ty.td9, show decide (((k + 1 : Nat) : Int) < (s.size : Int)) = true from decide_eq_true (by omega), hb]
        refine call_meets (rletter x.toNat) (by simp only [aev, cv, cvc, toD_c, consO_some, toDL_nil, toDL_cons, isC, bsD] <;> rfl) ?_; simp only [awpOps_one, awpOps_if, awpOp_is, putK_is, put_s, upd_s, slot_is, pureOp, apureO, killT, aev, cv, cvc, yieldA, flat_c, ownsV_c, ownsL_nil, ownsL_cons, isC, bsD, ↓reduceIte, List.getElem?_cons_zero, List.getElem?_cons_succ, List.append_nil, List.getElem?_toArray, Option.bind_some, Bool.or_true, List.isEmpty_nil]
        cases hp : letterI x.toNat with
        | true =>
          rw [if_pos (show nbI x.toNat = true by simp [nbI, hp])] at q2
          simp only [awp_skip, awp_reg, awp_cond, seqQ_n, loopQ_n, blkQ_n, awpOps_nil, awpOps_one, awpOps_if, awpOp_is, putK_is, put_s, slot_is, pureOp, apureO, aev, cv, cvc, binK, yieldA, guardA_no, guardA_tf, condA_f, pickA_f, isC, bsD, ↓reduceIte, List.getElem?_cons_zero, List.getElem?_cons_succ, List.getElem?_toArray, Option.bind_some, Bool.true_and, Bool.not_true, true_and, Nat.reduceEqDiff, hp]
          rw [wrap_in (by omega) (by omega)]
          refine hK (k + 1 + 1) _ ⟨by omega, fun _ => ⟨q1, by rw [q2]; congr 1; apply propext; omega⟩⟩ (by omega) ?_ rfl rfl
          simp only [slot_is, aev, cv, cvc, Weak, isC, bsD, ↓reduceIte, Bool.and_true, Bool.and_self, and_true, and_self, reduceCtorEq]
          simp
        | false =>
          simp only [awpOps_if, awpOp_is, isCallV, callW_is, callV_is, awpO_is, putK_is, put_s, slot_is, pureOp, apureO, aev, cv, cvc, binK, elO_s, yieldA, guardA_tt, guardA_ff, isC, bsD, Int.natCast_nonneg, Bool.false_eq_true, ↓reduceIte, List.getElem?_cons_zero, List.getElem?_cons_succ, List.map_cons, List.map_nil, List.append_nil, List.getElem?_toArray, Option.bind_some, Bool.true_and, Bool.not_false, true_and, reduceCtorEq, Nat.reduceEqDiff, Int.toNat_natCast, Ty.td9, hp, fk, hb]
          refine call_meets (rdigit x.toNat) (by simp only [aev, cv, cvc, toD_c, consO_some, toDL_nil, toDL_cons, isC, bsD, fk] <;> rfl) ?_; simp only [awp_cond, seqQ_n, awpOps_nil, awpOps_one, awpOps_if, awpOp_is, awpO_is, putK_is, put_s, upd_s, slot_is, pureOp, apureO, killT, aev, cv, cvc, yieldA, guardA_tt, guardA_ff, pickA_t, pickA_f, flat_c, ownsV_c, ownsL_nil, ownsL_cons, isC, bsD, ↓reduceIte, List.getElem?_cons_zero, List.getElem?_cons_succ, List.append_nil, List.getElem?_toArray, Option.bind_some, Bool.or_true, Nat.reduceEqDiff, List.isEmpty_nil, fk]
          by_cases hd' : digI x.toNat = true
          · rw [if_pos (show nbI x.toNat = true by simp [nbI, hd'])] at q2
            simp only [awp_skip, awp_reg, seqQ_n, loopQ_n, blkQ_n, awpOps_nil, awpOps_one, awpOp_is, putK_is, put_s, slot_is, pureOp, apureO, aev, cv, cvc, binK, condA_f, isC, bsD, ↓reduceIte, Bool.true_and, Bool.not_true, true_and, Nat.reduceEqDiff, hd']
            rw [wrap_in (by omega) (by omega)]
            refine hK (k + 1 + 1) _ ⟨by omega, fun _ => ⟨q1, by rw [q2]; congr 1; apply propext; omega⟩⟩ (by omega) ?_ rfl rfl
            simp only [slot_is, aev, cv, cvc, Weak, isC, bsD, ↓reduceIte, Bool.and_true, Bool.and_self, and_true, and_self, reduceCtorEq]
            simp
          · have hp' : digI x.toNat = false := by simpa using hd'
            rw [if_neg (show ¬ nbI x.toNat = true by simp [nbI, hp, hp']), decide_eq_false (by omega)]
            simp only [awp_reg, awp_seq, awp_ret, seqQ_n, seqQ_r, loopQ_r, blkQ_r, awpOps_nil, awpOps_one, awpOp_is, putK_is, put_s, slot_is, retA_is, pureOp, apureO, aev, cv, cvc, condA_t, toD_c, notExit, resA_nil, resA_tmp, oneA_1, isC, bsD, ↓reduceIte, Bool.and_self, Bool.not_false, and_self, hp']
    · obtain ⟨q1, q2⟩ := k3 (by omega)
      have hk : k = s.size := by omega
      have e0 : spanN nbI ((bs s).drop k) = 0 := by rw [hk, ← bs_size, List.drop_length]; rfl
      rw [q1, q2, e0, decide_eq_true (by omega)]
      simp only [awp_reg, awp_seq, awp_cond, awp_exit, awp_ret, seqQ_n, seqQ_e, loopQ_e, blkQ_e, awpOps_nil, awpOps_one, awpOp_is, putK_is, put_s, slot_is, retA_is, pureOp, apureO, aev, cv, cvc, binK, elO_s, lenA, lenK, condA_f, toD_c, notExit, resA_nil, resA_tmp, oneA_1, mlenA_c, isC, bsD, ↓reduceIte, Bool.and_true, Bool.true_and, Bool.and_self, true_and, and_true, and_self, reduceCtorEq, Nat.reduceEqDiff, Ty.td9, show decide ((k : Int) < (s.size : Int)) = false from decide_eq_false (by omega)]

end Go.Proofs.YtjgaebomcdkohaaGreatDoor.L21
