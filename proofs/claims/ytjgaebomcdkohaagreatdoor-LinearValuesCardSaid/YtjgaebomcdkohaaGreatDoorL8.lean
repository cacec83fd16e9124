/- Linear expressions: the reader's methods in the program, whatever the caller's memory. -/
import Derived.Test.YtjgaebomcdkohaaGreatDoorL6
import Derived.Test.YtjgaebomcdkohaaGreatDoorL7
namespace Go.Proofs.YtjgaebomcdkohaaGreatDoor.L8
open Go Go.Proofs.YtjgaebomcdkohaaGreatDoor.Eng Go.Proofs.YtjgaebomcdkohaaGreatDoor Go.RowKit Go.Proofs.YtjgaebomcdkohaaGreatDoor.L1 Go.Proofs.YtjgaebomcdkohaaGreatDoor.L2 Go.Proofs.YtjgaebomcdkohaaGreatDoor.L3 Go.Proofs.YtjgaebomcdkohaaGreatDoor.L4 Go.Proofs.YtjgaebomcdkohaaGreatDoor.L5 Go.Proofs.YtjgaebomcdkohaaGreatDoor.L6 Go.Proofs.YtjgaebomcdkohaaGreatDoor.L7
set_option linter.unusedSimpArgs false
set_option linter.unusedVariables false
set_option linter.unusedSectionVars false
set_option maxRecDepth 100000

abbrev SL (l : List UInt8) : AV := S (ofL l)
theorem hd_take (l : List UInt8) (c : UInt8) (hc : c ≠ 0) : (l.take 1 == [c]) = decide (hd l = (c.toNat : Int)) := by
  cases l with
  | nil =>
    have : ¬ (0 : Int) = (c.toNat : Int) := fun h => hc (by
      have : c.toNat = 0 := by omega
      exact UInt8.toNat_inj.1 (by simpa using this))
    simp [hd, this]
  | cons b l =>
    simp only [List.take_succ_cons, List.take_zero, hd]
    by_cases h : b = c
    · subst h; simp
    · have : ¬ (b.toNat : Int) = (c.toNat : Int) := fun e => h (UInt8.toNat_inj.1 (by omega))
      simp [h, this]
theorem prefix_ (l : List UInt8) (hl : l.length ≤ 1000000) (c : UInt8) (hc : c ≠ 0) : Meets Tryz.prog 91 [SL l, S ⟨#[c]⟩] (B (decide (hd l = (c.toNat : Int)))) := by
  rw [← hd_take l c hc]
  have inner : Meets Tryz.prog 123 [SL l, S ⟨#[c]⟩] (B (l.take 1 == [c])) := by
    refine meets_of (X := false) Ty.mixed Tryz.func123 (by kernel_rfl) rfl (by kernel_rfl) (by simp) ?_; rw [Tryz.ntmps123, Tryz.results123]
    have e1 : (⟨#[c]⟩ : ByteArray).size = 1 := rfl
    have e2 : (⟨#[c]⟩ : ByteArray).toList = [c] := by rw [ByteArray.toList_eq]
    by_cases h : 1 ≤ l.length
    · simp only [awp_reg, awp_seq, awp_ret, seqQ_n, awpOps_nil, awpOps_one, awpOps_if, awpOp_is, isCallV, awpO_is, putK_is, updK_is, put_s, upd_s, slot_is, retA_is, pureOp, apureO, astepO, sliceA_s, sliceP_c, pureK_is, killT, aev, cv, cvc, binK, elO_s, lenA, lenK, yieldA, guardA_tt, pickA_t, toD_c, notExit, resA_nil, resA_tmp, oneA_1, argT, mlenA_c, isC, bsD, Int.natCast_nonneg, Bool.false_eq_true, ↓reduceIte, List.getElem?_cons_zero, List.getElem?_cons_succ, List.getElem?_toArray, Option.bind_some, Option.map_some, Option.map_none, Bool.true_and, true_and, reduceCtorEq, Nat.reduceEqDiff, Nat.zero_add, Int.toNat_natCast, Ty.td9, e1, ofL_size, show decide (((1 : Nat) : Int) ≤ (l.length : Int)) = true from decide_eq_true (by omega)]
      refine ⟨by omega, ?_⟩
      rw [ofL_ext, ofL_toList, e2, List.drop_zero]
    · obtain rfl : l = [] := List.eq_nil_of_length_eq_zero (by omega)
      simp only [awp_reg, awp_seq, awp_ret, seqQ_n, awpOps_nil, awpOps_one, awpOps_if, awpOp_is, putK_is, put_s, slot_is, retA_is, pureOp, apureO, aev, cv, cvc, binK, elO_s, lenA, lenK, yieldA, guardA_tf, pickA_f, toD_c, notExit, resA_nil, resA_tmp, oneA_1, argT, mlenA_c, isC, bsD, ↓reduceIte, List.getElem?_cons_zero, List.getElem?_cons_succ, List.length_nil, List.getElem?_toArray, Option.bind_some, Bool.true_and, true_and, reduceCtorEq, Nat.reduceEqDiff, Nat.zero_add, List.take_nil, Ty.td9, e1, ofL_size, show decide (((1 : Nat) : Int) ≤ ((0 : Nat) : Int)) = false from rfl]
      simp
  refine meets_of (X := false) Ty.mixed Tryz.func91 (by kernel_rfl) rfl (by kernel_rfl) (by simp) ?_; rw [Tryz.ntmps91, Tryz.results91]
  simp only [awp_reg, awp_seq, seqQ_n, awpOps_nil, awpOps_one, awpOp_is, isCallV, callW_is, callV_is, putK_is, put_s, slot_is, pureOp, apureO, aev, cv, cvc, argT, isC, bsD, Bool.false_eq_true, ↓reduceIte, List.map_cons, List.map_nil, List.append_nil, reduceCtorEq, Nat.reduceEqDiff, Nat.zero_add]
  refine call_meets (inner) (by simp only [aev, cv, cvc, toD_c, consO_some, toDL_nil, toDL_cons, isC, bsD] <;> rfl) ?_; simp only [awp_ret, seqQ_n, awpOps_nil, awpOps_one, awpOp_is, putK_is, put_s, upd_s, slot_is, retA_is, pureOp, apureO, killT, aev, cv, cvc, flat_c, ownsV_c, ownsL_nil, ownsL_cons, toD_c, notExit, resA_nil, resA_tmp, oneA_1, isC, bsD, ↓reduceIte, List.append_nil, Bool.and_self, Bool.or_true, and_self, List.isEmpty_nil]
theorem trimByte (l : List UInt8) (hl : l.length ≤ 1000000) : Meets Tryz.prog 119 [SL l, U 32] (SL (trimE l)) := by
  refine meets_of (X := false) Ty.mixed Tryz.func119 (by kernel_rfl) rfl (by kernel_rfl) (by simp) ?_; rw [Tryz.ntmps119, Tryz.results119]
  simp only [awp_reg, awp_seq, awp_block, awp_loop, seqQ_n, awpOps_nil, awpOps_one, awpOp_is, putK_is, put_s, pureOp, apureO, aev, cv, cvc, argT, isC, bsD, ↓reduceIte, Nat.zero_add]
  refine loop_k (fun r : List UInt8 => r.length ≤ 1000000 ∧ trimE r = trimE l) (fun r => ⟨17, [(0, SL r), (1, U 32)], []⟩) (fun r => r.length) l ⟨hl, rfl⟩ (by simp only [slot_is, aev, cv, cvc, Weak, isC, bsD, ↓reduceIte, Bool.and_self, and_self, reduceCtorEq, Nat.reduceEqDiff]) rfl rfl ?_
  rintro r ⟨hr, hi⟩ K hK
  rw [← hi]
  cases r with
  | nil =>
    simp only [awp_reg, awp_seq, awp_cond, awp_exit, awp_ret, seqQ_n, seqQ_e, loopQ_e, blkQ_e, awpOps_nil, awpOps_one, awpOps_if, awpOp_is, putK_is, put_s, slot_is, retA_is, pureOp, apureO, aev, cv, cvc, binK, elO_s, lenA, lenK, yieldA, guardA_tf, condA_f, pickA_f, toD_c, notExit, resA_nil, resA_tmp, oneA_1, mlenA_c, isC, bsD, ↓reduceIte, List.getElem?_cons_zero, List.getElem?_cons_succ, List.length_nil, List.getElem?_toArray, Option.bind_some, Bool.true_and, true_and, reduceCtorEq, Nat.reduceEqDiff, Ty.td9, ofL_size, show decide ((0 : Int) < ((0 : Nat) : Int)) = false from rfl]
    rfl
  | cons b r =>
    by_cases h : b = 32
    · have hb : ((b.toNat : Int) == 32) = true := by rw [h]; rfl
      have ht : trimE (b :: r) = trimE r := by simp [trimE, h]
      simp only [awp_skip, awp_reg, awp_seq, awp_cond, awp_block, seqQ_n, loopQ_n, blkQ_n, awpOps_nil, awpOps_one, awpOps_if, awpOp_is, isCallV, awpO_is, putK_is, updK_is, put_s, upd_s, slot_is, pureOp, apureO, astepO, sliceA_s, sliceP_c, pureK_is, killT, aev, cv, cvc, binK, elO_s, lenA, lenK, yieldA, guardA_tt, condA_t, pickA_t, mlenA_c, isC, bsD, Bool.false_eq_true, ↓reduceIte, List.getElem?_cons_zero, List.getElem?_cons_succ, List.length_cons, List.getElem?_toArray, Option.bind_some, Option.map_some, Option.map_none, Bool.true_and, true_and, reduceCtorEq, Nat.reduceEqDiff, Int.reduceToNat, Int.le_refl, Ty.td9, ofL_size, ofL_get, show decide ((0 : Int) < ((r.length + 1 : Nat) : Int)) = true from decide_eq_true (by omega), hb]
      refine ⟨by omega, by omega, ?_⟩
      have e : ((ofL (b :: r)).extract 1 (r.length + 1)) = ofL r := by
        rw [ofL_ext]
        simp
      rw [e]
      refine hK r _ ⟨by simp at hr; omega, by rw [← hi, ht]⟩ (by simp) ?_ rfl rfl
      simp only [slot_is, aev, cv, cvc, Weak, isC, bsD, ↓reduceIte, Bool.and_self, and_self, reduceCtorEq, Nat.reduceEqDiff]
    · have hb : ((b.toNat : Int) == 32) = false := by
        have : ¬ (b.toNat : Int) = 32 := fun e => h (UInt8.toNat_inj.1 (by show b.toNat = 32; omega))
        simpa using this
      have ht : trimE (b :: r) = b :: r := by simp [trimE, h]
      rw [ht]
      simp only [awp_reg, awp_seq, awp_cond, awp_exit, awp_ret, seqQ_n, seqQ_e, loopQ_e, blkQ_e, awpOps_nil, awpOps_one, awpOps_if, awpOp_is, awpO_is, putK_is, put_s, slot_is, retA_is, pureOp, apureO, aev, cv, cvc, binK, elO_s, lenA, lenK, yieldA, guardA_tt, condA_f, pickA_t, toD_c, notExit, resA_nil, resA_tmp, oneA_1, mlenA_c, isC, bsD, ↓reduceIte, List.getElem?_cons_zero, List.getElem?_cons_succ, List.length_cons, List.getElem?_toArray, Option.bind_some, Bool.and_true, Bool.true_and, Bool.and_self, true_and, and_true, and_self, reduceCtorEq, Nat.reduceEqDiff, Int.reduceToNat, Int.le_refl, Ty.td9, ofL_size, ofL_get, show decide ((0 : Int) < ((r.length + 1 : Nat) : Int)) = true from decide_eq_true (by omega), hb]
theorem trim (l : List UInt8) (hl : l.length ≤ 1000000) : Meets Tryz.prog 90 [SL l, S ⟨#[32]⟩] (SL (trimE l)) := by
  have e0 : (⟨#[]⟩ : ByteArray).toList = [] := by rw [ByteArray.toList_eq]
  have e1 : (⟨#[32]⟩ : ByteArray).toList = [32] := by rw [ByteArray.toList_eq]
  have e2 : (⟨#[32]⟩ : ByteArray).size = 1 := rfl
  have e3 : (⟨#[32]⟩ : ByteArray)[0]? = some 32 := by rw [bs_get]; rfl
  refine meets_of (X := false) Ty.mixed Tryz.func90 (by kernel_rfl) rfl (by kernel_rfl) (by simp) ?_; rw [Tryz.ntmps90, Tryz.results90]
  cases l with
  | nil =>
    simp only [awp_reg, awp_seq, awp_cond, awp_ret, seqQ_n, seqQ_r, awpOps_nil, awpOps_one, awpOps_if, awpOp_is, putK_is, put_s, slot_is, retA_is, pureOp, apureO, aev, cv, cvc, binK, yieldA, guardA_ft, condA_t, pickA_t, toD_c, notExit, resA_nil, resA_tmp, oneA_1, argT, isC, bsD, ↓reduceIte, List.getElem?_cons_zero, List.getElem?_cons_succ, List.getElem?_toArray, Option.bind_some, Bool.true_and, true_and, reduceCtorEq, Nat.reduceEqDiff, Nat.zero_add, e0, beq_self_eq_true]
    rfl
  | cons b l =>
    simp only [awp_skip, awp_reg, awp_seq, awp_cond, seqQ_n, awpOps_nil, awpOps_one, awpOps_if, awpOp_is, isCallV, callW_is, callV_is, awpO_is, putK_is, put_s, slot_is, pureOp, apureO, aev, cv, cvc, binK, elO_s, lenA, lenK, yieldA, guardA_tt, guardA_ff, condA_t, condA_f, pickA_t, pickA_f, argT, mlenA_c, isC, bsD, Bool.false_eq_true, ↓reduceIte, List.getElem?_cons_zero, List.getElem?_cons_succ, List.map_cons, List.map_nil, List.append_nil, List.getElem?_toArray, Option.bind_some, Bool.true_and, true_and, reduceCtorEq, Nat.reduceEqDiff, Nat.zero_add, Int.reduceToNat, Int.le_refl, Ty.td9, ofL_toList, e0, e1, e2, e3, show ((b :: l) == []) = false from rfl, show ([(32 : UInt8)] == []) = false from rfl, show (((1 : Nat) : Int) == 1) = true from rfl, show decide (((32 : UInt8).toNat : Int) < 128) = true from rfl]
    refine call_meets (trimByte (b :: l) hl) (by simp only [aev, cv, cvc, toD_c, consO_some, toDL_nil, toDL_cons, isC, bsD] <;> rfl) ?_; simp only [awp_ret, seqQ_n, seqQ_r, awpOps_nil, awpOps_one, awpOp_is, putK_is, put_s, upd_s, slot_is, retA_is, pureOp, apureO, killT, aev, cv, cvc, flat_c, ownsV_c, ownsL_nil, ownsL_cons, toD_c, notExit, resA_nil, resA_tmp, oneA_1, isC, bsD, ↓reduceIte, List.append_nil, Bool.and_self, Bool.or_true, and_self, List.isEmpty_nil]

/-! The reader: its memory. -/
abbrev readB (l : List UInt8) (sg : Int) (s : Nat) : Option Blk := some (.var 89 [SL l, I sg, .ptr s 0])
def H3 (h : Heap) (r s m : Nat) (l : List UInt8) (sg c : Int) (cs : List Tm) : Heap := (H2 h s m c cs).set r (readB l sg s)
structure Pos (h : Heap) (r s m : Nat) : Prop where
  hr : r < h.length
  hs : s < h.length
  hm : m < h.length
  rs : r ≠ s
  rm : r ≠ m
  sm : s ≠ m
section
variable {h : Heap} {r s m : Nat} {l l' : List UInt8} {sg sg' c c' : Int} {cs cs' : List Tm} (p : Pos h r s m)
theorem H3_len : (H3 h r s m l sg c cs).length = h.length := by simp [H3, H2_len]
include p
theorem H3_r : (H3 h r s m l sg c cs)[r]? = some (readB l sg s) := by
  unfold H3
  rw [List.getElem?_set_self (by rw [H2_len]; exact p.hr)]
theorem H3_s : (H3 h r s m l sg c cs)[s]? = some (sumB m c) := by
  unfold H3
  rw [List.getElem?_set_ne p.rs, H2_s p.hs p.hm p.sm]
theorem H3_m : (H3 h r s m l sg c cs)[m]? = some (mapB cs) := by
  unfold H3
  rw [List.getElem?_set_ne p.rm, H2_m p.hs p.hm p.sm]
theorem H3_set : (H3 h r s m l sg c cs).set r (readB l' sg' s) = H3 h r s m l' sg' c cs := by
  unfold H3
  rw [List.set_set]
theorem H3_H2 : H2 (H3 h r s m l sg c cs) s m c' cs' = H3 h r s m l sg c' cs' := by
  unfold H3 H2
  rw [List.set_comm _ _ p.rs, List.set_comm _ _ p.rm, List.set_comm (mapB cs) (sumB m c') p.sm.symm, List.set_set, List.set_set]
theorem H3_refs (hh : refsH h.length h = true) : refsH h.length (H3 h r s m l sg c cs) = true := by
  unfold H3
  exact refsH_set _ (H2_refs p.hs p.hm p.sm hh) (by simp [refsH, refsL, refsV, p.hs])
end

section
variable {n : Nat} {t : List (Nat × AV)} {h : Heap} {d : Tmp} {r s m : Nat} {K : AS → Prop} {sg c : Int} {cs : List Tm} (p : Pos h r s m) (ht : refsT h.length t = true) (hh : refsH h.length h = true)
include p
theorem spaces_ (l : List UInt8) (hl : l.length ≤ 1000000) (hK : K ⟨n, (d, .tup []) :: t, H3 h r s m (trimE l) sg c cs⟩) : CallS Tryz.prog ⟨n, t, H3 h r s m l sg c cs⟩ (some d) 59 [.ptr r 0] K := by
  have gr : ∀ l sg c cs, (H3 h r s m l sg c cs)[r]? = some (readB l sg s) := fun l sg c cs => H3_r p
  have sr : ∀ l sg c cs l' sg', (H3 h r s m l sg c cs).set r (readB l' sg' s) = H3 h r s m l' sg' c cs := fun l sg c cs l' sg' => H3_set p
  refine call_inl (X := false) Ty.mixed Tryz.func59 (by kernel_rfl) rfl (by kernel_rfl) (by simp) ?_; rw [Tryz.ntmps59, Tryz.results59]; simp only [awp_reg, awpOps_one, awpOp_is, isCallV, callW_is, callV_is, putK_is, put_s, slot_is, pureOp, apureO, aev, cv, cvc, elO_s, loadA_p, argT, isC, nilA_ptr, bsD, Bool.false_eq_true, ↓reduceIte, List.getElem?_cons_zero, List.length_cons, List.length_nil, List.map_cons, List.map_nil, List.cons_append, List.nil_append, List.append_nil, Bool.true_and, true_and, ne_eq, not_false_eq_true, reduceCtorEq, Nat.reduceAdd, Nat.zero_add, Ty.td9, Ty.td89, gr, sr]
  refine call_meets (trim l hl) (by simp only [aev, cv, cvc, toD_c, consO_some, toDL_nil, toDL_cons, isC, bsD, gr, sr] <;> rfl) ?_; simp only [awpOps_nil, awpOps_one, awpOp_is, isCallV, inlQ_is, retT_s, unshift, putK_is, updK_is, put_s, upd_n, upd_s, slot_is, pureOp, apureO, astepO, killT, aev, cv, cvc, elO_s, storeA, cellsA, cellOk, setAll, flat_c, ownsV_c, ownsL_nil, ownsL_cons, notExit, resA_nil, oneA_0, unshift_shift, isC, nilA_ptr, bsD, Bool.false_eq_true, ↓reduceIte, List.getElem?_cons_zero, List.length_cons, List.length_nil, List.append_nil, List.set_cons_zero, Bool.true_and, Bool.or_true, Value.oneCell', true_and, ne_eq, not_false_eq_true, reduceCtorEq, Nat.reduceAdd, Nat.reduceLeDiff, Nat.reduceEqDiff, Nat.zero_add, List.isEmpty_nil, Ty.td9, Ty.td89, gr, sr]
  exact hK
theorem signed_ (l : List UInt8) (hl : l.length ≤ 1000000) (first : Bool)
    (h1 : ∀ q, signedE first l = some q → K ⟨n, (d, B true) :: t, H3 h r s m q.2 q.1 c cs⟩) (h2 : signedE first l = none → K ⟨n, (d, B false) :: t, H3 h r s m l 1 c cs⟩) : CallS Tryz.prog ⟨n, t, H3 h r s m l sg c cs⟩ (some d) 60 [.ptr r 0, B first] K := by
  have gr : ∀ l sg c cs, (H3 h r s m l sg c cs)[r]? = some (readB l sg s) := fun l sg c cs => H3_r p
  have sr : ∀ l sg c cs l' sg', (H3 h r s m l sg c cs).set r (readB l' sg' s) = H3 h r s m l' sg' c cs := fun l sg c cs l' sg' => H3_set p
  have p1 := prefix_ l hl 45 (by decide)
  have p2 := prefix_ l hl 43 (by decide)
  unfold signedE at h1 h2
  have cut : hd l ≠ 0 → 1 ≤ l.length := fun h => by
    cases l with
    | nil => exact absurd rfl h
    | cons b l => simp
  have e1 : (ofL l).extract 1 l.length = ofL (l.drop 1) := by rw [ofL_ext, List.take_length]
  refine call_inl (X := false) Ty.mixed Tryz.func60 (by kernel_rfl) rfl (by kernel_rfl) (by simp) ?_; rw [Tryz.ntmps60, Tryz.results60]; simp only [awp_reg, awp_seq, awp_block, seqQ_n, awpOps_nil, awpOps_one, awpOp_is, isCallV, callW_is, callV_is, putK_is, put_s, slot_is, pureOp, apureO, aev, cv, cvc, elO_s, loadA_p, argT, isC, nilA_ptr, bsD, Bool.false_eq_true, ↓reduceIte, List.getElem?_cons_zero, List.length_cons, List.length_nil, List.map_cons, List.map_nil, List.cons_append, List.nil_append, List.append_nil, Bool.true_and, true_and, ne_eq, not_false_eq_true, reduceCtorEq, Nat.reduceAdd, Nat.zero_add, Ty.td9, Ty.td89, gr, sr]
  refine call_meets (p1) (by simp only [aev, cv, cvc, toD_c, consO_some, toDL_nil, toDL_cons, isC, bsD, gr, sr] <;> rfl) ?_; simp only [awp_cond, seqQ_n, awpOps_nil, awpOps_one, awpOp_is, putK_is, put_s, upd_s, slot_is, pureOp, apureO, killT, aev, cv, cvc, flat_c, ownsV_c, ownsL_nil, ownsL_cons, isC, bsD, ↓reduceIte, List.append_nil, Bool.or_true, List.isEmpty_nil, gr, sr]
  by_cases h45 : hd l = 45
  · rw [if_pos h45] at h1
    have := cut (by omega)
    simp only [awp_reg, awp_seq, seqQ_n, blkQ_n, awpOps_nil, awpOps_one, awpOp_is, isCallV, callW_is, callV_is, putK_is, updK_is, put_s, upd_n, upd_s, slot_is, pureOp, apureO, astepO, sliceA_s, sliceP_c, pureK_is, killT, aev, cv, cvc, elO_s, loadA_p, storeA, cellsA, cellOk, setAll, condA_t, isC, nilA_ptr, bsD, Bool.false_eq_true, ↓reduceIte, List.getElem?_cons_zero, List.getElem?_cons_succ, List.length_cons, List.length_nil, List.map_cons, List.map_nil, List.append_nil, List.set_cons_zero, List.set_cons_succ, Option.map_some, Option.map_none, Bool.true_and, Value.oneCell', true_and, ne_eq, not_false_eq_true, reduceCtorEq, Nat.reduceAdd, Nat.reduceLeDiff, Nat.reduceEqDiff, Nat.zero_add, Int.reduceToNat, Ty.td3, Ty.td9, Ty.td89, show decide (hd l = ((45 : UInt8).toNat : Int)) = true from decide_eq_true h45, gr, sr, ofL_size]
    refine ⟨by omega, by omega, ?_⟩
    simp only [e1]
    refine spaces_ p _ (by simp; omega) ?_
    simp only [awp_reg, awp_seq, awp_ret, seqQ_n, awpOps_nil, awpOps_one, awpOp_is, inlQ_is, retT_s, unshift, putK_is, put_s, slot_is, pureOp, apureO, aev, cv, cvc, notExit, resA_nil, resA_tmp, oneA_1, unshift_shift, isC, bsD, ↓reduceIte, Bool.true_and, true_and, Nat.reduceLeDiff]
    exact h1 _ rfl
  · rw [if_neg h45] at h1 h2
    simp only [awp_reg, awp_seq, awpOps_one, awpOp_is, isCallV, callW_is, callV_is, putK_is, put_s, slot_is, pureOp, apureO, aev, cv, cvc, elO_s, loadA_p, condA_f, isC, nilA_ptr, bsD, Bool.false_eq_true, ↓reduceIte, List.getElem?_cons_zero, List.length_cons, List.length_nil, List.map_cons, List.map_nil, List.append_nil, Bool.true_and, true_and, ne_eq, not_false_eq_true, reduceCtorEq, Nat.reduceAdd, Nat.zero_add, Ty.td9, Ty.td89, show decide (hd l = ((45 : UInt8).toNat : Int)) = false from decide_eq_false h45, gr, sr]
    refine call_meets (p2) (by simp only [aev, cv, cvc, toD_c, consO_some, toDL_nil, toDL_cons, isC, bsD, gr, sr] <;> rfl) ?_; simp only [awp_cond, seqQ_n, awpOps_nil, awpOps_one, awpOp_is, putK_is, put_s, upd_s, slot_is, pureOp, apureO, killT, aev, cv, cvc, flat_c, ownsV_c, ownsL_nil, ownsL_cons, isC, bsD, ↓reduceIte, List.append_nil, Bool.or_true, List.isEmpty_nil, gr, sr]
    by_cases h43 : hd l = 43
    · rw [if_pos h43] at h1
      have := cut (by omega)
      simp only [awp_reg, awp_seq, seqQ_n, blkQ_n, awpOps_nil, awpOps_one, awpOp_is, isCallV, callW_is, callV_is, putK_is, updK_is, put_s, upd_n, upd_s, slot_is, pureOp, apureO, astepO, sliceA_s, sliceP_c, pureK_is, killT, aev, cv, cvc, elO_s, loadA_p, storeA, cellsA, cellOk, setAll, condA_t, isC, nilA_ptr, bsD, Bool.false_eq_true, ↓reduceIte, List.getElem?_cons_zero, List.getElem?_cons_succ, List.length_cons, List.length_nil, List.map_cons, List.map_nil, List.append_nil, List.set_cons_zero, List.set_cons_succ, Option.map_some, Option.map_none, Bool.true_and, Value.oneCell', true_and, ne_eq, not_false_eq_true, reduceCtorEq, Nat.reduceAdd, Nat.reduceLeDiff, Nat.reduceEqDiff, Nat.zero_add, Int.reduceToNat, Ty.td3, Ty.td9, Ty.td89, show decide (hd l = ((43 : UInt8).toNat : Int)) = true from decide_eq_true h43, gr, sr, ofL_size]
      refine ⟨by omega, by omega, ?_⟩
      simp only [e1]
      refine spaces_ p _ (by simp; omega) ?_
      simp only [awp_reg, awp_seq, awp_ret, seqQ_n, awpOps_nil, awpOps_one, awpOp_is, inlQ_is, retT_s, unshift, putK_is, put_s, slot_is, pureOp, apureO, aev, cv, cvc, notExit, resA_nil, resA_tmp, oneA_1, unshift_shift, isC, bsD, ↓reduceIte, Bool.true_and, true_and, Nat.reduceLeDiff]
      exact h1 _ rfl
    · rw [if_neg h43] at h1 h2
      simp only [awp_reg, awp_seq, awp_ret, seqQ_n, seqQ_r, blkQ_r, awpOps_nil, awpOps_one, awpOp_is, isCallV, inlQ_is, retT_s, unshift, putK_is, updK_is, put_s, upd_n, slot_is, pureOp, apureO, astepO, killT, aev, cv, cvc, elO_s, storeA, cellsA, cellOk, setAll, condA_f, notExit, resA_nil, resA_tmp, oneA_1, unshift_shift, isC, nilA_ptr, bsD, Bool.false_eq_true, ↓reduceIte, List.getElem?_cons_zero, List.getElem?_cons_succ, List.length_cons, List.length_nil, List.set_cons_zero, List.set_cons_succ, Bool.true_and, Value.oneCell', true_and, ne_eq, not_false_eq_true, reduceCtorEq, Nat.reduceAdd, Nat.reduceLeDiff, Nat.reduceEqDiff, Nat.zero_add, Ty.td3, Ty.td89, show decide (hd l = ((43 : UInt8).toNat : Int)) = false from decide_eq_false h43, gr, sr]
      cases first with
      | true => exact h1 _ rfl
      | false => exact h2 rfl
end

end Go.Proofs.YtjgaebomcdkohaaGreatDoor.L8
