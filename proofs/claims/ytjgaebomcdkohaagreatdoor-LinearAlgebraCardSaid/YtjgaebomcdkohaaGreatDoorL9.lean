/- Linear expressions: items in the program, whatever the caller's memory. -/
import Derived.Test.YtjgaebomcdkohaaGreatDoorL8
namespace Go.Proofs.YtjgaebomcdkohaaGreatDoor.L9
open Go Go.Proofs.YtjgaebomcdkohaaGreatDoor.Eng Go.Proofs.YtjgaebomcdkohaaGreatDoor Go.RowKit Go.Proofs.YtjgaebomcdkohaaGreatDoor.L1 Go.Proofs.YtjgaebomcdkohaaGreatDoor.L2 Go.Proofs.YtjgaebomcdkohaaGreatDoor.L3 Go.Proofs.YtjgaebomcdkohaaGreatDoor.L4 Go.Proofs.YtjgaebomcdkohaaGreatDoor.L5 Go.Proofs.YtjgaebomcdkohaaGreatDoor.L6 Go.Proofs.YtjgaebomcdkohaaGreatDoor.L7 Go.Proofs.YtjgaebomcdkohaaGreatDoor.L8
set_option linter.unusedSimpArgs false
set_option linter.unusedVariables false
set_option linter.unusedSectionVars false
set_option maxRecDepth 100000

abbrev AtoiOk : Prop := ∀ l : List UInt8, 0 < l.length → l.length ≤ 7 → (∀ b ∈ l, digI b.toNat = true) → Meets Tryz.prog 124 [SL l] (.tup [I (numE l), .c .nilIface])

theorem span0 (l : List UInt8) (hl : l.length ≤ 1000000) : Meets Tryz.prog 111 [SL l, I 0, .fn 114 []] (I (spanN nbI l : Nat)) := by
  have := span_nb (ofL l) (by rw [ofL_size]; exact hl) 0 (Nat.zero_le _)
  rwa [bs_ofL, List.drop_zero, Nat.zero_add] at this
theorem span1 (l : List UInt8) (hl : l.length ≤ 1000000) (h1 : 1 ≤ l.length) : Meets Tryz.prog 111 [SL l, I 1, .fn 114 []] (I (1 + spanN nbI (l.drop 1) : Nat)) := by
  have := span_nb (ofL l) (by rw [ofL_size]; exact hl) 1 (by rw [ofL_size]; exact h1)
  rwa [bs_ofL] at this
theorem spanD (l : List UInt8) (hl : l.length ≤ 1000000) : Meets Tryz.prog 111 [SL l, I 0, .fn 112 []] (I (spanN digI l : Nat)) := by
  have := span_dig (ofL l) (by rw [ofL_size]; exact hl) 0 (Nat.zero_le _)
  rwa [bs_ofL, List.drop_zero, Nat.zero_add] at this
theorem nameP (l : List UInt8) (hl : l.length ≤ 1000000) : Meets Tryz.prog 84 [SL l] (B (nameL l)) := by
  have := name (ofL l) (by rw [ofL_size]; exact hl)
  rwa [nameE, bs_ofL] at this
def varN (l : List UInt8) : Nat := if hd l = 95 then 1 + spanN nbI (l.drop 1) else spanN nbI l
theorem varE_is (l : List UInt8) : varE l = if nameL (l.take (varN l)) = true then some (l.take (varN l), l.drop (varN l)) else none := rfl
theorem hd_len {l : List UInt8} (h : hd l ≠ 0) : 1 ≤ l.length := by
  cases l with
  | nil => exact absurd rfl h
  | cons b l => simp
theorem varN_le (l : List UInt8) : varN l ≤ l.length := by
  unfold varN
  split
  · have h1 := hd_len (l := l) (by omega)
    have := spanN_le' nbI l 1
    omega
  · exact spanN_le nbI l

section
variable {n : Nat} {t : List (Nat × AV)} {h : Heap} {d : Tmp} {r s m : Nat} {K : AS → Prop} {sg c : Int} {cs : List Tm} (p : Pos h r s m) (ht : refsT h.length t = true) (hh : refsH h.length h = true)
include p
theorem variable_ (l : List UInt8) (hl : l.length ≤ 1000000) (h1 : ∀ q, varE l = some q → K ⟨n, (d, .tup [SL q.1, B true]) :: t, H3 h r s m q.2 sg c cs⟩) (h2 : varE l = none → K ⟨n, (d, .tup [S ⟨#[]⟩, B false]) :: t, H3 h r s m l sg c cs⟩) : CallS Tryz.prog ⟨n, t, H3 h r s m l sg c cs⟩ (some d) 125 [.ptr r 0] K := by
  have gr : ∀ l sg c cs, (H3 h r s m l sg c cs)[r]? = some (readB l sg s) := fun l sg c cs => H3_r p
  have sr : ∀ l sg c cs l' sg', (H3 h r s m l sg c cs).set r (readB l' sg' s) = H3 h r s m l' sg' c cs := fun l sg c cs l' sg' => H3_set p
  rw [varE_is] at h1 h2
  have hv := varN_le l
  have e1 : (ofL l).extract 0 (varN l) = ofL (l.take (varN l)) := by rw [ofL_ext, List.drop_zero]
  have e2 : (ofL l).extract (varN l) l.length = ofL (l.drop (varN l)) := by rw [ofL_ext, List.take_length]
  have hn := nameP (l.take (varN l)) (by simp; omega)
  refine call_inl (X := false) Ty.mixed Tryz.func125 (by kernel_rfl) rfl (by kernel_rfl) (by simp) ?_; rw [Tryz.ntmps125, Tryz.results125]; simp only [awp_reg, awp_seq, seqQ_n, awpOps_nil, awpOps_one, awpOp_is, isCallV, callW_is, callV_is, putK_is, put_s, slot_is, pureOp, apureO, aev, cv, cvc, elO_s, loadA_p, argT, isC, nilA_ptr, bsD, Bool.false_eq_true, ↓reduceIte, List.getElem?_cons_zero, List.length_cons, List.length_nil, List.map_cons, List.map_nil, List.cons_append, List.nil_append, List.append_nil, Bool.true_and, true_and, ne_eq, not_false_eq_true, reduceCtorEq, Nat.reduceAdd, Nat.zero_add, Ty.td9, Ty.td89, gr, sr]
  refine call_meets (span0 l hl) (by simp only [aev, cv, cvc, toD_c, toD_fn, consO_some, toDL_nil, toDL_cons, isC, bsD, Option.map_some, gr, sr] <;> rfl) ?_; simp only [awp_reg, awp_seq, seqQ_n, awpOps_nil, awpOps_one, awpOp_is, isCallV, callW_is, callV_is, putK_is, put_s, upd_s, slot_is, pureOp, apureO, killT, aev, cv, cvc, elO_s, loadA_p, flat_c, ownsV_c, ownsV_fn, ownsL_nil, ownsL_cons, isC, nilA_ptr, bsD, Bool.false_eq_true, ↓reduceIte, List.getElem?_cons_zero, List.length_cons, List.length_nil, List.map_cons, List.map_nil, List.append_nil, Bool.true_and, Bool.or_true, true_and, ne_eq, not_false_eq_true, reduceCtorEq, Nat.reduceAdd, Nat.zero_add, List.isEmpty_nil, Ty.td9, Ty.td89, gr, sr]
  refine call_meets (prefix_ l hl 95 (by decide)) (by simp only [aev, cv, cvc, toD_c, consO_some, toDL_nil, toDL_cons, isC, bsD, gr, sr] <;> rfl) ?_; simp only [awp_cond, seqQ_n, awpOps_nil, upd_s, slot_is, killT, aev, cv, cvc, flat_c, ownsV_c, ownsL_nil, ownsL_cons, isC, bsD, ↓reduceIte, List.append_nil, Bool.or_true, List.isEmpty_nil, gr, sr]
  by_cases h95 : hd l = 95
  · have hvn : varN l = 1 + spanN nbI (l.drop 1) := if_pos h95
    simp only [awp_reg, awpOps_one, awpOp_is, isCallV, callW_is, callV_is, putK_is, put_s, slot_is, pureOp, apureO, aev, cv, cvc, elO_s, loadA_p, condA_t, isC, nilA_ptr, bsD, Bool.false_eq_true, ↓reduceIte, List.getElem?_cons_zero, List.length_cons, List.length_nil, List.map_cons, List.map_nil, List.append_nil, Bool.true_and, true_and, ne_eq, not_false_eq_true, reduceCtorEq, Nat.reduceAdd, Nat.zero_add, Ty.td9, Ty.td89, show decide (hd l = ((95 : UInt8).toNat : Int)) = true from decide_eq_true h95, gr, sr]
    refine call_meets (span1 l hl (hd_len (by omega))) (by simp only [aev, cv, cvc, toD_c, toD_fn, consO_some, toDL_nil, toDL_cons, isC, bsD, Option.map_some, gr, sr, ← hvn, e1] <;> rfl) ?_; simp only [awp_reg, awp_seq, seqQ_n, awpOps_nil, awpOps_one, awpOp_is, isCallV, callW_is, callV_is, putK_is, updK_is, put_s, upd_s, slot_is, pureOp, apureO, astepO, sliceA_s, sliceP_c, pureK_is, killT, aev, cv, cvc, elO_s, loadA_p, flat_c, ownsV_c, ownsV_fn, ownsL_nil, ownsL_cons, isC, nilA_ptr, bsD, Int.natCast_nonneg, Bool.false_eq_true, ↓reduceIte, List.getElem?_cons_zero, List.length_cons, List.length_nil, List.map_cons, List.map_nil, List.append_nil, Option.map_some, Option.map_none, Bool.true_and, Bool.or_true, true_and, ne_eq, not_false_eq_true, reduceCtorEq, Nat.reduceAdd, Nat.reduceEqDiff, Nat.zero_add, List.isEmpty_nil, Int.toNat_natCast, Ty.td9, Ty.td89, gr, sr, ← hvn, e1, ofL_size]
    refine ⟨by omega, ?_⟩
    refine call_meets (hn) (by simp only [aev, cv, cvc, toD_c, consO_some, toDL_nil, toDL_cons, isC, bsD, gr, sr, e2] <;> rfl) ?_; simp only [awp_cond, seqQ_n, awpOps_nil, awpOps_one, awpOp_is, putK_is, put_s, upd_s, slot_is, pureOp, apureO, killT, aev, cv, cvc, flat_c, ownsV_c, ownsL_nil, ownsL_cons, isC, bsD, ↓reduceIte, List.append_nil, Bool.or_true, List.isEmpty_nil, gr, sr, e2]
    cases hnm : nameL (l.take (varN l)) with
    | true =>
      rw [if_pos hnm] at h1
      simp only [awp_skip, awp_reg, awp_seq, awp_ret, seqQ_n, awpOps_nil, awpOps_one, awpOp_is, isCallV, inlQ_is, retT_s, unshift, putK_is, updK_is, put_s, upd_n, upd_s, slot_is, pureOp, apureO, astepO, sliceA_s, sliceP_c, pureK_is, killT, aev, cv, cvc, elO_s, loadA_p, storeA, cellsA, cellOk, setAll, condA_f, notExit, resA_nil, resA_tmp, oneA_2, unshift_shift, isC, nilA_ptr, bsD, Int.natCast_nonneg, Bool.false_eq_true, ↓reduceIte, List.getElem?_cons_zero, List.length_cons, List.length_nil, List.set_cons_zero, Option.map_some, Option.map_none, Bool.true_and, Bool.not_true, Value.oneCell', true_and, ne_eq, not_false_eq_true, reduceCtorEq, Nat.reduceAdd, Nat.reduceLeDiff, Nat.reduceEqDiff, Nat.zero_add, Int.toNat_natCast, Ty.td9, Ty.td89, gr, sr, e2, ofL_size, hnm]
      exact ⟨by omega, h1 _ rfl⟩
    | false =>
      rw [if_neg (by rw [hnm]; simp)] at h2
      simp only [awp_reg, awp_seq, awp_ret, seqQ_n, seqQ_r, awpOps_nil, awpOps_one, awpOp_is, inlQ_is, retT_s, unshift, putK_is, put_s, slot_is, pureOp, apureO, aev, cv, cvc, condA_t, notExit, resA_nil, resA_tmp, oneA_2, unshift_shift, isC, bsD, ↓reduceIte, Bool.true_and, Bool.not_false, true_and, Nat.reduceLeDiff, Nat.reduceEqDiff, gr, sr, e2, hnm]
      exact h2 rfl
  · have hvn : varN l = spanN nbI l := if_neg h95
    simp only [awp_skip, awp_reg, awp_seq, seqQ_n, awpOps_nil, awpOps_one, awpOp_is, isCallV, callW_is, callV_is, putK_is, updK_is, put_s, upd_s, slot_is, pureOp, apureO, astepO, sliceA_s, sliceP_c, pureK_is, killT, aev, cv, cvc, elO_s, loadA_p, condA_f, isC, nilA_ptr, bsD, Int.natCast_nonneg, Bool.false_eq_true, ↓reduceIte, List.getElem?_cons_zero, List.length_cons, List.length_nil, List.map_cons, List.map_nil, List.append_nil, Option.map_some, Option.map_none, Bool.true_and, true_and, ne_eq, not_false_eq_true, reduceCtorEq, Nat.reduceAdd, Nat.reduceEqDiff, Nat.zero_add, Int.toNat_natCast, Ty.td9, Ty.td89, show decide (hd l = ((95 : UInt8).toNat : Int)) = false from decide_eq_false h95, gr, sr, ← hvn, e1, ofL_size]
    refine ⟨by omega, ?_⟩
    refine call_meets (hn) (by simp only [aev, cv, cvc, toD_c, consO_some, toDL_nil, toDL_cons, isC, bsD, gr, sr, e2] <;> rfl) ?_; simp only [awp_cond, seqQ_n, awpOps_nil, awpOps_one, awpOp_is, putK_is, put_s, upd_s, slot_is, pureOp, apureO, killT, aev, cv, cvc, flat_c, ownsV_c, ownsL_nil, ownsL_cons, isC, bsD, ↓reduceIte, List.append_nil, Bool.or_true, List.isEmpty_nil, gr, sr, e2]
    cases hnm : nameL (l.take (varN l)) with
    | true =>
      rw [if_pos hnm] at h1
      simp only [awp_skip, awp_reg, awp_seq, awp_ret, seqQ_n, awpOps_nil, awpOps_one, awpOp_is, isCallV, inlQ_is, retT_s, unshift, putK_is, updK_is, put_s, upd_n, upd_s, slot_is, pureOp, apureO, astepO, sliceA_s, sliceP_c, pureK_is, killT, aev, cv, cvc, elO_s, loadA_p, storeA, cellsA, cellOk, setAll, condA_f, notExit, resA_nil, resA_tmp, oneA_2, unshift_shift, isC, nilA_ptr, bsD, Int.natCast_nonneg, Bool.false_eq_true, ↓reduceIte, List.getElem?_cons_zero, List.length_cons, List.length_nil, List.set_cons_zero, Option.map_some, Option.map_none, Bool.true_and, Bool.not_true, Value.oneCell', true_and, ne_eq, not_false_eq_true, reduceCtorEq, Nat.reduceAdd, Nat.reduceLeDiff, Nat.reduceEqDiff, Nat.zero_add, Int.toNat_natCast, Ty.td9, Ty.td89, gr, sr, e2, ofL_size, hnm]
      exact ⟨by omega, h1 _ rfl⟩
    | false =>
      rw [if_neg (by rw [hnm]; simp)] at h2
      simp only [awp_reg, awp_seq, awp_ret, seqQ_n, seqQ_r, awpOps_nil, awpOps_one, awpOp_is, inlQ_is, retT_s, unshift, putK_is, put_s, slot_is, pureOp, apureO, aev, cv, cvc, condA_t, notExit, resA_nil, resA_tmp, oneA_2, unshift_shift, isC, bsD, ↓reduceIte, Bool.true_and, Bool.not_false, true_and, Nat.reduceLeDiff, Nat.reduceEqDiff, gr, sr, e2, hnm]
      exact h2 rfl
include ht hh
theorem alone_ (l : List UInt8) (hl : l.length ≤ 1000000) (h1 : ∀ q, varE l = some q → K ⟨n, (d, B true) :: t, H3 h r s m q.2 sg (addC c sg 0) (addT sg (oneV q.1) cs)⟩) (h2 : varE l = none → ∀ c' cs', K ⟨n, (d, B false) :: t, H3 h r s m l sg c' cs'⟩) : CallS Tryz.prog ⟨n, t, H3 h r s m l sg c cs⟩ (some d) 93 [.ptr r 0] K := by
  have gr : ∀ l sg c cs, (H3 h r s m l sg c cs)[r]? = some (readB l sg s) := fun l sg c cs => H3_r p
  refine call_inl (X := true) Ty.mixed Tryz.func93 (by kernel_rfl) rfl (by kernel_rfl) (by simp) ?_; rw [Tryz.ntmps93, Tryz.results93]; simp only [awp_reg, awp_seq, seqQ_n, awpOps_nil, awpOps_one, awpOp_is, isCallV, callW_is, callV_is, putK_is, put_s, slot_is, pureOp, apureO, aev, cv, cvc, argT, isC, bsD, Bool.false_eq_true, ↓reduceIte, List.map_cons, List.map_nil, List.cons_append, List.nil_append, List.append_nil, reduceCtorEq, gr]
  refine variable_ p l hl (fun q hq => ?_) fun hq => ?_
  · simp only [awp_regX, awp_seq, seqQ_n, awpOps_nil, awpOps_one, awpOp_is, putK_is, put_s, slot_is, pureOp, apureO, aev, cv, cvc, elO_s, isC, bsD, ↓reduceIte, List.getElem?_cons_zero, List.getElem?_cons_succ, Nat.reduceEqDiff, gr]
    refine drawS_at 10 (by kernel_rfl) (by kernel_rfl) ?_; simp only [isCallV, awpOpD_is, callWD_is, callVD_is, putK_is, put_s, slot_is, pureOp, apureO, aev, cv, cvc, elO_s, loadA_p, isC, nilA_ptr, awpOpsN_one, bsD, Bool.false_eq_true, ↓reduceIte, List.getElem?_cons_zero, List.getElem?_cons_succ, List.length_cons, List.length_nil, List.map_cons, List.map_nil, List.append_nil, Bool.true_and, true_and, ne_eq, not_false_eq_true, reduceCtorEq, Nat.reduceAdd, Nat.reduceEqDiff, Nat.zero_add, Ty.td73, Ty.td89, gr]
    refine calld_meets (var_ (ofL q.1)) (by simp only [aev, cv, cvc, toD_c, consO_some, toDL_nil, toDL_cons, isC, bsD, gr] <;> rfl) (by simp only [aev, cv, cvc, flat_c, flat_agg, flat_sl, flatL_nil, flatL_cons, ownsV_c, ownsL_nil, ownsL_cons, isC, bsD, List.append_nil, Bool.and_true, Bool.and_false, Bool.or_true, and_true, List.isEmpty_nil, gr]) ?_; simp only [awpOps_one, awpOp_is, isCallV, callW_is, callV_is, awpOpD_is, putK_is, put_s, slot_is, pureOp, apureO, aev, cv, cvc, elO_s, loadA_p, isC, nilA_ptr, awpOpsN_0, awpOpsN_one, bsD, Bool.false_eq_true, ↓reduceIte, List.getElem?_cons_zero, List.getElem?_cons_succ, List.length_cons, List.length_nil, List.map_cons, List.map_nil, List.append_nil, Bool.true_and, true_and, ne_eq, not_false_eq_true, reduceCtorEq, Nat.reduceAdd, Nat.reduceEqDiff, Nat.zero_add, Ty.td3, Ty.td89, gr]
    have hsz : small (oneV q.1) := ⟨by simp [oneV], fun t ht => by
      simp [oneV] at ht
      subst ht
      show (ofL q.1).size ≤ _
      rw [ofL_size]
      rw [varE_is] at hq
      split at hq
      · cases hq; simp; omega
      · cases hq⟩
    refine add_in (c0 := c) (cs := cs) 0 sg (oneV q.1) hsz (H3_s p) (H3_m p) (by simp [H3_len, refsT_cons, refsT_shift, ht, refsV, refsL, p.hr, p.hs]) (by rw [H3_len]; exact H3_refs p hh) ?_
    rw [H3_H2 p]
    simp only [awp_reg, awp_seq, awp_ret, seqQ_n, awpOps_nil, awpOps_one, awpOp_is, inlQ_is, retT_s, unshift, putK_is, put_s, slot_is, pureOp, apureO, aev, cv, cvc, notExit, resA_nil, resA_tmp, oneA_1, unshift_shift, isC, bsD, ↓reduceIte, Bool.true_and, true_and, Nat.reduceLeDiff, Nat.reduceEqDiff, gr]
    exact h1 q hq
  · simp only [awp_regX, awp_seq, seqQ_n, awpOps_nil, awpOps_one, awpOp_is, putK_is, put_s, slot_is, pureOp, apureO, aev, cv, cvc, elO_s, isC, bsD, ↓reduceIte, List.getElem?_cons_zero, List.getElem?_cons_succ, Nat.reduceEqDiff, gr]
    refine drawS_at 10 (by kernel_rfl) (by kernel_rfl) ?_; simp only [isCallV, awpOpD_is, callWD_is, callVD_is, putK_is, put_s, slot_is, pureOp, apureO, aev, cv, cvc, elO_s, loadA_p, isC, nilA_ptr, awpOpsN_one, bsD, Bool.false_eq_true, ↓reduceIte, List.getElem?_cons_zero, List.getElem?_cons_succ, List.length_cons, List.length_nil, List.map_cons, List.map_nil, List.append_nil, Bool.true_and, true_and, ne_eq, not_false_eq_true, reduceCtorEq, Nat.reduceAdd, Nat.reduceEqDiff, Nat.zero_add, Ty.td73, Ty.td89, gr]
    refine calld_meets (var_ ⟨#[]⟩) (by simp only [aev, cv, cvc, toD_c, consO_some, toDL_nil, toDL_cons, isC, bsD, gr] <;> rfl) (by simp only [aev, cv, cvc, flat_c, flat_agg, flat_sl, flatL_nil, flatL_cons, ownsV_c, ownsL_nil, ownsL_cons, isC, bsD, List.append_nil, Bool.and_true, Bool.and_false, Bool.or_true, and_true, List.isEmpty_nil, gr]) ?_; simp only [awpOps_one, awpOp_is, isCallV, callW_is, callV_is, awpOpD_is, putK_is, put_s, slot_is, pureOp, apureO, aev, cv, cvc, elO_s, loadA_p, isC, nilA_ptr, awpOpsN_0, awpOpsN_one, bsD, Bool.false_eq_true, ↓reduceIte, List.getElem?_cons_zero, List.getElem?_cons_succ, List.length_cons, List.length_nil, List.map_cons, List.map_nil, List.append_nil, Bool.true_and, true_and, ne_eq, not_false_eq_true, reduceCtorEq, Nat.reduceAdd, Nat.reduceEqDiff, Nat.zero_add, Ty.td3, Ty.td89, gr]
    refine add_in (c0 := c) (cs := cs) 0 sg [(⟨#[]⟩, 1)] ⟨by simp, fun t ht => by simp at ht; subst ht; exact Nat.zero_le _⟩ (H3_s p) (H3_m p) (by simp [H3_len, refsT_cons, refsT_shift, ht, refsV, refsL, p.hr, p.hs]) (by rw [H3_len]; exact H3_refs p hh) ?_
    rw [H3_H2 p]
    simp only [awp_reg, awp_seq, awp_ret, seqQ_n, awpOps_nil, awpOps_one, awpOp_is, inlQ_is, retT_s, unshift, putK_is, put_s, slot_is, pureOp, apureO, aev, cv, cvc, notExit, resA_nil, resA_tmp, oneA_1, unshift_shift, isC, bsD, ↓reduceIte, Bool.true_and, true_and, Nat.reduceLeDiff, Nat.reduceEqDiff, gr]
    exact h2 hq _ _
omit p ht hh
def condN (l : List UInt8) : Prop := spanN digI l = 0 ∨ 7 < spanN digI l ∨ (1 < spanN digI l ∧ hd l = 48)
def itemN (sg : Int) (l : List UInt8) (st : Int × List Tm) : Option (List UInt8 × (Int × List Tm)) :=
  match varE (l.drop (spanN digI l)) with
  | some p => some (p.2, addS (W (sg * numE (l.take (spanN digI l)))) 0 (oneV p.1) st)
  | none =>
    if hd (trimE (l.drop (spanN digI l))) = 42 then
      (varE (trimE ((trimE (l.drop (spanN digI l))).drop 1))).map fun p => (p.2, addS (W (sg * numE (l.take (spanN digI l)))) 0 (oneV p.1) st)
    else some (trimE (l.drop (spanN digI l)), addS sg (numE (l.take (spanN digI l))) [] st)
theorem dig_take (l : List UInt8) : ∀ b ∈ l.take (spanN digI l), digI b.toNat = true := by
  intro b hb
  have h := List.prefix_iff_eq_take.1 (List.takeWhile_prefix (l := l) fun b => digI b.toNat)
  unfold spanN at hb
  rw [← h] at hb
  have := List.all_eq_true.1 (List.all_takeWhile (l := l) (p := fun b => digI b.toNat)) b hb
  simpa using this
theorem trimE_len (l : List UInt8) : (trimE l).length ≤ l.length := (List.dropWhile_sublist _).length_le
theorem varE_len {l : List UInt8} {q : List UInt8 × List UInt8} (h : varE l = some q) : q.1.length ≤ l.length ∧ q.2.length ≤ l.length := by
  rw [varE_is] at h
  split at h
  · cases h; simp
    omega
  · cases h
theorem one_small {v : List UInt8} (h : v.length ≤ 1000000) : small (oneV v) := ⟨by simp [oneV], fun t ht => by
  simp [oneV] at ht
  subst ht
  show (ofL v).size ≤ _
  rw [ofL_size]
  exact h⟩
include p ht hh
theorem numbered_ (hA : AtoiOk) (l : List UInt8) (hl : l.length ≤ 1000000) (hT : ¬ condN l → ∀ q, itemN sg l (c, cs) = some q → K ⟨n, (d, B true) :: t, H3 h r s m q.1 sg q.2.1 q.2.2⟩)
    (hF1 : condN l → K ⟨n, (d, B false) :: t, H3 h r s m l sg c cs⟩) (hF2 : ¬ condN l → itemN sg l (c, cs) = none → ∀ l' c' cs', varE l' = none → l'.length ≤ 1000000 → K ⟨n, (d, B false) :: t, H3 h r s m l' sg c' cs'⟩) :
    CallS Tryz.prog ⟨n, t, H3 h r s m l sg c cs⟩ (some d) 92 [.ptr r 0] K := by
  have gr : ∀ l sg c cs, (H3 h r s m l sg c cs)[r]? = some (readB l sg s) := fun l sg c cs => H3_r p
  have sr : ∀ l sg c cs l' sg', (H3 h r s m l sg c cs).set r (readB l' sg' s) = H3 h r s m l' sg' c cs := fun l sg c cs l' sg' => H3_set p
  have he := spanN_le digI l
  refine call_inl (X := true) Ty.mixed Tryz.func92 (by kernel_rfl) rfl (by kernel_rfl) (by simp) ?_; rw [Tryz.ntmps92, Tryz.results92]; simp only [awp_reg, awp_seq, seqQ_n, awpOps_nil, awpOps_one, awpOp_is, isCallV, callW_is, callV_is, putK_is, put_s, slot_is, pureOp, apureO, aev, cv, cvc, elO_s, loadA_p, argT, isC, nilA_ptr, bsD, Bool.false_eq_true, ↓reduceIte, List.getElem?_cons_zero, List.length_cons, List.length_nil, List.map_cons, List.map_nil, List.cons_append, List.nil_append, List.append_nil, Bool.true_and, true_and, ne_eq, not_false_eq_true, reduceCtorEq, Nat.reduceAdd, Nat.zero_add, Ty.td9, Ty.td89, gr, sr]
  refine call_meets (spanD l hl) (by simp only [aev, cv, cvc, toD_c, toD_fn, consO_some, toDL_nil, toDL_cons, isC, bsD, Option.map_some, gr, sr] <;> rfl) ?_; simp only [awp_reg, awp_seq, seqQ_n, awpOps_nil, awpOps_one, awpOps_if, awpOp_is, putK_is, put_s, upd_s, slot_is, pureOp, apureO, killT, aev, cv, cvc, binK, yieldA, flat_c, ownsV_c, ownsV_fn, ownsL_nil, ownsL_cons, isC, bsD, ↓reduceIte, List.getElem?_cons_zero, List.getElem?_cons_succ, List.append_nil, List.getElem?_toArray, Option.bind_some, Bool.true_and, Bool.or_true, true_and, List.isEmpty_nil, gr, sr]
  by_cases h0 : spanN digI l = 0
  · simp only [awp_reg, awp_seq, awp_cond, awp_ret, seqQ_n, seqQ_r, awpOps_nil, awpOps_one, awpOps_if, awpOp_is, inlQ_is, retT_s, unshift, putK_is, put_s, slot_is, pureOp, apureO, aev, cv, cvc, yieldA, guardA_no, guardA_ft, condA_t, pickA_t, notExit, resA_nil, resA_tmp, oneA_1, unshift_shift, isC, bsD, ↓reduceIte, List.getElem?_cons_zero, List.getElem?_cons_succ, List.getElem?_toArray, Option.bind_some, Bool.true_and, true_and, Nat.reduceLeDiff, Nat.reduceEqDiff, show ((spanN digI l : Int) == 0) = true by simpa using h0]
    exact hF1 (Or.inl h0)
  by_cases h7 : 7 < spanN digI l
  · simp only [awp_reg, awp_seq, awp_cond, awp_ret, seqQ_n, seqQ_r, awpOps_nil, awpOps_one, awpOps_if, awpOp_is, inlQ_is, retT_s, unshift, awpO_is, putK_is, put_s, slot_is, pureOp, apureO, aev, cv, cvc, binK, yieldA, guardA_no, guardA_ft, guardA_ff, condA_t, pickA_t, pickA_f, notExit, resA_nil, resA_tmp, oneA_1, unshift_shift, isC, bsD, ↓reduceIte, List.getElem?_cons_zero, List.getElem?_cons_succ, List.getElem?_toArray, Option.bind_some, Bool.true_and, true_and, Nat.reduceLeDiff, Nat.reduceEqDiff, show ((spanN digI l : Int) == 0) = false by simpa using h0, show decide ((7 : Int) < (spanN digI l : Int)) = true from decide_eq_true (by omega)]
    exact hF1 (Or.inr (Or.inl h7))
  obtain ⟨b, l', rfl⟩ : ∃ b l', l = b :: l' := by
    cases l with
    | nil => simp at he; omega
    | cons b l' => exact ⟨b, l', rfl⟩
  have g0 : (ofL (b :: l'))[0]? = some b := by rw [ofL_get]; rfl
  by_cases h48 : 1 < spanN digI (b :: l') ∧ hd (b :: l') = 48
  · simp only [awp_reg, awp_seq, awp_cond, awp_ret, seqQ_n, seqQ_r, awpOps_nil, awpOps_one, awpOps_if, awpOp_is, inlQ_is, retT_s, unshift, awpO_is, putK_is, put_s, slot_is, pureOp, apureO, aev, cv, cvc, binK, elO_s, loadA_p, yieldA, guardA_tt, guardA_ff, condA_t, pickA_t, pickA_f, notExit, resA_nil, resA_tmp, oneA_1, unshift_shift, isC, nilA_ptr, bsD, Bool.false_eq_true, ↓reduceIte, List.getElem?_cons_zero, List.getElem?_cons_succ, List.length_cons, List.length_nil, List.getElem?_toArray, Option.bind_some, Bool.true_and, true_and, ne_eq, not_false_eq_true, reduceCtorEq, Nat.reduceAdd, Nat.reduceLeDiff, Nat.reduceEqDiff, Nat.zero_add, Int.reduceToNat, Int.le_refl, Ty.td9, Ty.td89, show ((spanN digI (b :: l') : Int) == 0) = false by simpa using h0, show decide ((7 : Int) < (spanN digI (b :: l') : Int)) = false from decide_eq_false (by omega), show decide ((1 : Int) < (spanN digI (b :: l') : Int)) = true from decide_eq_true (by omega), gr, sr, g0, show (((b.toNat : Nat) : Int) == 48) = true by simpa [hd] using h48.2]
    exact hF1 (Or.inr (Or.inr h48))
  have hc : ¬ condN (b :: l') := fun hc => hc.elim h0 fun hc => hc.elim h7 h48
  have hdb : hd (b :: l') = (b.toNat : Int) := rfl
  generalize b :: l' = l at *
  have e1 : (ofL l).extract 0 (spanN digI l) = ofL (l.take (spanN digI l)) := by rw [ofL_ext, List.drop_zero]
  have e2 : (ofL l).extract (spanN digI l) l.length = ofL (l.drop (spanN digI l)) := by rw [ofL_ext, List.take_length]
  have hat := hA (l.take (spanN digI l)) (by simp; omega) (by simp; omega) (dig_take l)
  have next : ∀ P : Prop, (1 < spanN digI l → ((b.toNat : Int) == 48) = false → P) → (¬ 1 < spanN digI l → P) → P := fun P a b' => by
    by_cases h : 1 < spanN digI l
    · exact a h (by simpa using fun e => h48 ⟨h, hdb.trans e⟩)
    · exact b' h
  have hdl : (l.drop (spanN digI l)).length ≤ 1000000 := by simp; omega
  have htl : (trimE (l.drop (spanN digI l))).length ≤ 1000000 := Nat.le_trans (trimE_len _) hdl
  have hul : ((trimE (l.drop (spanN digI l))).drop 1).length ≤ 1000000 := by simp; omega
  have hwl : (trimE ((trimE (l.drop (spanN digI l))).drop 1)).length ≤ 1000000 := Nat.le_trans (trimE_len _) hul
  replace hT := hT hc
  replace hF2 := hF2 hc
  unfold itemN at hT hF2
  refine next _ (fun h1 h2 => ?_) fun h1 => ?_
  · simp only [awp_skip, awp_reg, awp_seq, awp_cond, seqQ_n, awpOps_nil, awpOps_one, awpOps_if, awpOp_is, isCallV, callW_is, callV_is, awpO_is, putK_is, updK_is, put_s, upd_s, slot_is, pureOp, apureO, astepO, sliceA_s, sliceP_c, pureK_is, killT, aev, cv, cvc, binK, elO_s, loadA_p, yieldA, guardA_tt, guardA_ff, condA_f, pickA_t, pickA_f, isC, nilA_ptr, bsD, Int.natCast_nonneg, Bool.false_eq_true, ↓reduceIte, List.getElem?_cons_zero, List.getElem?_cons_succ, List.length_cons, List.length_nil, List.map_cons, List.map_nil, List.append_nil, List.getElem?_toArray, Option.bind_some, Option.map_some, Option.map_none, Bool.true_and, true_and, ne_eq, not_false_eq_true, reduceCtorEq, Nat.reduceAdd, Nat.reduceEqDiff, Nat.zero_add, Int.reduceToNat, Int.toNat_natCast, Int.le_refl, Ty.td9, Ty.td89, show ((spanN digI l : Int) == 0) = false by simpa using h0, show decide ((7 : Int) < (spanN digI l : Int)) = false from decide_eq_false (by omega), show decide ((1 : Int) < (spanN digI l : Int)) = true from decide_eq_true (by omega), gr, sr, g0, h2, e1, e2, ofL_size]
    refine ⟨by omega, ?_⟩
    refine call_meets (hat) (by simp only [aev, cv, cvc, toD_c, consO_some, toDL_nil, toDL_cons, isC, bsD, gr, sr, e2] <;> rfl) ?_; simp only [awp_skip, awp_reg, awp_seq, awp_cond, seqQ_n, awpOps_nil, awpOps_one, awpOp_is, isCallV, callW_is, callV_is, putK_is, updK_is, put_s, upd_n, upd_s, slot_is, pureOp, apureO, astepO, sliceA_s, sliceP_c, pureK_is, killT, aev, cv, cvc, binK, elO_s, loadA_p, storeA, cellsA, cellOk, setAll, condA_f, flat_c, flat_tup, flatL_nil, flatL_cons, ownsV_c, ownsL_nil, ownsL_cons, eqOpK_n, isC, nilA_ptr, bsD, Int.natCast_nonneg, Bool.false_eq_true, ↓reduceIte, List.getElem?_cons_zero, List.getElem?_cons_succ, List.length_cons, List.length_nil, List.map_cons, List.map_nil, List.append_nil, List.set_cons_zero, Option.map_some, Option.map_none, Bool.true_and, Bool.and_self, Bool.or_true, Bool.not_true, Value.oneCell', true_and, and_self, ne_eq, not_false_eq_true, reduceCtorEq, Nat.reduceAdd, Nat.reduceLeDiff, Nat.reduceEqDiff, Nat.zero_add, List.isEmpty_nil, Int.toNat_natCast, Ty.td9, Ty.td89, Ty.td144, gr, sr, e2, ofL_size]
    refine ⟨by omega, ?_⟩
    refine variable_ p _ hdl (fun q hq => ?_) fun hq => ?_
    · rw [hq] at hT
      simp only [awp_regX, awp_reg, awp_seq, awp_cond, seqQ_n, awpOps_nil, awpOps_one, awpOp_is, putK_is, put_s, slot_is, pureOp, apureO, aev, cv, cvc, elO_s, condA_t, isC, bsD, ↓reduceIte, List.getElem?_cons_zero, List.getElem?_cons_succ, Nat.reduceEqDiff, gr, sr]
      refine drawS_at 12 (by kernel_rfl) (by kernel_rfl) ?_; simp only [isCallV, awpOpD_is, callWD_is, callVD_is, putK_is, put_s, slot_is, pureOp, apureO, aev, cv, cvc, elO_s, loadA_p, isC, nilA_ptr, awpOpsN_one, bsD, Bool.false_eq_true, ↓reduceIte, List.getElem?_cons_zero, List.getElem?_cons_succ, List.length_cons, List.length_nil, List.map_cons, List.map_nil, List.append_nil, Bool.true_and, true_and, ne_eq, not_false_eq_true, reduceCtorEq, Nat.reduceAdd, Nat.reduceEqDiff, Nat.zero_add, Ty.td73, Ty.td89, gr, sr]
      refine calld_meets (var_ (ofL q.1)) (by simp only [aev, cv, cvc, toD_c, consO_some, toDL_nil, toDL_cons, isC, bsD, gr] <;> rfl) (by simp only [aev, cv, cvc, flat_c, flat_agg, flat_sl, flatL_nil, flatL_cons, ownsV_c, ownsL_nil, ownsL_cons, isC, bsD, List.append_nil, Bool.and_true, Bool.and_false, Bool.or_true, and_true, List.isEmpty_nil, gr]) ?_; simp only [awpOps_one, awpOp_is, isCallV, callW_is, callV_is, awpOpD_is, putK_is, put_s, slot_is, pureOp, apureO, aev, cv, cvc, binK, elO_s, loadA_p, isC, nilA_ptr, awpOpsN_0, awpOpsN_one, bsD, Bool.false_eq_true, ↓reduceIte, List.getElem?_cons_zero, List.getElem?_cons_succ, List.length_cons, List.length_nil, List.map_cons, List.map_nil, List.append_nil, Bool.true_and, true_and, ne_eq, not_false_eq_true, reduceCtorEq, Nat.reduceAdd, Nat.reduceEqDiff, Nat.zero_add, Ty.td3, Ty.td89, gr]
      refine add_in (c0 := c) (cs := cs) 0 (W (sg * numE (l.take (spanN digI l)))) (oneV q.1) (one_small (Nat.le_trans (varE_len hq).1 hdl)) (H3_s p) (H3_m p) (by simp [H3_len, refsT_cons, refsT_shift, ht, refsV, refsL, p.hr, p.hs]) (by rw [H3_len]; exact H3_refs p hh) ?_
      rw [H3_H2 p]
      simp only [awp_reg, awp_seq, awp_ret, seqQ_n, seqQ_r, awpOps_nil, awpOps_one, awpOp_is, inlQ_is, retT_s, unshift, putK_is, put_s, slot_is, pureOp, apureO, aev, cv, cvc, notExit, resA_nil, resA_tmp, oneA_1, unshift_shift, isC, bsD, ↓reduceIte, Bool.true_and, true_and, Nat.reduceLeDiff, gr]
      exact hT _ rfl
    · rw [hq] at hT hF2
      simp only at hT hF2
      simp only [awp_skip, awp_reg, awp_seq, awp_cond, seqQ_n, awpOps_nil, awpOps_one, awpOp_is, isCallV, callW_is, callV_is, putK_is, put_s, slot_is, pureOp, apureO, aev, cv, cvc, elO_s, condA_f, isC, bsD, Bool.false_eq_true, ↓reduceIte, List.getElem?_cons_zero, List.getElem?_cons_succ, List.map_cons, List.map_nil, List.append_nil, reduceCtorEq, Nat.reduceEqDiff, gr, sr]
      refine spaces_ p _ hdl ?_
      simp only [awp_reg, awp_seq, seqQ_n, awpOps_nil, awpOps_one, awpOp_is, isCallV, callW_is, callV_is, putK_is, put_s, slot_is, pureOp, apureO, aev, cv, cvc, elO_s, loadA_p, isC, nilA_ptr, bsD, Bool.false_eq_true, ↓reduceIte, List.getElem?_cons_zero, List.length_cons, List.length_nil, List.map_cons, List.map_nil, List.append_nil, Bool.true_and, true_and, ne_eq, not_false_eq_true, reduceCtorEq, Nat.reduceAdd, Nat.zero_add, Ty.td9, Ty.td89, gr, sr]
      refine call_meets (prefix_ _ htl 42 (by decide)) (by simp only [aev, cv, cvc, toD_c, consO_some, toDL_nil, toDL_cons, isC, bsD, gr, sr] <;> rfl) ?_; simp only [awp_cond, seqQ_n, awpOps_nil, awpOps_one, awpOp_is, putK_is, put_s, upd_s, slot_is, pureOp, apureO, killT, aev, cv, cvc, flat_c, ownsV_c, ownsL_nil, ownsL_cons, isC, bsD, ↓reduceIte, List.append_nil, Bool.or_true, List.isEmpty_nil, gr, sr]
      by_cases h42 : hd (trimE (l.drop (spanN digI l))) = 42
      · rw [if_pos h42] at hT hF2
        have := hd_len (l := trimE (l.drop (spanN digI l))) (by omega)
        have e3 : (ofL (trimE (l.drop (spanN digI l)))).extract 1 (trimE (l.drop (spanN digI l))).length = ofL ((trimE (l.drop (spanN digI l))).drop 1) := by rw [ofL_ext, List.take_length]
        simp only [awp_skip, awp_reg, awp_seq, seqQ_n, awpOps_nil, awpOps_one, awpOp_is, isCallV, callW_is, callV_is, putK_is, updK_is, put_s, upd_n, upd_s, slot_is, pureOp, apureO, astepO, sliceA_s, sliceP_c, pureK_is, killT, aev, cv, cvc, elO_s, loadA_p, storeA, cellsA, cellOk, setAll, condA_f, isC, nilA_ptr, bsD, Bool.false_eq_true, ↓reduceIte, List.getElem?_cons_zero, List.length_cons, List.length_nil, List.map_cons, List.map_nil, List.append_nil, List.set_cons_zero, Option.map_some, Option.map_none, Bool.true_and, Bool.not_true, Value.oneCell', true_and, ne_eq, not_false_eq_true, reduceCtorEq, Nat.reduceAdd, Nat.reduceLeDiff, Nat.reduceEqDiff, Nat.zero_add, Int.reduceToNat, Ty.td9, Ty.td89, show decide (hd (trimE (l.drop (spanN digI l))) = ((42 : UInt8).toNat : Int)) = true from decide_eq_true h42, gr, sr, ofL_size]
        refine ⟨by omega, by omega, ?_⟩
        simp only [e3]
        refine spaces_ p _ hul ?_
        simp only [awp_reg, awp_seq, seqQ_n, awpOps_nil, awpOps_one, awpOp_is, isCallV, callW_is, callV_is, putK_is, put_s, slot_is, pureOp, apureO, aev, cv, cvc, isC, bsD, Bool.false_eq_true, ↓reduceIte, List.map_cons, List.map_nil, List.append_nil, reduceCtorEq, gr, sr]
        refine variable_ p _ hwl (fun q hq2 => ?_) fun hq2 => ?_
        · rw [hq2] at hT
          simp only [awp_regX, awp_seq, seqQ_n, awpOps_nil, awpOps_one, awpOp_is, putK_is, put_s, slot_is, pureOp, apureO, aev, cv, cvc, elO_s, isC, bsD, ↓reduceIte, List.getElem?_cons_zero, List.getElem?_cons_succ, Nat.reduceEqDiff, gr, sr]
          refine drawS_at 12 (by kernel_rfl) (by kernel_rfl) ?_; simp only [isCallV, awpOpD_is, callWD_is, callVD_is, putK_is, put_s, slot_is, pureOp, apureO, aev, cv, cvc, elO_s, loadA_p, isC, nilA_ptr, awpOpsN_one, bsD, Bool.false_eq_true, ↓reduceIte, List.getElem?_cons_zero, List.getElem?_cons_succ, List.length_cons, List.length_nil, List.map_cons, List.map_nil, List.append_nil, Bool.true_and, true_and, ne_eq, not_false_eq_true, reduceCtorEq, Nat.reduceAdd, Nat.reduceEqDiff, Nat.zero_add, Ty.td73, Ty.td89, gr, sr]
          refine calld_meets (var_ (ofL q.1)) (by simp only [aev, cv, cvc, toD_c, consO_some, toDL_nil, toDL_cons, isC, bsD, gr] <;> rfl) (by simp only [aev, cv, cvc, flat_c, flat_agg, flat_sl, flatL_nil, flatL_cons, ownsV_c, ownsL_nil, ownsL_cons, isC, bsD, List.append_nil, Bool.and_true, Bool.and_false, Bool.or_true, and_true, List.isEmpty_nil, gr]) ?_; simp only [awpOps_one, awpOp_is, isCallV, callW_is, callV_is, awpOpD_is, putK_is, put_s, slot_is, pureOp, apureO, aev, cv, cvc, binK, elO_s, loadA_p, isC, nilA_ptr, awpOpsN_0, awpOpsN_one, bsD, Bool.false_eq_true, ↓reduceIte, List.getElem?_cons_zero, List.getElem?_cons_succ, List.length_cons, List.length_nil, List.map_cons, List.map_nil, List.append_nil, Bool.true_and, true_and, ne_eq, not_false_eq_true, reduceCtorEq, Nat.reduceAdd, Nat.reduceEqDiff, Nat.zero_add, Ty.td3, Ty.td89, gr]
          refine add_in (c0 := c) (cs := cs) 0 (W (sg * numE (l.take (spanN digI l)))) (oneV q.1) (one_small (Nat.le_trans (varE_len hq2).1 hwl)) (H3_s p) (H3_m p) (by simp [H3_len, refsT_cons, refsT_shift, ht, refsV, refsL, p.hr, p.hs]) (by rw [H3_len]; exact H3_refs p hh) ?_
          rw [H3_H2 p]
          simp only [awp_reg, awp_seq, awp_ret, seqQ_n, awpOps_nil, awpOps_one, awpOp_is, inlQ_is, retT_s, unshift, putK_is, put_s, slot_is, pureOp, apureO, aev, cv, cvc, notExit, resA_nil, resA_tmp, oneA_1, unshift_shift, isC, bsD, ↓reduceIte, Bool.true_and, true_and, Nat.reduceLeDiff, Nat.reduceEqDiff, gr]
          exact hT _ rfl
        · rw [hq2] at hF2
          simp only [awp_regX, awp_seq, seqQ_n, awpOps_nil, awpOps_one, awpOp_is, putK_is, put_s, slot_is, pureOp, apureO, aev, cv, cvc, elO_s, isC, bsD, ↓reduceIte, List.getElem?_cons_zero, List.getElem?_cons_succ, Nat.reduceEqDiff, gr, sr]
          refine drawS_at 12 (by kernel_rfl) (by kernel_rfl) ?_; simp only [isCallV, awpOpD_is, callWD_is, callVD_is, putK_is, put_s, slot_is, pureOp, apureO, aev, cv, cvc, elO_s, loadA_p, isC, nilA_ptr, awpOpsN_one, bsD, Bool.false_eq_true, ↓reduceIte, List.getElem?_cons_zero, List.getElem?_cons_succ, List.length_cons, List.length_nil, List.map_cons, List.map_nil, List.append_nil, Bool.true_and, true_and, ne_eq, not_false_eq_true, reduceCtorEq, Nat.reduceAdd, Nat.reduceEqDiff, Nat.zero_add, Ty.td73, Ty.td89, gr, sr]
          refine calld_meets (var_ ⟨#[]⟩) (by simp only [aev, cv, cvc, toD_c, consO_some, toDL_nil, toDL_cons, isC, bsD, gr] <;> rfl) (by simp only [aev, cv, cvc, flat_c, flat_agg, flat_sl, flatL_nil, flatL_cons, ownsV_c, ownsL_nil, ownsL_cons, isC, bsD, List.append_nil, Bool.and_true, Bool.and_false, Bool.or_true, and_true, List.isEmpty_nil, gr]) ?_; simp only [awpOps_one, awpOp_is, isCallV, callW_is, callV_is, awpOpD_is, putK_is, put_s, slot_is, pureOp, apureO, aev, cv, cvc, binK, elO_s, loadA_p, isC, nilA_ptr, awpOpsN_0, awpOpsN_one, bsD, Bool.false_eq_true, ↓reduceIte, List.getElem?_cons_zero, List.getElem?_cons_succ, List.length_cons, List.length_nil, List.map_cons, List.map_nil, List.append_nil, Bool.true_and, true_and, ne_eq, not_false_eq_true, reduceCtorEq, Nat.reduceAdd, Nat.reduceEqDiff, Nat.zero_add, Ty.td3, Ty.td89, gr]
          refine add_in (c0 := c) (cs := cs) 0 (W (sg * numE (l.take (spanN digI l)))) [(⟨#[]⟩, 1)] ⟨by simp, fun t ht => by simp at ht; subst ht; exact Nat.zero_le _⟩ (H3_s p) (H3_m p) (by simp [H3_len, refsT_cons, refsT_shift, ht, refsV, refsL, p.hr, p.hs]) (by rw [H3_len]; exact H3_refs p hh) ?_
          rw [H3_H2 p]
          simp only [awp_reg, awp_seq, awp_ret, seqQ_n, awpOps_nil, awpOps_one, awpOp_is, inlQ_is, retT_s, unshift, putK_is, put_s, slot_is, pureOp, apureO, aev, cv, cvc, notExit, resA_nil, resA_tmp, oneA_1, unshift_shift, isC, bsD, ↓reduceIte, Bool.true_and, true_and, Nat.reduceLeDiff, Nat.reduceEqDiff, gr]
          exact hF2 rfl _ _ _ hq2 hwl
      · rw [if_neg h42] at hT
        simp only [awp_regX, awp_seq, aev, cv, cvc, condA_t, isC, bsD, Bool.not_false, show decide (hd (trimE (l.drop (spanN digI l))) = ((42 : UInt8).toNat : Int)) = false from decide_eq_false h42, gr, sr]
        refine drawS_at 10 (by kernel_rfl) (by kernel_rfl) ?_; simp only [isCallV, awpOpD_is, callWD_is, callVD_is, putK_is, put_s, slot_is, pureOp, apureO, aev, cv, cvc, elO_s, loadA_p, isC, nilA_ptr, awpOpsN_one, bsD, Bool.false_eq_true, ↓reduceIte, List.getElem?_cons_zero, List.getElem?_cons_succ, List.length_cons, List.length_nil, List.map_cons, List.map_nil, List.append_nil, Bool.true_and, true_and, ne_eq, not_false_eq_true, reduceCtorEq, Nat.reduceAdd, Nat.reduceEqDiff, Nat.zero_add, Ty.td73, Ty.td89, gr, sr]
        refine calld_meets (of_ (numE (l.take (spanN digI l)))) (by simp only [aev, cv, cvc, toD_c, consO_some, toDL_nil, toDL_cons, isC, bsD, gr] <;> rfl) (by simp only [aev, cv, cvc, flat_c, flat_agg, flat_sl, flatL_nil, flatL_cons, ownsV_c, ownsL_nil, ownsL_cons, isC, bsD, List.append_nil, Bool.and_true, Bool.and_false, Bool.or_true, and_true, List.isEmpty_nil, gr]) ?_; simp only [awpOps_one, awpOp_is, isCallV, callW_is, callV_is, awpOpD_is, putK_is, put_s, slot_is, pureOp, apureO, aev, cv, cvc, elO_s, loadA_p, isC, nilA_ptr, awpOpsN_0, awpOpsN_one, bsD, Bool.false_eq_true, ↓reduceIte, List.getElem?_cons_zero, List.getElem?_cons_succ, List.length_cons, List.length_nil, List.map_cons, List.map_nil, List.append_nil, Bool.true_and, true_and, ne_eq, not_false_eq_true, reduceCtorEq, Nat.reduceAdd, Nat.reduceEqDiff, Nat.zero_add, Ty.td3, Ty.td89, gr]
        refine add_in (c0 := c) (cs := cs) (numE (l.take (spanN digI l))) sg [] ⟨by simp, by simp⟩ (H3_s p) (H3_m p) (by simp [H3_len, refsT_cons, refsT_shift, ht, refsV, refsL, p.hr, p.hs]) (by rw [H3_len]; exact H3_refs p hh) ?_
        rw [H3_H2 p]
        simp only [awp_reg, awp_seq, awp_ret, seqQ_n, seqQ_r, awpOps_nil, awpOps_one, awpOp_is, inlQ_is, retT_s, unshift, putK_is, put_s, slot_is, pureOp, apureO, aev, cv, cvc, notExit, resA_nil, resA_tmp, oneA_1, unshift_shift, isC, bsD, ↓reduceIte, Bool.true_and, true_and, Nat.reduceLeDiff, gr]
        exact hT _ rfl
  · simp only [awp_skip, awp_reg, awp_seq, awp_cond, seqQ_n, awpOps_nil, awpOps_one, awpOps_if, awpOp_is, isCallV, callW_is, callV_is, awpO_is, putK_is, updK_is, put_s, upd_s, slot_is, pureOp, apureO, astepO, sliceA_s, sliceP_c, pureK_is, killT, aev, cv, cvc, binK, elO_s, loadA_p, yieldA, guardA_tf, guardA_ff, condA_f, pickA_f, isC, nilA_ptr, bsD, Int.natCast_nonneg, Bool.false_eq_true, ↓reduceIte, List.getElem?_cons_zero, List.getElem?_cons_succ, List.length_cons, List.length_nil, List.map_cons, List.map_nil, List.append_nil, List.getElem?_toArray, Option.bind_some, Option.map_some, Option.map_none, Bool.true_and, true_and, ne_eq, not_false_eq_true, reduceCtorEq, Nat.reduceAdd, Nat.reduceEqDiff, Nat.zero_add, Int.toNat_natCast, Ty.td9, Ty.td89, show ((spanN digI l : Int) == 0) = false by simpa using h0, show decide ((7 : Int) < (spanN digI l : Int)) = false from decide_eq_false (by omega), show decide ((1 : Int) < (spanN digI l : Int)) = false from decide_eq_false (by omega), gr, sr, g0, e1, e2, ofL_size]
    refine ⟨by omega, ?_⟩
    refine call_meets (hat) (by simp only [aev, cv, cvc, toD_c, consO_some, toDL_nil, toDL_cons, isC, bsD, gr, sr, e2] <;> rfl) ?_; simp only [awp_skip, awp_reg, awp_seq, awp_cond, seqQ_n, awpOps_nil, awpOps_one, awpOp_is, isCallV, callW_is, callV_is, putK_is, updK_is, put_s, upd_n, upd_s, slot_is, pureOp, apureO, astepO, sliceA_s, sliceP_c, pureK_is, killT, aev, cv, cvc, binK, elO_s, loadA_p, storeA, cellsA, cellOk, setAll, condA_f, flat_c, flat_tup, flatL_nil, flatL_cons, ownsV_c, ownsL_nil, ownsL_cons, eqOpK_n, isC, nilA_ptr, bsD, Int.natCast_nonneg, Bool.false_eq_true, ↓reduceIte, List.getElem?_cons_zero, List.getElem?_cons_succ, List.length_cons, List.length_nil, List.map_cons, List.map_nil, List.append_nil, List.set_cons_zero, Option.map_some, Option.map_none, Bool.true_and, Bool.and_self, Bool.or_true, Bool.not_true, Value.oneCell', true_and, and_self, ne_eq, not_false_eq_true, reduceCtorEq, Nat.reduceAdd, Nat.reduceLeDiff, Nat.reduceEqDiff, Nat.zero_add, List.isEmpty_nil, Int.toNat_natCast, Ty.td9, Ty.td89, Ty.td144, gr, sr, e2, ofL_size]
    refine ⟨by omega, ?_⟩
    refine variable_ p _ hdl (fun q hq => ?_) fun hq => ?_
    · rw [hq] at hT
      simp only [awp_regX, awp_reg, awp_seq, awp_cond, seqQ_n, awpOps_nil, awpOps_one, awpOp_is, putK_is, put_s, slot_is, pureOp, apureO, aev, cv, cvc, elO_s, condA_t, isC, bsD, ↓reduceIte, List.getElem?_cons_zero, List.getElem?_cons_succ, Nat.reduceEqDiff, gr, sr]
      refine drawS_at 12 (by kernel_rfl) (by kernel_rfl) ?_; simp only [isCallV, awpOpD_is, callWD_is, callVD_is, putK_is, put_s, slot_is, pureOp, apureO, aev, cv, cvc, elO_s, loadA_p, isC, nilA_ptr, awpOpsN_one, bsD, Bool.false_eq_true, ↓reduceIte, List.getElem?_cons_zero, List.getElem?_cons_succ, List.length_cons, List.length_nil, List.map_cons, List.map_nil, List.append_nil, Bool.true_and, true_and, ne_eq, not_false_eq_true, reduceCtorEq, Nat.reduceAdd, Nat.reduceEqDiff, Nat.zero_add, Ty.td73, Ty.td89, gr, sr]
      refine calld_meets (var_ (ofL q.1)) (by simp only [aev, cv, cvc, toD_c, consO_some, toDL_nil, toDL_cons, isC, bsD, gr] <;> rfl) (by simp only [aev, cv, cvc, flat_c, flat_agg, flat_sl, flatL_nil, flatL_cons, ownsV_c, ownsL_nil, ownsL_cons, isC, bsD, List.append_nil, Bool.and_true, Bool.and_false, Bool.or_true, and_true, List.isEmpty_nil, gr]) ?_; simp only [awpOps_one, awpOp_is, isCallV, callW_is, callV_is, awpOpD_is, putK_is, put_s, slot_is, pureOp, apureO, aev, cv, cvc, binK, elO_s, loadA_p, isC, nilA_ptr, awpOpsN_0, awpOpsN_one, bsD, Bool.false_eq_true, ↓reduceIte, List.getElem?_cons_zero, List.getElem?_cons_succ, List.length_cons, List.length_nil, List.map_cons, List.map_nil, List.append_nil, Bool.true_and, true_and, ne_eq, not_false_eq_true, reduceCtorEq, Nat.reduceAdd, Nat.reduceEqDiff, Nat.zero_add, Ty.td3, Ty.td89, gr]
      refine add_in (c0 := c) (cs := cs) 0 (W (sg * numE (l.take (spanN digI l)))) (oneV q.1) (one_small (Nat.le_trans (varE_len hq).1 hdl)) (H3_s p) (H3_m p) (by simp [H3_len, refsT_cons, refsT_shift, ht, refsV, refsL, p.hr, p.hs]) (by rw [H3_len]; exact H3_refs p hh) ?_
      rw [H3_H2 p]
      simp only [awp_reg, awp_seq, awp_ret, seqQ_n, seqQ_r, awpOps_nil, awpOps_one, awpOp_is, inlQ_is, retT_s, unshift, putK_is, put_s, slot_is, pureOp, apureO, aev, cv, cvc, notExit, resA_nil, resA_tmp, oneA_1, unshift_shift, isC, bsD, ↓reduceIte, Bool.true_and, true_and, Nat.reduceLeDiff, gr]
      exact hT _ rfl
    · rw [hq] at hT hF2
      simp only at hT hF2
      simp only [awp_skip, awp_reg, awp_seq, awp_cond, seqQ_n, awpOps_nil, awpOps_one, awpOp_is, isCallV, callW_is, callV_is, putK_is, put_s, slot_is, pureOp, apureO, aev, cv, cvc, elO_s, condA_f, isC, bsD, Bool.false_eq_true, ↓reduceIte, List.getElem?_cons_zero, List.getElem?_cons_succ, List.map_cons, List.map_nil, List.append_nil, reduceCtorEq, Nat.reduceEqDiff, gr, sr]
      refine spaces_ p _ hdl ?_
      simp only [awp_reg, awp_seq, seqQ_n, awpOps_nil, awpOps_one, awpOp_is, isCallV, callW_is, callV_is, putK_is, put_s, slot_is, pureOp, apureO, aev, cv, cvc, elO_s, loadA_p, isC, nilA_ptr, bsD, Bool.false_eq_true, ↓reduceIte, List.getElem?_cons_zero, List.length_cons, List.length_nil, List.map_cons, List.map_nil, List.append_nil, Bool.true_and, true_and, ne_eq, not_false_eq_true, reduceCtorEq, Nat.reduceAdd, Nat.zero_add, Ty.td9, Ty.td89, gr, sr]
      refine call_meets (prefix_ _ htl 42 (by decide)) (by simp only [aev, cv, cvc, toD_c, consO_some, toDL_nil, toDL_cons, isC, bsD, gr, sr] <;> rfl) ?_; simp only [awp_cond, seqQ_n, awpOps_nil, awpOps_one, awpOp_is, putK_is, put_s, upd_s, slot_is, pureOp, apureO, killT, aev, cv, cvc, flat_c, ownsV_c, ownsL_nil, ownsL_cons, isC, bsD, ↓reduceIte, List.append_nil, Bool.or_true, List.isEmpty_nil, gr, sr]
      by_cases h42 : hd (trimE (l.drop (spanN digI l))) = 42
      · rw [if_pos h42] at hT hF2
        have := hd_len (l := trimE (l.drop (spanN digI l))) (by omega)
        have e3 : (ofL (trimE (l.drop (spanN digI l)))).extract 1 (trimE (l.drop (spanN digI l))).length = ofL ((trimE (l.drop (spanN digI l))).drop 1) := by rw [ofL_ext, List.take_length]
        simp only [awp_skip, awp_reg, awp_seq, seqQ_n, awpOps_nil, awpOps_one, awpOp_is, isCallV, callW_is, callV_is, putK_is, updK_is, put_s, upd_n, upd_s, slot_is, pureOp, apureO, astepO, sliceA_s, sliceP_c, pureK_is, killT, aev, cv, cvc, elO_s, loadA_p, storeA, cellsA, cellOk, setAll, condA_f, isC, nilA_ptr, bsD, Bool.false_eq_true, ↓reduceIte, List.getElem?_cons_zero, List.length_cons, List.length_nil, List.map_cons, List.map_nil, List.append_nil, List.set_cons_zero, Option.map_some, Option.map_none, Bool.true_and, Bool.not_true, Value.oneCell', true_and, ne_eq, not_false_eq_true, reduceCtorEq, Nat.reduceAdd, Nat.reduceLeDiff, Nat.reduceEqDiff, Nat.zero_add, Int.reduceToNat, Ty.td9, Ty.td89, show decide (hd (trimE (l.drop (spanN digI l))) = ((42 : UInt8).toNat : Int)) = true from decide_eq_true h42, gr, sr, ofL_size]
        refine ⟨by omega, by omega, ?_⟩
        simp only [e3]
        refine spaces_ p _ hul ?_
        simp only [awp_reg, awp_seq, seqQ_n, awpOps_nil, awpOps_one, awpOp_is, isCallV, callW_is, callV_is, putK_is, put_s, slot_is, pureOp, apureO, aev, cv, cvc, isC, bsD, Bool.false_eq_true, ↓reduceIte, List.map_cons, List.map_nil, List.append_nil, reduceCtorEq, gr, sr]
        refine variable_ p _ hwl (fun q hq2 => ?_) fun hq2 => ?_
        · rw [hq2] at hT
          simp only [awp_regX, awp_seq, seqQ_n, awpOps_nil, awpOps_one, awpOp_is, putK_is, put_s, slot_is, pureOp, apureO, aev, cv, cvc, elO_s, isC, bsD, ↓reduceIte, List.getElem?_cons_zero, List.getElem?_cons_succ, Nat.reduceEqDiff, gr, sr]
          refine drawS_at 12 (by kernel_rfl) (by kernel_rfl) ?_; simp only [isCallV, awpOpD_is, callWD_is, callVD_is, putK_is, put_s, slot_is, pureOp, apureO, aev, cv, cvc, elO_s, loadA_p, isC, nilA_ptr, awpOpsN_one, bsD, Bool.false_eq_true, ↓reduceIte, List.getElem?_cons_zero, List.getElem?_cons_succ, List.length_cons, List.length_nil, List.map_cons, List.map_nil, List.append_nil, Bool.true_and, true_and, ne_eq, not_false_eq_true, reduceCtorEq, Nat.reduceAdd, Nat.reduceEqDiff, Nat.zero_add, Ty.td73, Ty.td89, gr, sr]
          refine calld_meets (var_ (ofL q.1)) (by simp only [aev, cv, cvc, toD_c, consO_some, toDL_nil, toDL_cons, isC, bsD, gr] <;> rfl) (by simp only [aev, cv, cvc, flat_c, flat_agg, flat_sl, flatL_nil, flatL_cons, ownsV_c, ownsL_nil, ownsL_cons, isC, bsD, List.append_nil, Bool.and_true, Bool.and_false, Bool.or_true, and_true, List.isEmpty_nil, gr]) ?_; simp only [awpOps_one, awpOp_is, isCallV, callW_is, callV_is, awpOpD_is, putK_is, put_s, slot_is, pureOp, apureO, aev, cv, cvc, binK, elO_s, loadA_p, isC, nilA_ptr, awpOpsN_0, awpOpsN_one, bsD, Bool.false_eq_true, ↓reduceIte, List.getElem?_cons_zero, List.getElem?_cons_succ, List.length_cons, List.length_nil, List.map_cons, List.map_nil, List.append_nil, Bool.true_and, true_and, ne_eq, not_false_eq_true, reduceCtorEq, Nat.reduceAdd, Nat.reduceEqDiff, Nat.zero_add, Ty.td3, Ty.td89, gr]
          refine add_in (c0 := c) (cs := cs) 0 (W (sg * numE (l.take (spanN digI l)))) (oneV q.1) (one_small (Nat.le_trans (varE_len hq2).1 hwl)) (H3_s p) (H3_m p) (by simp [H3_len, refsT_cons, refsT_shift, ht, refsV, refsL, p.hr, p.hs]) (by rw [H3_len]; exact H3_refs p hh) ?_
          rw [H3_H2 p]
          simp only [awp_reg, awp_seq, awp_ret, seqQ_n, awpOps_nil, awpOps_one, awpOp_is, inlQ_is, retT_s, unshift, putK_is, put_s, slot_is, pureOp, apureO, aev, cv, cvc, notExit, resA_nil, resA_tmp, oneA_1, unshift_shift, isC, bsD, ↓reduceIte, Bool.true_and, true_and, Nat.reduceLeDiff, Nat.reduceEqDiff, gr]
          exact hT _ rfl
        · rw [hq2] at hF2
          simp only [awp_regX, awp_seq, seqQ_n, awpOps_nil, awpOps_one, awpOp_is, putK_is, put_s, slot_is, pureOp, apureO, aev, cv, cvc, elO_s, isC, bsD, ↓reduceIte, List.getElem?_cons_zero, List.getElem?_cons_succ, Nat.reduceEqDiff, gr, sr]
          refine drawS_at 12 (by kernel_rfl) (by kernel_rfl) ?_; simp only [isCallV, awpOpD_is, callWD_is, callVD_is, putK_is, put_s, slot_is, pureOp, apureO, aev, cv, cvc, elO_s, loadA_p, isC, nilA_ptr, awpOpsN_one, bsD, Bool.false_eq_true, ↓reduceIte, List.getElem?_cons_zero, List.getElem?_cons_succ, List.length_cons, List.length_nil, List.map_cons, List.map_nil, List.append_nil, Bool.true_and, true_and, ne_eq, not_false_eq_true, reduceCtorEq, Nat.reduceAdd, Nat.reduceEqDiff, Nat.zero_add, Ty.td73, Ty.td89, gr, sr]
          refine calld_meets (var_ ⟨#[]⟩) (by simp only [aev, cv, cvc, toD_c, consO_some, toDL_nil, toDL_cons, isC, bsD, gr] <;> rfl) (by simp only [aev, cv, cvc, flat_c, flat_agg, flat_sl, flatL_nil, flatL_cons, ownsV_c, ownsL_nil, ownsL_cons, isC, bsD, List.append_nil, Bool.and_true, Bool.and_false, Bool.or_true, and_true, List.isEmpty_nil, gr]) ?_; simp only [awpOps_one, awpOp_is, isCallV, callW_is, callV_is, awpOpD_is, putK_is, put_s, slot_is, pureOp, apureO, aev, cv, cvc, binK, elO_s, loadA_p, isC, nilA_ptr, awpOpsN_0, awpOpsN_one, bsD, Bool.false_eq_true, ↓reduceIte, List.getElem?_cons_zero, List.getElem?_cons_succ, List.length_cons, List.length_nil, List.map_cons, List.map_nil, List.append_nil, Bool.true_and, true_and, ne_eq, not_false_eq_true, reduceCtorEq, Nat.reduceAdd, Nat.reduceEqDiff, Nat.zero_add, Ty.td3, Ty.td89, gr]
          refine add_in (c0 := c) (cs := cs) 0 (W (sg * numE (l.take (spanN digI l)))) [(⟨#[]⟩, 1)] ⟨by simp, fun t ht => by simp at ht; subst ht; exact Nat.zero_le _⟩ (H3_s p) (H3_m p) (by simp [H3_len, refsT_cons, refsT_shift, ht, refsV, refsL, p.hr, p.hs]) (by rw [H3_len]; exact H3_refs p hh) ?_
          rw [H3_H2 p]
          simp only [awp_reg, awp_seq, awp_ret, seqQ_n, awpOps_nil, awpOps_one, awpOp_is, inlQ_is, retT_s, unshift, putK_is, put_s, slot_is, pureOp, apureO, aev, cv, cvc, notExit, resA_nil, resA_tmp, oneA_1, unshift_shift, isC, bsD, ↓reduceIte, Bool.true_and, true_and, Nat.reduceLeDiff, Nat.reduceEqDiff, gr]
          exact hF2 rfl _ _ _ hq2 hwl
      · rw [if_neg h42] at hT
        simp only [awp_regX, awp_seq, aev, cv, cvc, condA_t, isC, bsD, Bool.not_false, show decide (hd (trimE (l.drop (spanN digI l))) = ((42 : UInt8).toNat : Int)) = false from decide_eq_false h42, gr, sr]
        refine drawS_at 10 (by kernel_rfl) (by kernel_rfl) ?_; simp only [isCallV, awpOpD_is, callWD_is, callVD_is, putK_is, put_s, slot_is, pureOp, apureO, aev, cv, cvc, elO_s, loadA_p, isC, nilA_ptr, awpOpsN_one, bsD, Bool.false_eq_true, ↓reduceIte, List.getElem?_cons_zero, List.getElem?_cons_succ, List.length_cons, List.length_nil, List.map_cons, List.map_nil, List.append_nil, Bool.true_and, true_and, ne_eq, not_false_eq_true, reduceCtorEq, Nat.reduceAdd, Nat.reduceEqDiff, Nat.zero_add, Ty.td73, Ty.td89, gr, sr]
        refine calld_meets (of_ (numE (l.take (spanN digI l)))) (by simp only [aev, cv, cvc, toD_c, consO_some, toDL_nil, toDL_cons, isC, bsD, gr] <;> rfl) (by simp only [aev, cv, cvc, flat_c, flat_agg, flat_sl, flatL_nil, flatL_cons, ownsV_c, ownsL_nil, ownsL_cons, isC, bsD, List.append_nil, Bool.and_true, Bool.and_false, Bool.or_true, and_true, List.isEmpty_nil, gr]) ?_; simp only [awpOps_one, awpOp_is, isCallV, callW_is, callV_is, awpOpD_is, putK_is, put_s, slot_is, pureOp, apureO, aev, cv, cvc, elO_s, loadA_p, isC, nilA_ptr, awpOpsN_0, awpOpsN_one, bsD, Bool.false_eq_true, ↓reduceIte, List.getElem?_cons_zero, List.getElem?_cons_succ, List.length_cons, List.length_nil, List.map_cons, List.map_nil, List.append_nil, Bool.true_and, true_and, ne_eq, not_false_eq_true, reduceCtorEq, Nat.reduceAdd, Nat.reduceEqDiff, Nat.zero_add, Ty.td3, Ty.td89, gr]
        refine add_in (c0 := c) (cs := cs) (numE (l.take (spanN digI l))) sg [] ⟨by simp, by simp⟩ (H3_s p) (H3_m p) (by simp [H3_len, refsT_cons, refsT_shift, ht, refsV, refsL, p.hr, p.hs]) (by rw [H3_len]; exact H3_refs p hh) ?_
        rw [H3_H2 p]
        simp only [awp_reg, awp_seq, awp_ret, seqQ_n, seqQ_r, awpOps_nil, awpOps_one, awpOp_is, inlQ_is, retT_s, unshift, putK_is, put_s, slot_is, pureOp, apureO, aev, cv, cvc, notExit, resA_nil, resA_tmp, oneA_1, unshift_shift, isC, bsD, ↓reduceIte, Bool.true_and, true_and, Nat.reduceLeDiff, gr]
        exact hT _ rfl
end

end Go.Proofs.YtjgaebomcdkohaaGreatDoor.L9
