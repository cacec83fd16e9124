/- Linear expressions: parsing in the program. -/
import Derived.Test.YtjgaebomcdkohaaGreatDoorL10
namespace Go.Proofs.YtjgaebomcdkohaaGreatDoor.L11
open Go Go.Proofs.YtjgaebomcdkohaaGreatDoor.Eng Go.Proofs.YtjgaebomcdkohaaGreatDoor Go.RowKit Go.Proofs.YtjgaebomcdkohaaGreatDoor.L1 Go.Proofs.YtjgaebomcdkohaaGreatDoor.L2 Go.Proofs.YtjgaebomcdkohaaGreatDoor.L3 Go.Proofs.YtjgaebomcdkohaaGreatDoor.L4 Go.Proofs.YtjgaebomcdkohaaGreatDoor.L5 Go.Proofs.YtjgaebomcdkohaaGreatDoor.L6 Go.Proofs.YtjgaebomcdkohaaGreatDoor.L7 Go.Proofs.YtjgaebomcdkohaaGreatDoor.L8 Go.Proofs.YtjgaebomcdkohaaGreatDoor.L9 Go.Proofs.YtjgaebomcdkohaaGreatDoor.L10
set_option linter.unusedSimpArgs false
set_option linter.unusedVariables false
set_option linter.unusedSectionVars false
set_option maxRecDepth 100000

theorem varE_pos {l : List UInt8} {q : List UInt8 × List UInt8} (h : varE l = some q) : q.2.length < l.length := by
  rw [varE_is] at h
  split at h
  · rename_i hn
    cases h
    have hv := varN_le l
    have : 0 < varN l := by
      rcases Nat.eq_zero_or_pos (varN l) with h0 | h0
      · rw [h0, List.take_zero] at hn
        exact absurd hn (by decide)
      · exact h0
    simp
    omega
  · cases h
theorem one_ok {k c : Int} {v : List UInt8} {st : Int × List Tm} (hv : v.length ≤ 1000000) (hs : ∀ t ∈ st.2, t.1.size ≤ 1000000) : (addS k c (oneV v) st).2.length ≤ st.2.length + 1 ∧ ∀ t ∈ (addS k c (oneV v) st).2, t.1.size ≤ 1000000 :=
  ⟨addT_len k (oneV v) st.2, addT_mem (P := fun v => v.size ≤ 1000000) k (oneV v) (one_small hv).2 hs⟩
theorem itemE_ok {sg : Int} {l : List UInt8} {st : Int × List Tm} {q : List UInt8 × (Int × List Tm)} (hl : l.length ≤ 1000000) (hs : ∀ t ∈ st.2, t.1.size ≤ 1000000) (h : itemE sg l st = some q) : q.1.length < l.length ∧ q.2.2.length ≤ st.2.length + 1 ∧ ∀ t ∈ q.2.2, t.1.size ≤ 1000000 := by
  rw [condN_itemE] at h
  split at h
  · cases hv : varE l with
    | none => rw [hv] at h; cases h
    | some p =>
      rw [hv] at h
      cases h
      have h1 := varE_pos hv
      have h2 := (varE_len hv).1
      have h3 := trimE_len p.2
      exact ⟨by simp only; omega, one_ok (by omega) hs⟩
  · rename_i hc
    have he : 0 < spanN digI l := Nat.pos_of_ne_zero fun h0 => hc (Or.inl h0)
    have hle := spanN_le digI l
    unfold itemN at h
    have h1 : (l.drop (spanN digI l)).length < l.length := by simp; omega
    have h2 := trimE_len (l.drop (spanN digI l))
    have h3 := trimE_len ((trimE (l.drop (spanN digI l))).drop 1)
    have h4 : ((trimE (l.drop (spanN digI l))).drop 1).length < l.length := by simp; omega
    cases hv : varE (l.drop (spanN digI l)) with
    | some p =>
      rw [hv] at h
      cases h
      have := varE_len hv
      have := trimE_len p.2
      exact ⟨by simp only; omega, one_ok (by omega) hs⟩
    | none =>
      rw [hv] at h
      simp only at h
      split at h
      · cases hv2 : varE (trimE ((trimE (l.drop (spanN digI l))).drop 1)) with
        | none => rw [hv2] at h; cases h
        | some p =>
          rw [hv2] at h
          cases h
          have := varE_len hv2
          have := trimE_len p.2
          exact ⟨by simp only; omega, one_ok (by omega) hs⟩
      · cases h
        have := trimE_len (trimE (l.drop (spanN digI l)))
        exact ⟨by simp only; omega, by show st.2.length ≤ _; omega, hs⟩
theorem signedE_len {f : Bool} {l : List UInt8} {p : Int × List UInt8} (h : signedE f l = some p) : p.2.length ≤ l.length := by
  unfold signedE at h
  have h1 := trimE_len (l.drop 1)
  split at h
  · cases h; simp at *; omega
  · split at h
    · cases h; simp at *; omega
    · split at h
      · cases h; simp
      · cases h
def hP : Heap := [some (.var 24 [I 0, .nils]), none, none, none]
theorem posP : Pos hP 3 2 1 := ⟨by decide, by decide, by decide, by decide, by decide, by decide⟩
theorem parseL_succ (n : Nat) (first : Bool) (l : List UInt8) (st : Int × List Tm) : parseL (n + 1) first l st = if first = false ∧ l = [] then some st else match signedE first l with
      | none => none
      | some p => match itemE p.1 p.2 st with
        | none => none
        | some q => parseL n false q.1 q.2 := rfl
theorem parse_res (hks : KS) (hA : AtoiOk) (l : List UInt8) (hl : l.length ≤ 10000) (res : AV) (hN : parseL (l.length + 1) true (trimE l) (0, []) = none → res = .tup [.agg [I 0, .nils], I 6]) (hS : ∀ st, parseL (l.length + 1) true (trimE l) (0, []) = some st → res = linR (linearE st.1 st.2)) : Meets Tryz.prog 28 [SL l] res := by
  have gr : ∀ l sg c cs, (H3 hP 3 2 1 l sg c cs)[3]? = some (readB l sg 2) := fun l sg c cs => H3_r posP
  have g0 : ∀ l sg c cs, (H3 hP 3 2 1 l sg c cs)[0]? = some (some (.var 24 [I 0, .nils])) := fun l sg c cs => rfl
  have gs : ∀ l sg c cs b, ((H3 hP 3 2 1 l sg c cs).set 0 b)[0]? = some b := fun l sg c cs b => rfl
  have e0 : (⟨#[]⟩ : ByteArray).toList = [] := by rw [ByteArray.toList_eq]
  refine meets_of (X := true) Ty.mixed Tryz.func28 (by kernel_rfl) rfl (by kernel_rfl) (by simp) ?_; rw [Tryz.ntmps28, Tryz.results28]
  simp only [awp_reg, awp_seq, seqQ_n, awpOps_nil, awpOps_one, awpOp_is, isCallV, callW_is, callV_is, putK_is, updK_is, put_s, upd_s, slot_is, pureOp, apureO, astepO, killT, aev, cv, cvc, elO_s, argT, isC, bsD, Bool.false_eq_true, ↓reduceIte, List.length_nil, List.map_cons, List.map_nil, List.nil_append, List.append_nil, List.all_cons, List.all_nil, Bool.true_and, Bool.and_self, Value.oneCell', true_and, and_self, reduceCtorEq, Ty.td24]
  refine call_inl (X := false) Ty.mixed Tryz.func45 (by kernel_rfl) rfl (by kernel_rfl) (by simp) ?_; rw [Tryz.ntmps45, Tryz.results45]; simp only [awp_reg, awp_seq, awp_ret, seqQ_n, awpOps_nil, awpOps_one, awpOp_is, isCallV, callW_is, callV_is, inlQ_is, retT_s, shiftT, unshift, putK_is, updK_is, put_s, upd_n, upd_s, slot_is, slot.eq_1, pureOp, apureO, astepO, killT, aev, cv, cvc, elO_s, storeA, cellsA, cellOk, setAll, fillA, placeT, placesA, notExit, resA_nil, resA_tmp, oneA_1, argT, mapT_is, kindK_is, mmakA_n, isC, bsD, Bool.false_eq_true, ↓reduceIte, List.getElem?_cons_zero, List.getElem?_cons_succ, List.length_cons, List.length_nil, List.map_cons, List.map_nil, List.cons_append, List.nil_append, List.append_nil, List.set_cons_zero, List.set_cons_succ, Option.map_none, List.all_cons, List.all_nil, Bool.and_true, Bool.true_and, Bool.and_self, Value.oneCell', true_and, and_true, and_self, ne_eq, not_false_eq_true, reduceCtorEq, Nat.reduceAdd, Nat.reduceLeDiff, Nat.reduceEqDiff, Nat.reduceSub, Nat.zero_add, Nat.add_zero, Nat.le_refl, Ty.td3, Ty.td9, Ty.td73, Ty.td89, Ty.td109, Ty.td111]
  refine spaces_ (h := hP) (r := 3) (s := 2) (m := 1) (sg := 0) (c := 0) (cs := []) posP l (by omega) ?_
  simp only [awp_reg, awp_seq, awp_block, awp_loop, seqQ_n, awpOps_nil, awpOps_one, awpOp_is, putK_is, put_s, pureOp, apureO, aev, cv, cvc, isC, bsD, ↓reduceIte]
  have htl := trimE_len l
  refine loop_g (fun a : Nat × Bool × List UInt8 × Int × Int × List Tm => parseL a.1 a.2.1 a.2.2.1 a.2.2.2.2 = parseL (l.length + 1) true (trimE l) (0, []) ∧ a.2.2.1.length < a.1 ∧ a.2.2.2.2.2.length + a.2.2.1.length ≤ 10000 ∧ ∀ t ∈ a.2.2.2.2.2, t.1.size ≤ 1000000) (fun a => ⟨29, [(5, B a.2.1), (4, .ptr 3 0), (3, I 0), (2, .ptr 0 0)], H3 hP 3 2 1 a.2.2.1 a.2.2.2.1 a.2.2.2.2.1 a.2.2.2.2.2⟩) (fun a => a.1) (l.length + 1, true, trimE l, 0, 0, []) ⟨rfl, by simp only; omega, by simp; omega, by simp⟩ (by simp only [slot_is, aev, cv, cvc, Weak, isC, bsD, ↓reduceIte, Bool.and_self, and_self, Nat.reduceEqDiff]) rfl (.inl rfl) ?_
  rintro ⟨f, first, l1, sg, c, cs⟩ ⟨h1, h2, h3, h4⟩ K hK
  simp only at h1 h2 h3 h4 ⊢
  obtain ⟨f, rfl⟩ : ∃ g, f = g + 1 := ⟨f - 1, by omega⟩
  rw [← h1, parseL_succ] at hN hS
  by_cases hend : first = false ∧ l1 = []
  · obtain ⟨rfl, rfl⟩ := hend
    rw [if_pos ⟨rfl, rfl⟩] at hS
    simp only [awp_reg, awp_seq, awp_cond, awp_exit, seqQ_n, seqQ_e, loopQ_e, blkQ_e, awpOps_nil, awpOps_one, awpOps_if, awpOp_is, isCallV, callW_is, callV_is, awpO_is, putK_is, put_s, slot_is, pureOp, apureO, aev, cv, cvc, binK, elO_s, loadA_p, yieldA, guardA_ff, condA_f, pickA_f, isC, bsD, Bool.false_eq_true, ↓reduceIte, List.getElem?_cons_zero, List.getElem?_cons_succ, List.length_cons, List.length_nil, List.map_cons, List.map_nil, List.append_nil, List.getElem?_toArray, Option.bind_some, Bool.true_and, Bool.not_true, true_and, ne_eq, not_false_eq_true, reduceCtorEq, Nat.reduceAdd, Nat.reduceEqDiff, Nat.zero_add, Ty.td9, Ty.td73, Ty.td89, gr, e0, show (([] : List UInt8) == []) = true from rfl]
    refine linear_in hks ⟨by simp at h3; omega, h4⟩ (H3_s posP) (H3_m posP) rfl rfl ?_
    simp only [awp_ret, seqQ_n, awpOps_nil, awpOps_one, awpOp_is, isCallV, putK_is, updK_is, put_s, upd_n, slot_is, retA_is, pureOp, apureO, astepO, killT, aev, cv, cvc, elO_s, loadA_p, storeA, cellsA, cellOk, setAll, toD_c, toD_tup, toD_agg, toD_sl, consO_some, toDL_nil, toDL_cons, notExit, resA_nil, resA_tmp, resA_cell, oneA_2, isC, bsD, Bool.false_eq_true, ↓reduceIte, List.getElem?_cons_zero, List.getElem?_cons_succ, List.length_cons, List.length_nil, List.set_cons_zero, List.set_cons_succ, Option.map_some, List.take_succ_cons, List.drop_zero, Bool.true_and, true_and, Nat.reduceAdd, Nat.reduceEqDiff, Nat.zero_add, Nat.le_refl, List.take_nil, Ty.td24, gr, g0, gs]
    rw [hS _ rfl]
  · rw [if_neg hend] at hN hS
    have hgo : first = true ∨ first = false ∧ (l1 == []) = false := by
      cases first with
      | true => exact Or.inl rfl
      | false => exact Or.inr ⟨rfl, by simpa using fun e => hend ⟨rfl, e⟩⟩
    rcases hgo with rfl | ⟨rfl, hne⟩
    · simp only [awp_skip, awp_reg, awp_seq, awp_cond, awp_block, seqQ_n, awpOps_nil, awpOps_one, awpOps_if, awpOp_is, isCallV, callW_is, callV_is, putK_is, put_s, slot_is, pureOp, apureO, aev, cv, cvc, yieldA, guardA_ft, condA_t, pickA_t, isC, bsD, Bool.false_eq_true, ↓reduceIte, List.getElem?_cons_zero, List.getElem?_cons_succ, List.map_cons, List.map_nil, List.append_nil, List.getElem?_toArray, Option.bind_some, Nat.reduceEqDiff, gr, e0]
      refine signed_ posP l1 (by omega) true (fun p hp => ?_) fun hp => ?_
      · rw [hp] at hN hS
        simp only at hN hS
        have hpl := signedE_len hp
        simp only [awpOps_one, awpOps_if, awpOp_is, isCallV, callW_is, callV_is, awpO_is, putK_is, put_s, slot_is, pureOp, apureO, aev, cv, cvc, yieldA, guardA_ff, isC, bsD, Bool.false_eq_true, ↓reduceIte, List.getElem?_cons_zero, List.getElem?_cons_succ, List.map_cons, List.map_nil, List.append_nil, List.getElem?_toArray, Option.bind_some, Bool.not_true, Nat.reduceEqDiff, gr]
        refine item_ (c := c) (cs := cs) posP rfl rfl hA p.2 (by omega) (fun q hq => ?_) fun hq l' c' cs' => ?_
        · rw [hq] at hN hS
          simp only at hN hS
          obtain ⟨h5, h6, h7⟩ := itemE_ok (by omega) h4 hq
          simp only at h6
          have HI := h1
          rw [parseL_succ, if_neg hend, hp] at HI
          simp only at HI
          rw [hq] at HI
          simp only at HI
          simp only [awp_skip, awp_reg, awp_cond, seqQ_n, loopQ_n, blkQ_n, awpOps_nil, awpOps_one, awpOps_if, awpOp_is, awpO_is, putK_is, put_s, slot_is, pureOp, apureO, aev, cv, cvc, yieldA, guardA_ff, condA_f, pickA_f, isC, bsD, ↓reduceIte, List.getElem?_cons_zero, List.getElem?_cons_succ, List.getElem?_toArray, Option.bind_some, Bool.not_true, Nat.reduceEqDiff, gr]
          exact hK (f, false, q.1, p.1, q.2.1, q.2.2) _ ⟨HI, by simp only; omega, by simp only; omega, h7⟩ (by simp) (by simp only [slot_is, aev, cv, cvc, Weak, isC, bsD, ↓reduceIte, Bool.and_self, and_self, Nat.reduceEqDiff]) rfl (.inl rfl)
        · rw [hq] at hN
          simp only [awp_reg, awp_seq, awp_cond, awp_ret, seqQ_n, seqQ_r, loopQ_r, blkQ_r, awpOps_nil, awpOps_one, awpOps_if, awpOp_is, isCallV, awpO_is, putK_is, updK_is, put_s, upd_n, slot_is, slot.eq_1, retA_is, pureOp, apureO, astepO, killT, aev, cv, cvc, elO_s, loadA_p, storeA, cellsA, cellOk, setAll, fillA, placeT, placesA, yieldA, guardA_ff, condA_t, pickA_f, toD_c, toD_nils, toD_tup, toD_agg, consO_some, toDL_nil, toDL_cons, notExit, resA_nil, resA_tmp, resA_cell, oneA_2, isC, bsD, Bool.false_eq_true, ↓reduceIte, List.getElem?_cons_zero, List.getElem?_cons_succ, List.length_cons, List.length_nil, List.map_cons, List.map_nil, List.set_cons_zero, List.set_cons_succ, List.getElem?_toArray, Option.bind_some, Option.map_some, List.take_succ_cons, List.drop_zero, List.all_cons, List.all_nil, Bool.true_and, Bool.and_self, Bool.not_false, Value.oneCell', true_and, and_self, ne_eq, not_false_eq_true, reduceCtorEq, Nat.reduceAdd, Nat.reduceEqDiff, Nat.zero_add, Nat.le_refl, List.take_nil, Ty.td3, Ty.td22, Ty.td24, gr, g0, gs]
          rw [hN rfl]
      · rw [hp] at hN
        simp only [awp_reg, awp_seq, awp_cond, awp_ret, seqQ_n, seqQ_r, loopQ_r, blkQ_r, awpOps_nil, awpOps_one, awpOps_if, awpOp_is, isCallV, putK_is, updK_is, put_s, upd_n, slot_is, slot.eq_1, retA_is, pureOp, apureO, astepO, killT, aev, cv, cvc, elO_s, loadA_p, storeA, cellsA, cellOk, setAll, fillA, placeT, placesA, yieldA, guardA_ft, condA_t, pickA_t, toD_c, toD_nils, toD_tup, toD_agg, consO_some, toDL_nil, toDL_cons, notExit, resA_nil, resA_tmp, resA_cell, oneA_2, isC, bsD, Bool.false_eq_true, ↓reduceIte, List.getElem?_cons_zero, List.getElem?_cons_succ, List.length_cons, List.length_nil, List.map_cons, List.map_nil, List.set_cons_zero, List.set_cons_succ, List.getElem?_toArray, Option.bind_some, Option.map_some, List.take_succ_cons, List.drop_zero, List.all_cons, List.all_nil, Bool.true_and, Bool.and_self, Bool.not_false, Value.oneCell', true_and, and_self, ne_eq, not_false_eq_true, reduceCtorEq, Nat.reduceAdd, Nat.reduceEqDiff, Nat.zero_add, Nat.le_refl, List.take_nil, Ty.td3, Ty.td22, Ty.td24, gr, g0, gs]
        rw [hN rfl]
    · simp only [awp_skip, awp_reg, awp_seq, awp_cond, awp_block, seqQ_n, awpOps_nil, awpOps_one, awpOps_if, awpOp_is, isCallV, callW_is, callV_is, awpO_is, putK_is, put_s, slot_is, pureOp, apureO, aev, cv, cvc, binK, elO_s, loadA_p, yieldA, guardA_ff, condA_t, pickA_f, isC, bsD, Bool.false_eq_true, ↓reduceIte, List.getElem?_cons_zero, List.getElem?_cons_succ, List.length_cons, List.length_nil, List.map_cons, List.map_nil, List.append_nil, List.getElem?_toArray, Option.bind_some, Bool.true_and, Bool.not_false, true_and, ne_eq, not_false_eq_true, reduceCtorEq, Nat.reduceAdd, Nat.reduceEqDiff, Nat.zero_add, Ty.td9, Ty.td89, gr, ofL_toList, e0, hne]
      refine signed_ posP l1 (by omega) false (fun p hp => ?_) fun hp => ?_
      · rw [hp] at hN hS
        simp only at hN hS
        have hpl := signedE_len hp
        simp only [awpOps_one, awpOps_if, awpOp_is, isCallV, callW_is, callV_is, awpO_is, putK_is, put_s, slot_is, pureOp, apureO, aev, cv, cvc, yieldA, guardA_ff, isC, bsD, Bool.false_eq_true, ↓reduceIte, List.getElem?_cons_zero, List.getElem?_cons_succ, List.map_cons, List.map_nil, List.append_nil, List.getElem?_toArray, Option.bind_some, Bool.not_true, Nat.reduceEqDiff, gr]
        refine item_ (c := c) (cs := cs) posP rfl rfl hA p.2 (by omega) (fun q hq => ?_) fun hq l' c' cs' => ?_
        · rw [hq] at hN hS
          simp only at hN hS
          obtain ⟨h5, h6, h7⟩ := itemE_ok (by omega) h4 hq
          simp only at h6
          have HI := h1
          rw [parseL_succ, if_neg hend, hp] at HI
          simp only at HI
          rw [hq] at HI
          simp only at HI
          simp only [awp_skip, awp_reg, awp_cond, seqQ_n, loopQ_n, blkQ_n, awpOps_nil, awpOps_one, awpOps_if, awpOp_is, awpO_is, putK_is, put_s, slot_is, pureOp, apureO, aev, cv, cvc, yieldA, guardA_ff, condA_f, pickA_f, isC, bsD, ↓reduceIte, List.getElem?_cons_zero, List.getElem?_cons_succ, List.getElem?_toArray, Option.bind_some, Bool.not_true, Nat.reduceEqDiff, gr]
          exact hK (f, false, q.1, p.1, q.2.1, q.2.2) _ ⟨HI, by simp only; omega, by simp only; omega, h7⟩ (by simp) (by simp only [slot_is, aev, cv, cvc, Weak, isC, bsD, ↓reduceIte, Bool.and_self, and_self, Nat.reduceEqDiff]) rfl (.inl rfl)
        · rw [hq] at hN
          simp only [awp_reg, awp_seq, awp_cond, awp_ret, seqQ_n, seqQ_r, loopQ_r, blkQ_r, awpOps_nil, awpOps_one, awpOps_if, awpOp_is, isCallV, awpO_is, putK_is, updK_is, put_s, upd_n, slot_is, slot.eq_1, retA_is, pureOp, apureO, astepO, killT, aev, cv, cvc, elO_s, loadA_p, storeA, cellsA, cellOk, setAll, fillA, placeT, placesA, yieldA, guardA_ff, condA_t, pickA_f, toD_c, toD_nils, toD_tup, toD_agg, consO_some, toDL_nil, toDL_cons, notExit, resA_nil, resA_tmp, resA_cell, oneA_2, isC, bsD, Bool.false_eq_true, ↓reduceIte, List.getElem?_cons_zero, List.getElem?_cons_succ, List.length_cons, List.length_nil, List.map_cons, List.map_nil, List.set_cons_zero, List.set_cons_succ, List.getElem?_toArray, Option.bind_some, Option.map_some, List.take_succ_cons, List.drop_zero, List.all_cons, List.all_nil, Bool.true_and, Bool.and_self, Bool.not_false, Value.oneCell', true_and, and_self, ne_eq, not_false_eq_true, reduceCtorEq, Nat.reduceAdd, Nat.reduceEqDiff, Nat.zero_add, Nat.le_refl, List.take_nil, Ty.td3, Ty.td22, Ty.td24, gr, g0, gs]
          rw [hN rfl]
      · rw [hp] at hN
        simp only [awp_reg, awp_seq, awp_cond, awp_ret, seqQ_n, seqQ_r, loopQ_r, blkQ_r, awpOps_nil, awpOps_one, awpOps_if, awpOp_is, isCallV, putK_is, updK_is, put_s, upd_n, slot_is, slot.eq_1, retA_is, pureOp, apureO, astepO, killT, aev, cv, cvc, elO_s, loadA_p, storeA, cellsA, cellOk, setAll, fillA, placeT, placesA, yieldA, guardA_ft, condA_t, pickA_t, toD_c, toD_nils, toD_tup, toD_agg, consO_some, toDL_nil, toDL_cons, notExit, resA_nil, resA_tmp, resA_cell, oneA_2, isC, bsD, Bool.false_eq_true, ↓reduceIte, List.getElem?_cons_zero, List.getElem?_cons_succ, List.length_cons, List.length_nil, List.map_cons, List.map_nil, List.set_cons_zero, List.set_cons_succ, List.getElem?_toArray, Option.bind_some, Option.map_some, List.take_succ_cons, List.drop_zero, List.all_cons, List.all_nil, Bool.true_and, Bool.and_self, Bool.not_false, Value.oneCell', true_and, and_self, ne_eq, not_false_eq_true, reduceCtorEq, Nat.reduceAdd, Nat.reduceEqDiff, Nat.zero_add, Nat.le_refl, List.take_nil, Ty.td3, Ty.td22, Ty.td24, gr, g0, gs]
        rw [hN rfl]
theorem parse (hks : KS) (hA : AtoiOk) (l : List UInt8) (hl : l.length ≤ 10000) : Meets Tryz.prog 28 [SL l] (linR (parseE l)) := by
  unfold parseE
  cases h : parseL (l.length + 1) true (trimE l) (0, []) with
  | none =>
    exact Meets.weak (parse_res hks hA l hl (.tup [.agg [I 0, .nils], I 6]) (fun _ => rfl) (fun st hs => by rw [h] at hs; cases hs)) fun ok w v h => nilR h
  | some st => exact parse_res hks hA l hl _ (fun hn => by rw [h] at hn; cases hn) fun st' hs => by rw [h] at hs; cases hs; rfl

end Go.Proofs.YtjgaebomcdkohaaGreatDoor.L11
