/- Linear expressions: the reference's Plus, in the program. -/
import Derived.Test.YtjgaebomcdkohaaGreatDoorL25
namespace Go.Proofs.YtjgaebomcdkohaaGreatDoor.L26
open Go Go.Proofs.YtjgaebomcdkohaaGreatDoor.Eng Go.Proofs.YtjgaebomcdkohaaGreatDoor Go.RowKit Go.Proofs.YtjgaebomcdkohaaGreatDoor.L1 Go.Proofs.YtjgaebomcdkohaaGreatDoor.L2 Go.Proofs.YtjgaebomcdkohaaGreatDoor.L3 Go.Proofs.YtjgaebomcdkohaaGreatDoor.L16 Go.Proofs.YtjgaebomcdkohaaGreatDoor.L17 Go.Proofs.YtjgaebomcdkohaaGreatDoor.L19 Go.Proofs.YtjgaebomcdkohaaGreatDoor.L20 Go.Proofs.YtjgaebomcdkohaaGreatDoor.L25
set_option linter.unusedSimpArgs false
set_option linter.unusedVariables false
set_option linter.unusedSectionVars false
set_option maxRecDepth 100000

abbrev slV5 (o : List Tm) : AV := if o = [] then .nils else .own 5 2 o.length
abbrev hP5 (c : Int) (ts o : List Tm) : Heap := [some (.var 24 [I c, tms ts]), some (.var 24 [I 0, .nils]), some (.var 24 [I c, slV5 o])] ++ if o = [] then [] else [none, none, some (.row 42 2 (o.map tmV))]
abbrev hQ4 (c : Int) (ts q : List Tm) : Heap := [some (.var 24 [I c, tms ts]), some (.var 24 [I 0, .nils]), some (.var 24 [I c, .own 4 2 q.length]), none, some (.row 42 2 (q.map tmV))]
abbrev hQ5 (c : Int) (ts q : List Tm) : Heap := [some (.var 24 [I c, tms ts]), some (.var 24 [I 0, .nils]), some (.var 24 [I c, .own 5 2 q.length]), none, none, some (.row 42 2 (q.map tmV))]

/-- The terms packed in place: the first k are those that stay of the first i. -/
def pk (p : List Tm) (k i : Nat) (q : List Tm) : Prop := k ≤ i ∧ i ≤ p.length ∧ q.length = p.length ∧ q.take k = (p.take i).filter (fun t => !decide (t.2 = 0)) ∧ q.drop i = p.drop i
theorem pk_0 (p : List Tm) : pk p 0 0 p := ⟨Nat.le_refl _, Nat.zero_le _, rfl, rfl, rfl⟩
section
variable {p q : List Tm} {k i : Nat} {t : Tm} (h : pk p k i q) (ht : p[i]? = some t)
include h ht
theorem pk_get : q[i]? = some t := by
  have e := congrArg (fun l => l[0]?) h.2.2.2.2
  simp only [List.getElem?_drop, Nat.add_zero] at e
  rw [e, ht]
theorem pk_take : p.take (i + 1) = p.take i ++ [t] := by
  obtain ⟨h1, rfl⟩ := List.getElem?_eq_some_iff.1 ht
  exact (List.take_append_getElem h1).symm
theorem pk_drop (h0 : t.2 = 0) : pk p k (i + 1) q := by
  obtain ⟨h1, h2, h3, h4, h5⟩ := h
  have hl := (List.getElem?_eq_some_iff.1 ht).1
  refine ⟨by omega, by omega, h3, ?_, ?_⟩
  · rw [pk_take ⟨h1, h2, h3, h4, h5⟩ ht, List.filter_append, h4]
    simp [h0]
  · rw [← List.drop_drop, h5, List.drop_drop]
theorem pk_keep (h0 : ¬ t.2 = 0) : pk p (k + 1) (i + 1) (q.set k t) := by
  have e := pk_take h ht
  obtain ⟨h1, h2, h3, h4, h5⟩ := h
  have hl := (List.getElem?_eq_some_iff.1 ht).1
  refine ⟨by omega, by omega, by rw [List.length_set, h3], ?_, ?_⟩
  · rw [e, List.filter_append, ← h4]
    have hk : k < (q.set k t).length := by rw [List.length_set]; omega
    rw [← List.take_append_getElem hk, List.take_set_of_le (Nat.le_refl _), List.getElem_set_self]
    simp [h0]
  · rw [List.drop_set_of_lt (by omega), ← List.drop_drop, h5, List.drop_drop]
end
theorem pk_end {p q : List Tm} {k i : Nat} (h : pk p k i q) (hi : p.length ≤ i) : q.take k = p.filter (fun t => !decide (t.2 = 0)) := by
  rw [h.2.2.2.1, List.take_of_length_le hi]
set_option maxHeartbeats 2000000 in
theorem rplus (c : Int) (ts : List Tm) (s : ByteArray) (x : Int) (hr : risT ts) (hl : ts.length ≤ 100000) : Meets Tryz.prog 65 [ln c ts, S s, I x] (ln c (plusT s x ts)) := by
  refine meets_of (X := true) Ty.mixed Tryz.func65 (by kernel_rfl) rfl (by kernel_rfl) (by simp) ?_; rw [Tryz.ntmps65, Tryz.results65]
  simp only [awp_reg, awp_seq, awp_block, awp_loop, seqQ_n, awpOps_nil, awpOps_one, awpOp_is, isCallV, putK_is, updK_is, put_s, upd_n, upd_s, slot_is, slot.eq_1, pureOp, apureO, astepO, killT, aev, cv, cvc, elO_s, loadA_p, storeA, cellsA, cellOk, setAll, fillA, placeT, placesA, argT, isC, bsD, Bool.false_eq_true, ↓reduceIte, List.getElem?_cons_zero, List.getElem?_cons_succ, List.length_cons, List.length_nil, List.map_cons, List.map_nil, List.cons_append, List.nil_append, List.set_cons_zero, List.set_cons_succ, List.all_cons, List.all_nil, Bool.and_true, Bool.true_and, Bool.and_self, Value.oneCell', true_and, and_true, and_self, ne_eq, not_false_eq_true, reduceCtorEq, Nat.reduceAdd, Nat.reduceLeDiff, Nat.reduceEqDiff, Nat.zero_add, Nat.le_refl, Ty.td3, Ty.td22, Ty.td24]
  refine loop_g (fun a : Nat × Bool × List Tm => a.1 ≤ ts.length ∧ half s x ts a.1 a.2.1 a.2.2) (fun a => ⟨100, [(9, I a.1), (8, B a.2.1), (7, .ptr 2 0), (6, .ptr 1 0), (3, .ptr 0 0), (1, S s), (2, I x)], hP5 c ts a.2.2⟩) (fun a => ts.length - a.1) (0, false, []) ⟨Nat.zero_le _, half_0 s x ts⟩ (by simp only [slot_is, aev, cv, cvc, Weak, isC, bsD, ↓reduceIte, Bool.and_true, Bool.and_self, and_true, and_self, reduceCtorEq, Nat.reduceEqDiff]; rfl) rfl (.inl rfl) ?_
  rintro ⟨i, put, o⟩ ⟨hi, hh⟩ K hK
  simp only at hi hh ⊢
  by_cases hlt : i < ts.length
  · have ht : ts[i]? = some ts[i] := List.getElem?_eq_getElem hlt
    generalize ts[i] = t at *
    cases o with
    | nil =>
      simp only [hP5, slV5, if_true, List.append_nil]
      simp only [awp_skip, awp_reg, awp_seq, awp_cond, awp_block, seqQ_n, awpOps_nil, awpOps_one, awpOps_if, awpOp_is, isCallV, putK_is, updK_is, put_s, upd_n, upd_s, slot_is, pureOp, apureO, astepO, killT, aev, cv, cvc, binK, elO_s, lenA, lenK, loadA_d, loadA_p, storeA, cellsA, cellOk, setAll, yieldA, condA_t, mlenA_sl, isC, bsD, Int.natCast_nonneg, Bool.false_eq_true, ↓reduceIte, List.getElem?_cons_zero, List.getElem?_cons_succ, List.length_cons, List.length_nil, List.map_cons, List.map_nil, List.cons_append, List.nil_append, List.set_cons_zero, List.set_cons_succ, List.getElem?_toArray, Option.bind_some, Option.map_some, List.take_succ_cons, List.all_cons, List.all_nil, Bool.true_and, Bool.and_self, Value.oneCell', true_and, and_self, ne_eq, not_false_eq_true, reduceCtorEq, Nat.reduceAdd, Nat.reduceEqDiff, Nat.zero_add, Int.toNat_natCast, Option.isSome_some, Nat.le_refl, List.take_nil, Ty.td22, Ty.td24, Ty.td42, show decide ((i : Int) < (ts.length : Int)) = true from decide_eq_true (by omega), List.getElem?_map, List.length_map, ht]
      cases put with
      | true =>
        obtain ⟨h1, h2⟩ := half_put hr ht hh
        have n2 : ¬ bs t.1 = bs s := fun e => List.lt_irrefl (bs s) (by have h3 : bs s < bs t.1 := h1; rw [e] at h3; exact h3)
        simp only [awp_skip, awp_reg, awp_seq, awp_cond, seqQ_n, awpOps_nil, awpOps_one, awpOps_if, awpOp_is, putK_is, put_s, slot_is, pureOp, apureO, aev, cv, cvc, binK, elO_s, loadA_p, yieldA, guardA_tf, condA_f, pickA_f, isC, bsD, Bool.false_eq_true, ↓reduceIte, List.getElem?_cons_zero, List.getElem?_cons_succ, List.length_cons, List.length_nil, List.getElem?_toArray, Option.bind_some, Bool.true_and, Bool.not_true, true_and, ne_eq, not_false_eq_true, reduceCtorEq, Nat.reduceAdd, Nat.reduceEqDiff, Nat.zero_add, Ty.td9, Ty.td42]
        simp only [awp_skip, awp_reg, seqQ_n, loopQ_n, blkQ_n, awpOps_nil, awpOps_one, awpOp_is, isCallV, putK_is, updK_is, put_s, upd_n, upd_s, slot_is, slot.eq_1, pureOp, apureO, astepO, bsEnd_is, appA_own, appV, killT, aev, cv, cvc, binK, elO_s, elO_none, loadA_p, storeA, cellsA, cellOk, setAll, fillA, condA_f, elemsA, elemsN, chunk, isD_c, isDL_nil, isDL_cons, isC, bsD, Bool.false_eq_true, ↓reduceIte, List.getElem?_cons_zero, List.getElem?_cons_succ, List.length_cons, List.length_nil, List.map_cons, List.map_nil, List.cons_append, List.nil_append, List.set_cons_zero, List.set_cons_succ, Option.getD_some, List.take_succ_cons, List.drop_zero, List.all_cons, List.all_nil, Bool.and_true, Bool.true_and, Bool.and_self, Value.oneCell', true_and, and_true, and_self, ne_eq, not_false_eq_true, reduceCtorEq, Nat.reduceAdd, Nat.reduceMul, Nat.reduceLT, Nat.reduceLeDiff, Nat.reduceEqDiff, Nat.reduceMod, Nat.zero_add, List.range_succ, List.range_zero, Nat.le_refl, List.take_nil, Ty.td22, Ty.td24, Ty.td42, eqS, decide_eq_false n2]
        rw [wrap_in (x := (i : Int) + 1) (by omega) (by omega)]
        skip
        refine hK (i + 1, true, [] ++ [t]) _ ⟨by simp only; omega, h2⟩ (by simp only; omega) ?_ rfl (.weak (by simp [hP5]) (by simp [WeakH, hP5, slV5]) rfl rfl)
        simp only [slot_is, aev, cv, cvc, Weak, isC, bsD, ↓reduceIte, Bool.and_true, Bool.and_self, and_true, and_self, Nat.reduceEqDiff]
        simp
      | false =>
        simp only [awp_cond, seqQ_n, awpOps_nil, awpOps_one, awpOps_if, awpOp_is, awpO_is, putK_is, put_s, slot_is, pureOp, apureO, aev, cv, cvc, binK, elO_s, loadA_p, yieldA, guardA_tt, pickA_t, isC, bsD, Bool.false_eq_true, ↓reduceIte, List.getElem?_cons_zero, List.getElem?_cons_succ, List.length_cons, List.length_nil, List.getElem?_toArray, Option.bind_some, Bool.true_and, Bool.not_false, true_and, ne_eq, not_false_eq_true, reduceCtorEq, Nat.reduceAdd, Nat.reduceEqDiff, Nat.zero_add, Ty.td9, Ty.td42]
        by_cases c1 : ltB s t.1
        · have h2 := half_less hr ht hh c1
          have n1 : ¬ bs t.1 < bs s := fun e => List.lt_irrefl (bs s) (List.lt_trans c1 e)
          have n2 : ¬ bs t.1 = bs s := fun e => List.lt_irrefl (bs s) (by have h3 : bs s < bs t.1 := c1; rw [e] at h3; exact h3)
          simp only [awp_skip, awp_reg, awp_seq, awp_cond, seqQ_n, loopQ_n, blkQ_n, awpOps_nil, awpOps_one, awpOp_is, isCallV, putK_is, updK_is, put_s, upd_n, upd_s, slot_is, slot.eq_1, pureOp, apureO, astepO, bsEnd_is, appA_own, appV, killT, killB, killH, aev, cv, cvc, binK, elO_s, elO_none, loadA_p, storeA, cellsA, cellOk, setAll, fillA, placeT, placesA, condA_t, condA_f, elemsA, elemsN, rowE, chunk, isD_c, isDL_nil, isDL_cons, killV_c, killV_nils, killV_agg, killV_sl, killV_own, killV_dptr, killV_ptr, killL_nil, killL_cons, isC, bsD, Bool.false_eq_true, ↓reduceIte, List.getElem?_cons_zero, List.getElem?_cons_succ, List.length_cons, List.length_nil, List.map_cons, List.map_nil, List.cons_append, List.nil_append, List.set_cons_zero, List.set_cons_succ, Option.map_some, Option.getD_some, List.take_succ_cons, List.drop_zero, List.all_cons, List.all_nil, Bool.and_true, Bool.true_and, Bool.and_self, Bool.or_false, Bool.not_false, Value.oneCell', true_and, and_true, and_self, ne_eq, not_false_eq_true, reduceCtorEq, Nat.reduceAdd, Nat.reduceMul, Nat.reduceLT, Nat.reduceLeDiff, Nat.reduceEqDiff, Nat.reduceMod, Nat.zero_add, List.mem_cons, List.not_mem_nil, or_false, List.range_succ, List.range_zero, Nat.le_refl, List.take_nil, List.getElem?_nil, Ty.td3, Ty.td9, Ty.td22, Ty.td24, Ty.td42, lessS, eqS, decide_eq_false n1, decide_eq_false n2]
          rw [wrap_in (x := (i : Int) + 1) (by omega) (by omega)]
          skip
          refine hK (i + 1, true, [] ++ [(s, x), t]) _ ⟨by simp only; omega, h2⟩ (by simp only; omega) ?_ rfl (.weak (by simp [hP5]) (by simp [WeakH, hP5, slV5]) rfl rfl)
          simp only [slot_is, aev, cv, cvc, Weak, isC, bsD, ↓reduceIte, Bool.and_true, Bool.and_self, and_true, and_self, Nat.reduceEqDiff]
          simp
        · by_cases c2 : t.1 = s
          · have h2 := half_same hr ht hh c1 c2
            have n1 : ¬ bs t.1 < bs s := fun e => List.lt_irrefl (bs s) (by rw [c2] at e; exact e)
            simp only [awp_skip, awp_reg, awp_seq, awp_cond, seqQ_n, loopQ_n, blkQ_n, awpOps_nil, awpOps_one, awpOp_is, isCallV, putK_is, updK_is, put_s, upd_n, upd_s, slot_is, slot.eq_1, pureOp, apureO, astepO, bsEnd_is, appA_own, appV, killT, aev, cv, cvc, binK, elO_s, loadA_p, storeA, cellsA, cellOk, setAll, fillA, condA_t, condA_f, elemsA, elemsN, chunk, isD_c, isDL_nil, isDL_cons, isC, bsD, Bool.false_eq_true, ↓reduceIte, List.getElem?_cons_zero, List.getElem?_cons_succ, List.length_cons, List.length_nil, List.map_cons, List.map_nil, List.cons_append, List.nil_append, List.set_cons_zero, List.set_cons_succ, Option.getD_some, List.take_succ_cons, List.drop_zero, List.all_cons, List.all_nil, Bool.and_true, Bool.true_and, Bool.and_self, Bool.or_true, Bool.not_true, Value.oneCell', true_and, and_true, and_self, ne_eq, not_false_eq_true, reduceCtorEq, Nat.reduceAdd, Nat.reduceMul, Nat.reduceLT, Nat.reduceLeDiff, Nat.reduceEqDiff, Nat.reduceMod, Nat.zero_add, List.range_succ, List.range_zero, Nat.le_refl, List.take_nil, Ty.td3, Ty.td9, Ty.td22, Ty.td24, Ty.td42, lessS, eqS, decide_eq_false n1, decide_eq_true (congrArg bs c2)]
            rw [wrap_in (x := (i : Int) + 1) (by omega) (by omega)]
            skip
            refine hK (i + 1, true, [] ++ [(s, W (t.2 + x))]) _ ⟨by simp only; omega, h2⟩ (by simp only; omega) ?_ rfl (.weak (by simp [hP5]) (by simp [WeakH, hP5, slV5, c2]) rfl rfl)
            simp only [slot_is, aev, cv, cvc, Weak, isC, bsD, ↓reduceIte, Bool.and_true, Bool.and_self, and_true, and_self, Nat.reduceEqDiff]
            simp
          · have h2 := half_more hr ht hh c1 c2
            have n2 : ¬ bs t.1 = bs s := fun e => c2 (bs_inj e)
            have n1 : bs t.1 < bs s := by
              rcases Decidable.em (bs t.1 < bs s) with h | h
              · exact h
              · exact absurd (List.le_antisymm (List.not_lt.1 c1) (List.not_lt.1 h)) n2
            simp only [awp_skip, awp_reg, awp_seq, awp_cond, seqQ_n, loopQ_n, blkQ_n, awpOps_nil, awpOps_one, awpOp_is, isCallV, putK_is, updK_is, put_s, upd_n, upd_s, slot_is, slot.eq_1, pureOp, apureO, astepO, bsEnd_is, appA_own, appV, killT, aev, cv, cvc, binK, elO_s, elO_none, loadA_p, storeA, cellsA, cellOk, setAll, fillA, condA_f, elemsA, elemsN, chunk, isD_c, isDL_nil, isDL_cons, isC, bsD, Bool.false_eq_true, ↓reduceIte, List.getElem?_cons_zero, List.getElem?_cons_succ, List.length_cons, List.length_nil, List.map_cons, List.map_nil, List.cons_append, List.nil_append, List.set_cons_zero, List.set_cons_succ, Option.getD_some, List.take_succ_cons, List.drop_zero, List.all_cons, List.all_nil, Bool.and_true, Bool.true_and, Bool.and_self, Bool.or_false, Bool.not_true, Value.oneCell', true_and, and_true, and_self, ne_eq, not_false_eq_true, reduceCtorEq, Nat.reduceAdd, Nat.reduceMul, Nat.reduceLT, Nat.reduceLeDiff, Nat.reduceEqDiff, Nat.reduceMod, Nat.zero_add, or_false, List.range_succ, List.range_zero, Nat.le_refl, List.take_nil, Ty.td9, Ty.td22, Ty.td24, Ty.td42, lessS, eqS, decide_eq_true n1, decide_eq_false n2]
            rw [wrap_in (x := (i : Int) + 1) (by omega) (by omega)]
            skip
            refine hK (i + 1, false, [] ++ [t]) _ ⟨by simp only; omega, h2⟩ (by simp only; omega) ?_ rfl (.weak (by simp [hP5]) (by simp [WeakH, hP5, slV5]) rfl rfl)
            simp only [slot_is, aev, cv, cvc, Weak, isC, bsD, ↓reduceIte, Bool.and_true, Bool.and_self, and_true, and_self, Nat.reduceEqDiff]
            simp
    | cons a r =>
      have hol := hh.2.1
      have htk : List.take r.length (List.map tmV r) = List.map tmV r := List.take_of_length_le (by simp)
      have htk2 : List.take (r.length + 1 + 1) (tmV a :: (List.map tmV r ++ [[S s, I x]])) = tmV a :: (List.map tmV r ++ [[S s, I x]]) := List.take_of_length_le (by simp)
      simp only [hP5, slV5, reduceCtorEq, if_false]
      simp only [awp_skip, awp_reg, awp_seq, awp_cond, awp_block, seqQ_n, awpOps_nil, awpOps_one, awpOps_if, awpOp_is, isCallV, putK_is, updK_is, put_s, upd_n, upd_s, slot_is, pureOp, apureO, astepO, killT, aev, cv, cvc, binK, elO_s, lenA, lenK, loadA_d, loadA_p, storeA, cellsA, cellOk, setAll, yieldA, condA_t, mlenA_sl, isC, bsD, Int.natCast_nonneg, Bool.false_eq_true, ↓reduceIte, List.getElem?_cons_zero, List.getElem?_cons_succ, List.length_cons, List.length_nil, List.map_cons, List.map_nil, List.cons_append, List.nil_append, List.set_cons_zero, List.set_cons_succ, List.getElem?_toArray, Option.bind_some, Option.map_some, List.take_succ_cons, List.all_cons, List.all_nil, Bool.true_and, Bool.and_self, Value.oneCell', true_and, and_self, ne_eq, not_false_eq_true, reduceCtorEq, Nat.reduceAdd, Nat.reduceEqDiff, Nat.zero_add, Int.toNat_natCast, Option.isSome_some, Nat.le_refl, List.take_nil, Ty.td22, Ty.td24, Ty.td42, show decide ((i : Int) < (ts.length : Int)) = true from decide_eq_true (by omega), List.getElem?_map, List.length_map, ht]
      cases put with
      | true =>
        obtain ⟨h1, h2⟩ := half_put hr ht hh
        have n2 : ¬ bs t.1 = bs s := fun e => List.lt_irrefl (bs s) (by have h3 : bs s < bs t.1 := h1; rw [e] at h3; exact h3)
        simp only [awp_skip, awp_reg, awp_seq, awp_cond, seqQ_n, awpOps_nil, awpOps_one, awpOps_if, awpOp_is, putK_is, put_s, slot_is, pureOp, apureO, aev, cv, cvc, binK, elO_s, loadA_p, yieldA, guardA_tf, condA_f, pickA_f, isC, bsD, Bool.false_eq_true, ↓reduceIte, List.getElem?_cons_zero, List.getElem?_cons_succ, List.length_cons, List.length_nil, List.getElem?_toArray, Option.bind_some, Bool.true_and, Bool.not_true, true_and, ne_eq, not_false_eq_true, reduceCtorEq, Nat.reduceAdd, Nat.reduceEqDiff, Nat.zero_add, Ty.td9, Ty.td42]
        simp only [awp_skip, awp_reg, seqQ_n, loopQ_n, blkQ_n, awpOps_nil, awpOps_one, awpOp_is, isCallV, putK_is, updK_is, put_s, upd_n, upd_s, slot_is, slot.eq_1, pureOp, apureO, astepO, bsEnd_is, appA_own, appV, killT, killB, killH, aev, cv, cvc, binK, elO_s, elO_none, loadA_p, storeA, cellsA, cellOk, setAll, fillA, condA_f, elemsA, elemsN, rowE, chunk, isD_c, isDL_nil, isDL_cons, killV_c, killV_nils, killV_tup, killV_agg, killV_sl, killV_own, killV_dptr, killV_ptr, killL_nil, killL_cons, isC, bsD, Bool.false_eq_true, ↓reduceIte, List.getElem?_cons_zero, List.getElem?_cons_succ, List.length_cons, List.length_nil, List.map_cons, List.map_nil, List.cons_append, List.nil_append, List.set_cons_zero, List.set_cons_succ, Option.map_some, Option.map_none, Option.getD_some, List.take_succ_cons, List.drop_zero, List.all_cons, List.all_nil, Bool.and_true, Bool.true_and, Bool.and_self, Bool.or_false, Value.oneCell', true_and, and_true, and_self, ne_eq, not_false_eq_true, reduceCtorEq, Nat.reduceAdd, Nat.reduceMul, Nat.reduceLT, Nat.reduceLeDiff, Nat.reduceEqDiff, Nat.reduceMod, Nat.zero_add, List.mem_cons, List.not_mem_nil, or_false, List.range_succ, List.range_zero, Nat.le_refl, List.take_nil, List.getElem?_nil, Ty.td22, Ty.td24, Ty.td42, eqS, decide_eq_false n2, List.length_map, htk, List.cons_append, List.length_cons, List.length_nil, Nat.le_refl, List.nil_append, Nat.zero_add]
        rw [wrap_in (x := (i : Int) + 1) (by omega) (by omega)]
        repeat refine ⟨by simp at hol; omega, ?_⟩
        refine hK (i + 1, true, (a :: r) ++ [t]) _ ⟨by simp only; omega, h2⟩ (by simp only; omega) ?_ rfl (.trim (by simp [hP5, slV5]) rfl rfl)
        simp only [slot_is, aev, cv, cvc, Weak, isC, bsD, ↓reduceIte, Bool.and_true, Bool.and_self, and_true, and_self, Nat.reduceEqDiff]
        simp
      | false =>
        simp only [awp_cond, seqQ_n, awpOps_nil, awpOps_one, awpOps_if, awpOp_is, awpO_is, putK_is, put_s, slot_is, pureOp, apureO, aev, cv, cvc, binK, elO_s, loadA_p, yieldA, guardA_tt, pickA_t, isC, bsD, Bool.false_eq_true, ↓reduceIte, List.getElem?_cons_zero, List.getElem?_cons_succ, List.length_cons, List.length_nil, List.getElem?_toArray, Option.bind_some, Bool.true_and, Bool.not_false, true_and, ne_eq, not_false_eq_true, reduceCtorEq, Nat.reduceAdd, Nat.reduceEqDiff, Nat.zero_add, Ty.td9, Ty.td42]
        by_cases c1 : ltB s t.1
        · have h2 := half_less hr ht hh c1
          have n1 : ¬ bs t.1 < bs s := fun e => List.lt_irrefl (bs s) (List.lt_trans c1 e)
          have n2 : ¬ bs t.1 = bs s := fun e => List.lt_irrefl (bs s) (by have h3 : bs s < bs t.1 := c1; rw [e] at h3; exact h3)
          simp only [awp_skip, awp_reg, awp_seq, awp_cond, seqQ_n, loopQ_n, blkQ_n, awpOps_nil, awpOps_one, awpOp_is, isCallV, putK_is, updK_is, put_s, upd_n, upd_s, slot_is, slot.eq_1, pureOp, apureO, astepO, bsEnd_is, appA_own, appV, killT, killB, killH, aev, cv, cvc, binK, elO_s, elO_none, loadA_p, storeA, cellsA, cellOk, setAll, fillA, placeT, placesA, condA_t, condA_f, elemsA, elemsN, rowE, chunk, isD_c, isDL_nil, isDL_cons, killV_c, killV_nils, killV_junk, killV_agg, killV_sl, killV_own, killV_dptr, killV_ptr, killL_nil, killL_cons, isC, bsD, Bool.false_eq_true, ↓reduceIte, List.getElem?_cons_zero, List.getElem?_cons_succ, List.length_cons, List.length_nil, List.map_cons, List.map_nil, List.cons_append, List.nil_append, List.set_cons_zero, List.set_cons_succ, Option.map_some, Option.map_none, Option.getD_some, List.take_succ_cons, List.drop_zero, List.all_cons, List.all_nil, Bool.and_true, Bool.true_and, Bool.and_self, Bool.or_false, Bool.not_false, Value.oneCell', true_and, and_true, and_self, ne_eq, not_false_eq_true, reduceCtorEq, Nat.reduceAdd, Nat.reduceMul, Nat.reduceLT, Nat.reduceLeDiff, Nat.reduceEqDiff, Nat.reduceMod, Nat.zero_add, List.mem_cons, List.not_mem_nil, or_false, List.range_succ, List.range_zero, Nat.le_refl, List.take_nil, List.getElem?_nil, Ty.td3, Ty.td9, Ty.td22, Ty.td24, Ty.td42, lessS, eqS, decide_eq_false n1, decide_eq_false n2, List.length_map, htk, htk2, List.cons_append, List.length_append, List.length_cons, List.length_nil, Nat.le_refl, List.nil_append, Nat.zero_add]
          rw [wrap_in (x := (i : Int) + 1) (by omega) (by omega)]
          repeat refine ⟨by simp at hol; omega, ?_⟩
          refine hK (i + 1, true, (a :: r) ++ [(s, x), t]) _ ⟨by simp only; omega, h2⟩ (by simp only; omega) ?_ rfl (.trim (by simp [hP5, slV5]) rfl rfl)
          simp only [slot_is, aev, cv, cvc, Weak, isC, bsD, ↓reduceIte, Bool.and_true, Bool.and_self, and_true, and_self, Nat.reduceEqDiff]
          simp
        · by_cases c2 : t.1 = s
          · have h2 := half_same hr ht hh c1 c2
            have n1 : ¬ bs t.1 < bs s := fun e => List.lt_irrefl (bs s) (by rw [c2] at e; exact e)
            simp only [awp_skip, awp_reg, awp_seq, awp_cond, seqQ_n, loopQ_n, blkQ_n, awpOps_nil, awpOps_one, awpOp_is, isCallV, putK_is, updK_is, put_s, upd_n, upd_s, slot_is, slot.eq_1, pureOp, apureO, astepO, bsEnd_is, appA_own, appV, killT, killB, killH, aev, cv, cvc, binK, elO_s, loadA_p, storeA, cellsA, cellOk, setAll, fillA, condA_t, condA_f, elemsA, elemsN, rowE, chunk, isD_c, isDL_nil, isDL_cons, killV_c, killV_nils, killV_agg, killV_sl, killV_own, killV_dptr, killV_ptr, killL_nil, killL_cons, isC, bsD, Bool.false_eq_true, ↓reduceIte, List.getElem?_cons_zero, List.getElem?_cons_succ, List.length_cons, List.length_nil, List.map_cons, List.map_nil, List.cons_append, List.nil_append, List.set_cons_zero, List.set_cons_succ, Option.map_some, Option.map_none, Option.getD_some, List.take_succ_cons, List.drop_zero, List.all_cons, List.all_nil, Bool.and_true, Bool.true_and, Bool.and_self, Bool.or_true, Bool.or_false, Bool.not_true, Value.oneCell', true_and, and_true, and_self, ne_eq, not_false_eq_true, reduceCtorEq, Nat.reduceAdd, Nat.reduceMul, Nat.reduceLT, Nat.reduceLeDiff, Nat.reduceEqDiff, Nat.reduceMod, Nat.zero_add, List.mem_cons, List.not_mem_nil, or_false, List.range_succ, List.range_zero, Nat.le_refl, List.take_nil, List.getElem?_nil, Ty.td3, Ty.td9, Ty.td22, Ty.td24, Ty.td42, lessS, eqS, decide_eq_false n1, decide_eq_true (congrArg bs c2), List.length_map, htk, List.cons_append, List.length_cons, List.length_nil, Nat.le_refl, List.nil_append, Nat.zero_add]
            rw [wrap_in (x := (i : Int) + 1) (by omega) (by omega)]
            repeat refine ⟨by simp at hol; omega, ?_⟩
            refine hK (i + 1, true, (a :: r) ++ [(s, W (t.2 + x))]) _ ⟨by simp only; omega, h2⟩ (by simp only; omega) ?_ rfl (.trim (by simp [hP5, slV5, c2]) rfl rfl)
            simp only [slot_is, aev, cv, cvc, Weak, isC, bsD, ↓reduceIte, Bool.and_true, Bool.and_self, and_true, and_self, Nat.reduceEqDiff]
            simp
          · have h2 := half_more hr ht hh c1 c2
            have n2 : ¬ bs t.1 = bs s := fun e => c2 (bs_inj e)
            have n1 : bs t.1 < bs s := by
              rcases Decidable.em (bs t.1 < bs s) with h | h
              · exact h
              · exact absurd (List.le_antisymm (List.not_lt.1 c1) (List.not_lt.1 h)) n2
            simp only [awp_skip, awp_reg, awp_seq, awp_cond, seqQ_n, loopQ_n, blkQ_n, awpOps_nil, awpOps_one, awpOp_is, isCallV, putK_is, updK_is, put_s, upd_n, upd_s, slot_is, slot.eq_1, pureOp, apureO, astepO, bsEnd_is, appA_own, appV, killT, killB, killH, aev, cv, cvc, binK, elO_s, elO_none, loadA_p, storeA, cellsA, cellOk, setAll, fillA, condA_f, elemsA, elemsN, rowE, chunk, isD_c, isDL_nil, isDL_cons, killV_c, killV_nils, killV_agg, killV_sl, killV_own, killV_dptr, killV_ptr, killL_nil, killL_cons, isC, bsD, Bool.false_eq_true, ↓reduceIte, List.getElem?_cons_zero, List.getElem?_cons_succ, List.length_cons, List.length_nil, List.map_cons, List.map_nil, List.cons_append, List.nil_append, List.set_cons_zero, List.set_cons_succ, Option.map_some, Option.map_none, Option.getD_some, List.take_succ_cons, List.drop_zero, List.all_cons, List.all_nil, Bool.and_true, Bool.true_and, Bool.and_self, Bool.or_false, Bool.not_true, Value.oneCell', true_and, and_true, and_self, ne_eq, not_false_eq_true, reduceCtorEq, Nat.reduceAdd, Nat.reduceMul, Nat.reduceLT, Nat.reduceLeDiff, Nat.reduceEqDiff, Nat.reduceMod, Nat.zero_add, List.mem_cons, List.not_mem_nil, or_false, List.range_succ, List.range_zero, Nat.le_refl, List.take_nil, List.getElem?_nil, Ty.td9, Ty.td22, Ty.td24, Ty.td42, lessS, eqS, decide_eq_true n1, decide_eq_false n2, List.length_map, htk, List.cons_append, List.length_cons, List.length_nil, Nat.le_refl, List.nil_append, Nat.zero_add]
            rw [wrap_in (x := (i : Int) + 1) (by omega) (by omega)]
            repeat refine ⟨by simp at hol; omega, ?_⟩
            refine hK (i + 1, false, (a :: r) ++ [t]) _ ⟨by simp only; omega, h2⟩ (by simp only; omega) ?_ rfl (.trim (by simp [hP5, slV5]) rfl rfl)
            simp only [slot_is, aev, cv, cvc, Weak, isC, bsD, ↓reduceIte, Bool.and_true, Bool.and_self, and_true, and_self, Nat.reduceEqDiff]
            simp
  · -- the loop's end
    cases o with
    | nil =>
      simp only [hP5, slV5, if_true, List.append_nil]
      obtain rfl : ts = [] := List.length_eq_zero_iff.1 (by have := hh.1.2 rfl; omega)
      cases put with
      | true => have := half_end (by simp) hh; simp [insP] at this
      | false =>
        simp only [awp_reg, awp_seq, awp_cond, awp_block, awp_loop, awp_exit, seqQ_n, seqQ_e, loopQ_e, blkQ_e, awpOps_nil, awpOps_one, awpOp_is, isCallV, putK_is, updK_is, put_s, upd_n, upd_s, slot_is, slot.eq_1, pureOp, apureO, astepO, bsEnd_is, appA_own, appV, killT, aev, cv, cvc, binK, elO_s, lenA, lenK, loadA_p, storeA, cellsA, cellOk, setAll, fillA, placeT, placesA, condA_t, condA_f, elemsA, elemsN, chunk, isD_c, isDL_nil, isDL_cons, mlenA_sl, isC, bsD, Bool.false_eq_true, ↓reduceIte, List.getElem?_cons_zero, List.getElem?_cons_succ, List.length_cons, List.length_nil, List.map_cons, List.map_nil, List.cons_append, List.nil_append, List.set_cons_zero, List.set_cons_succ, Option.getD_some, List.take_succ_cons, List.drop_zero, List.all_cons, List.all_nil, Bool.and_true, Bool.true_and, Bool.and_self, Bool.not_false, Value.oneCell', true_and, and_true, and_self, ne_eq, not_false_eq_true, reduceCtorEq, Nat.reduceAdd, Nat.reduceMul, Nat.reduceLT, Nat.reduceLeDiff, Nat.reduceEqDiff, Nat.reduceMod, Nat.zero_add, List.range_succ, List.range_zero, Option.isSome_some, Nat.le_refl, List.take_nil, Ty.td3, Ty.td9, Ty.td22, Ty.td24, Ty.td42, show decide ((i : Int) < ((0 : Nat) : Int)) = false from decide_eq_false (by omega)]
        have hp : insP s x [] = [(s, x)] := rfl
        unfold plusT
        rw [hp]
        clear hp
        have hpl0 : ([(s, x)]).length ≤ 300000 := by simp
        refine loop_g (fun z : Nat × Nat × List Tm => pk ([(s, x)]) z.1 z.2.1 z.2.2) (fun z => ⟨100, [(12, I z.2.1), (11, I z.1), (7, .ptr 2 0), (6, .ptr 1 0)], hQ4 c [] z.2.2⟩) (fun z => ([(s, x)]).length - z.2.1) (0, 0, [(s, x)]) (pk_0 _) (by simp only [slot_is, aev, cv, cvc, Weak, isC, bsD, ↓reduceIte, Bool.and_true, Bool.and_self, and_true, and_self, Nat.reduceEqDiff]; rfl) rfl (.weak (by simp [hQ4]) (by simp [WeakH, hQ4]) rfl rfl) ?_
        rintro ⟨k, i, q⟩ hq K' hK'
        simp only at hq ⊢
        generalize hpp : [(s, x)] = p at hq hK' ⊢
        have hpl : p.length ≤ 300000 := by rw [← hpp]; exact hpl0
        clear hpp
        have hql := hq.2.2.1
        have hqi := hq.2.1
        have hqk := hq.1
        by_cases hlt' : i < p.length
        · have ht : p[i]? = some p[i] := List.getElem?_eq_getElem hlt'
          generalize p[i] = t at *
          have htq := pk_get hq ht
          simp only [awp_skip, awp_reg, awp_seq, awp_cond, awp_block, seqQ_n, awpOps_nil, awpOps_one, awpOp_is, putK_is, put_s, slot_is, pureOp, apureO, aev, cv, cvc, binK, elO_s, lenA, lenK, loadA_p, loadA_r, condA_t, mlenA_own, isC, bsD, Int.natCast_nonneg, Bool.false_eq_true, ↓reduceIte, List.getElem?_cons_zero, List.getElem?_cons_succ, List.length_cons, List.length_nil, Bool.true_and, true_and, ne_eq, not_false_eq_true, reduceCtorEq, Nat.reduceAdd, Nat.reduceEqDiff, Nat.zero_add, Int.toNat_natCast, Option.isSome_some, Ty.td3, Ty.td22, Ty.td24, Ty.td42, show decide ((i : Int) < (q.length : Int)) = true from decide_eq_true (by omega), List.getElem?_map, htq]
          refine ⟨by omega, by omega, ?_⟩
          rw [Nat.mul_div_cancel i (by decide), htq]
          by_cases h0 : t.2 = 0
          · simp only [awp_skip, awp_reg, awp_cond, seqQ_n, loopQ_n, blkQ_n, awpOps_nil, awpOps_one, awpOp_is, putK_is, put_s, slot_is, pureOp, apureO, aev, cv, cvc, binK, elO_s, condA_f, isC, bsD, ↓reduceIte, List.getElem?_cons_zero, List.getElem?_cons_succ, Option.map_some, Bool.true_and, true_and, Nat.reduceEqDiff, show (t.2 != 0) = false by simpa using h0]
            rw [wrap_in (x := (i : Int) + 1) (by omega) (by omega)]
            refine hK' (k, i + 1, q) _ (pk_drop hq ht h0) (by simp only; omega) ?_ rfl (.inl rfl)
            simp only [slot_is, aev, cv, cvc, Weak, isC, bsD, ↓reduceIte, Bool.and_true, Bool.and_self, and_true, and_self, Nat.reduceEqDiff]
            rfl
          · simp only [awp_regX, awp_seq, awp_cond, seqQ_n, awpOps_nil, awpOps_one, awpOp_is, putK_is, put_s, slot_is, pureOp, apureO, aev, cv, cvc, binK, elO_s, condA_t, isC, bsD, ↓reduceIte, List.getElem?_cons_zero, List.getElem?_cons_succ, Option.map_some, Bool.true_and, true_and, show (t.2 != 0) = true by simpa using h0]
            refine drawS_tail (by kernel_rfl) ?_; simp only [awp_reg, seqQ_n, loopQ_n, blkQ_n, awpOps_nil, awpOps_one, awpOpsD_one, awpOp_is, isCallV, awpOpD_is, putK_is, updK_is, put_s, upd_n, slot_is, keepOp, pureOp, apureO, astepO, killT, aev, cv, cvc, binK, elO_s, loadA_p, loadA_r, storeA, cellsA, cellOk, isC, bsD, Int.natCast_nonneg, Bool.false_eq_true, ↓reduceIte, List.getElem?_cons_zero, List.getElem?_cons_succ, List.length_cons, List.length_nil, List.set_cons_zero, List.set_cons_succ, List.drop_zero, Bool.true_and, true_and, ne_eq, not_false_eq_true, reduceCtorEq, Nat.reduceAdd, Nat.reduceEqDiff, Nat.zero_add, Int.toNat_natCast, Ty.td22, Ty.td24, Ty.td42, List.getElem?_map, htq]
            have hkl : k < q.length := by omega
            have htk' : q[k]? = some q[k] := List.getElem?_eq_getElem hkl
            rw [Nat.mul_div_cancel i (by decide), htq, Nat.mul_div_cancel k (by decide), htk']
            simp only [aev, cv, cvc, elO_s, setAll, isD_c, isDL_nil, isDL_cons, isC, bsD, List.length_cons, List.length_nil, List.set_cons_zero, List.set_cons_succ, Option.map_some, List.take_succ_cons, Bool.true_and, Bool.and_self, true_and, and_self, Nat.reduceAdd, Nat.zero_add, Nat.le_refl, List.take_nil]
            repeat refine ⟨by omega, ?_⟩
            rw [wrap_in (x := (i : Int) + 1) (by omega) (by omega), wrap_in (x := (k : Int) + 1) (by omega) (by omega)]
            refine hK' (k + 1, i + 1, q.set k t) _ (pk_keep hq ht h0) (by simp only; omega) ?_ rfl (.inl ?_)
            · simp only [slot_is, aev, cv, cvc, Weak, isC, bsD, ↓reduceIte, Bool.and_true, Bool.and_self, and_true, and_self, Nat.reduceEqDiff]
              simp
            · simp [hQ4]
        · simp only [awp_reg, awp_seq, awp_cond, awp_exit, awp_ret, seqQ_n, seqQ_e, loopQ_e, blkQ_e, awpOps_nil, awpOps_one, awpOp_is, isCallV, putK_is, updK_is, put_s, upd_n, upd_s, slot_is, retA_is, pureOp, apureO, astepO, sliceA_own, sliceP_own, pureK_is, boundsA, killT, aev, cv, cvc, binK, elO_s, lenA, lenK, loadA_p, storeA, cellsA, cellOk, setAll, condA_f, elemsA, toD_c, toD_agg, toD_own, toDL_nil, toDL_cons, notExit, resA_nil, resA_cell, oneA_1, mlenA_own, isC, bsD, Int.natCast_nonneg, Bool.false_eq_true, ↓reduceIte, List.getElem?_cons_zero, List.getElem?_cons_succ, List.length_cons, List.length_nil, List.set_cons_zero, List.set_cons_succ, Option.map_some, Option.map_none, List.take_succ_cons, List.drop_zero, Bool.true_and, true_and, ne_eq, not_false_eq_true, reduceCtorEq, Nat.reduceAdd, Nat.reduceLeDiff, Nat.reduceEqDiff, Nat.zero_add, Int.toNat_natCast, Option.isSome_some, Nat.le_refl, List.take_nil, Ty.td22, Ty.td24, Ty.td42, show decide ((i : Int) < (q.length : Int)) = false from decide_eq_false (by omega), List.length_map]
          repeat refine ⟨by omega, ?_⟩
          rw [← pk_end hq (by omega), if_pos (by omega), ← List.map_take]
          rfl
    | cons a r =>
      have hol := hh.2.1
      have he := half_end (by omega) hh
      simp only [hP5, slV5, reduceCtorEq, if_false]
      cases put with
      | true =>
        simp only [awp_skip, awp_reg, awp_seq, awp_cond, awp_block, awp_loop, awp_exit, seqQ_n, seqQ_e, loopQ_e, blkQ_e, awpOps_nil, awpOps_one, awpOp_is, putK_is, put_s, slot_is, pureOp, apureO, aev, cv, cvc, binK, elO_s, lenA, lenK, loadA_p, condA_f, mlenA_sl, isC, bsD, Bool.false_eq_true, ↓reduceIte, List.getElem?_cons_zero, List.getElem?_cons_succ, List.length_cons, List.length_nil, List.map_cons, List.cons_append, List.nil_append, Bool.true_and, Bool.not_true, true_and, ne_eq, not_false_eq_true, reduceCtorEq, Nat.reduceAdd, Nat.reduceEqDiff, Nat.zero_add, Option.isSome_some, Ty.td22, Ty.td24, show decide ((i : Int) < (ts.length : Int)) = false from decide_eq_false (by omega), List.length_map]
        have hp : insP s x ts = a :: r := by rw [he]; rfl
        unfold plusT
        rw [hp]
        clear hp
        have hpl0 : (a :: r).length ≤ 300000 := by simp at hol ⊢; omega
        refine loop_g (fun z : Nat × Nat × List Tm => pk (a :: r) z.1 z.2.1 z.2.2) (fun z => ⟨100, [(12, I z.2.1), (11, I z.1), (7, .ptr 2 0), (6, .ptr 1 0)], hQ5 c ts z.2.2⟩) (fun z => (a :: r).length - z.2.1) (0, 0, a :: r) (pk_0 _) (by simp only [slot_is, aev, cv, cvc, Weak, isC, bsD, ↓reduceIte, Bool.and_true, Bool.and_self, and_true, and_self, Nat.reduceEqDiff]; rfl) rfl (.inl rfl) ?_
        rintro ⟨k, i, q⟩ hq K' hK'
        simp only at hq ⊢
        generalize hpp : a :: r = p at hq hK' ⊢
        have hpl : p.length ≤ 300000 := by rw [← hpp]; exact hpl0
        clear hpp
        have hql := hq.2.2.1
        have hqi := hq.2.1
        have hqk := hq.1
        by_cases hlt' : i < p.length
        · have ht : p[i]? = some p[i] := List.getElem?_eq_getElem hlt'
          generalize p[i] = t at *
          have htq := pk_get hq ht
          simp only [awp_skip, awp_reg, awp_seq, awp_cond, awp_block, seqQ_n, awpOps_nil, awpOps_one, awpOp_is, putK_is, put_s, slot_is, pureOp, apureO, aev, cv, cvc, binK, elO_s, lenA, lenK, loadA_p, loadA_r, condA_t, mlenA_own, isC, bsD, Int.natCast_nonneg, Bool.false_eq_true, ↓reduceIte, List.getElem?_cons_zero, List.getElem?_cons_succ, List.length_cons, List.length_nil, Bool.true_and, true_and, ne_eq, not_false_eq_true, reduceCtorEq, Nat.reduceAdd, Nat.reduceEqDiff, Nat.zero_add, Int.toNat_natCast, Option.isSome_some, Ty.td3, Ty.td22, Ty.td24, Ty.td42, show decide ((i : Int) < (q.length : Int)) = true from decide_eq_true (by omega), List.getElem?_map, htq]
          refine ⟨by omega, by omega, ?_⟩
          rw [Nat.mul_div_cancel i (by decide), htq]
          by_cases h0 : t.2 = 0
          · simp only [awp_skip, awp_reg, awp_cond, seqQ_n, loopQ_n, blkQ_n, awpOps_nil, awpOps_one, awpOp_is, putK_is, put_s, slot_is, pureOp, apureO, aev, cv, cvc, binK, elO_s, condA_f, isC, bsD, ↓reduceIte, List.getElem?_cons_zero, List.getElem?_cons_succ, Option.map_some, Bool.true_and, true_and, Nat.reduceEqDiff, show (t.2 != 0) = false by simpa using h0]
            rw [wrap_in (x := (i : Int) + 1) (by omega) (by omega)]
            refine hK' (k, i + 1, q) _ (pk_drop hq ht h0) (by simp only; omega) ?_ rfl (.inl rfl)
            simp only [slot_is, aev, cv, cvc, Weak, isC, bsD, ↓reduceIte, Bool.and_true, Bool.and_self, and_true, and_self, Nat.reduceEqDiff]
            rfl
          · simp only [awp_regX, awp_seq, awp_cond, seqQ_n, awpOps_nil, awpOps_one, awpOp_is, putK_is, put_s, slot_is, pureOp, apureO, aev, cv, cvc, binK, elO_s, condA_t, isC, bsD, ↓reduceIte, List.getElem?_cons_zero, List.getElem?_cons_succ, Option.map_some, Bool.true_and, true_and, show (t.2 != 0) = true by simpa using h0]
            refine drawS_tail (by kernel_rfl) ?_; simp only [awp_reg, seqQ_n, loopQ_n, blkQ_n, awpOps_nil, awpOps_one, awpOpsD_one, awpOp_is, isCallV, awpOpD_is, putK_is, updK_is, put_s, upd_n, slot_is, keepOp, pureOp, apureO, astepO, killT, aev, cv, cvc, binK, elO_s, loadA_p, loadA_r, storeA, cellsA, cellOk, isC, bsD, Int.natCast_nonneg, Bool.false_eq_true, ↓reduceIte, List.getElem?_cons_zero, List.getElem?_cons_succ, List.length_cons, List.length_nil, List.set_cons_zero, List.set_cons_succ, List.drop_zero, Bool.true_and, true_and, ne_eq, not_false_eq_true, reduceCtorEq, Nat.reduceAdd, Nat.reduceEqDiff, Nat.zero_add, Int.toNat_natCast, Ty.td22, Ty.td24, Ty.td42, List.getElem?_map, htq]
            have hkl : k < q.length := by omega
            have htk' : q[k]? = some q[k] := List.getElem?_eq_getElem hkl
            rw [Nat.mul_div_cancel i (by decide), htq, Nat.mul_div_cancel k (by decide), htk']
            simp only [aev, cv, cvc, elO_s, setAll, isD_c, isDL_nil, isDL_cons, isC, bsD, List.length_cons, List.length_nil, List.set_cons_zero, List.set_cons_succ, Option.map_some, List.take_succ_cons, Bool.true_and, Bool.and_self, true_and, and_self, Nat.reduceAdd, Nat.zero_add, Nat.le_refl, List.take_nil]
            repeat refine ⟨by omega, ?_⟩
            rw [wrap_in (x := (i : Int) + 1) (by omega) (by omega), wrap_in (x := (k : Int) + 1) (by omega) (by omega)]
            refine hK' (k + 1, i + 1, q.set k t) _ (pk_keep hq ht h0) (by simp only; omega) ?_ rfl (.inl ?_)
            · simp only [slot_is, aev, cv, cvc, Weak, isC, bsD, ↓reduceIte, Bool.and_true, Bool.and_self, and_true, and_self, Nat.reduceEqDiff]
              simp
            · simp [hQ5]
        · simp only [awp_reg, awp_seq, awp_cond, awp_exit, awp_ret, seqQ_n, seqQ_e, loopQ_e, blkQ_e, awpOps_nil, awpOps_one, awpOp_is, isCallV, putK_is, updK_is, put_s, upd_n, upd_s, slot_is, retA_is, pureOp, apureO, astepO, sliceA_own, sliceP_own, pureK_is, boundsA, killT, aev, cv, cvc, binK, elO_s, lenA, lenK, loadA_p, storeA, cellsA, cellOk, setAll, condA_f, elemsA, toD_c, toD_agg, toD_own, toDL_nil, toDL_cons, notExit, resA_nil, resA_cell, oneA_1, mlenA_own, isC, bsD, Int.natCast_nonneg, Bool.false_eq_true, ↓reduceIte, List.getElem?_cons_zero, List.getElem?_cons_succ, List.length_cons, List.length_nil, List.set_cons_zero, List.set_cons_succ, Option.map_some, Option.map_none, List.take_succ_cons, List.drop_zero, Bool.true_and, true_and, ne_eq, not_false_eq_true, reduceCtorEq, Nat.reduceAdd, Nat.reduceLeDiff, Nat.reduceEqDiff, Nat.zero_add, Int.toNat_natCast, Option.isSome_some, Nat.le_refl, List.take_nil, Ty.td22, Ty.td24, Ty.td42, show decide ((i : Int) < (q.length : Int)) = false from decide_eq_false (by omega), List.length_map]
          repeat refine ⟨by omega, ?_⟩
          rw [← pk_end hq (by omega), if_pos (by omega), ← List.map_take]
          rfl
      | false =>
        have htk : List.take r.length (List.map tmV r) = List.map tmV r := List.take_of_length_le (by simp)
        simp only [awp_reg, awp_seq, awp_cond, awp_block, awp_loop, awp_exit, seqQ_n, seqQ_e, loopQ_e, blkQ_e, awpOps_nil, awpOps_one, awpOp_is, isCallV, putK_is, updK_is, put_s, upd_n, upd_s, slot_is, slot.eq_1, pureOp, apureO, astepO, bsEnd_is, appA_own, appV, killT, killB, killH, aev, cv, cvc, binK, elO_s, lenA, lenK, loadA_p, storeA, cellsA, cellOk, setAll, fillA, placeT, placesA, condA_t, condA_f, elemsA, elemsN, rowE, chunk, isD_c, isDL_nil, isDL_cons, killV_c, killV_nils, killV_agg, killV_sl, killV_own, killV_ptr, killL_nil, killL_cons, mlenA_sl, isC, bsD, Bool.false_eq_true, ↓reduceIte, List.getElem?_cons_zero, List.getElem?_cons_succ, List.length_cons, List.length_nil, List.map_cons, List.map_nil, List.cons_append, List.nil_append, List.set_cons_zero, List.set_cons_succ, Option.map_some, Option.map_none, Option.getD_some, List.take_succ_cons, List.drop_zero, List.all_cons, List.all_nil, Bool.and_true, Bool.true_and, Bool.and_self, Bool.or_false, Bool.not_false, Value.oneCell', true_and, and_true, and_self, ne_eq, not_false_eq_true, reduceCtorEq, Nat.reduceAdd, Nat.reduceMul, Nat.reduceLT, Nat.reduceLeDiff, Nat.reduceEqDiff, Nat.reduceMod, Nat.zero_add, List.mem_cons, List.not_mem_nil, or_false, List.range_succ, List.range_zero, Option.isSome_some, Nat.le_refl, List.take_nil, List.getElem?_nil, Ty.td3, Ty.td9, Ty.td22, Ty.td24, Ty.td42, show decide ((i : Int) < (ts.length : Int)) = false from decide_eq_false (by omega), List.length_map, htk, List.cons_append, List.length_cons, List.length_nil, Nat.le_refl, List.nil_append, Nat.zero_add]
        repeat refine ⟨by simp at hol; omega, ?_⟩
        have hp : insP s x ts = a :: r ++ [(s, x)] := by rw [he]; rfl
        unfold plusT
        rw [hp]
        clear hp
        have hpl0 : (a :: r ++ [(s, x)]).length ≤ 300000 := by simp at hol ⊢; omega
        refine loop_g (fun z : Nat × Nat × List Tm => pk (a :: r ++ [(s, x)]) z.1 z.2.1 z.2.2) (fun z => ⟨100, [(12, I z.2.1), (11, I z.1), (7, .ptr 2 0), (6, .ptr 1 0)], hQ5 c ts z.2.2⟩) (fun z => (a :: r ++ [(s, x)]).length - z.2.1) (0, 0, a :: r ++ [(s, x)]) (pk_0 _) (by simp only [slot_is, aev, cv, cvc, Weak, isC, bsD, ↓reduceIte, Bool.and_true, Bool.and_self, and_true, and_self, Nat.reduceEqDiff]; rfl) rfl (.trim (by simp [hQ5]) rfl rfl) ?_
        rintro ⟨k, i, q⟩ hq K' hK'
        simp only at hq ⊢
        generalize hpp : a :: r ++ [(s, x)] = p at hq hK' ⊢
        have hpl : p.length ≤ 300000 := by rw [← hpp]; exact hpl0
        clear hpp
        have hql := hq.2.2.1
        have hqi := hq.2.1
        have hqk := hq.1
        by_cases hlt' : i < p.length
        · have ht : p[i]? = some p[i] := List.getElem?_eq_getElem hlt'
          generalize p[i] = t at *
          have htq := pk_get hq ht
          simp only [awp_skip, awp_reg, awp_seq, awp_cond, awp_block, seqQ_n, awpOps_nil, awpOps_one, awpOp_is, putK_is, put_s, slot_is, pureOp, apureO, aev, cv, cvc, binK, elO_s, lenA, lenK, loadA_p, loadA_r, condA_t, mlenA_own, isC, bsD, Int.natCast_nonneg, Bool.false_eq_true, ↓reduceIte, List.getElem?_cons_zero, List.getElem?_cons_succ, List.length_cons, List.length_nil, Bool.true_and, true_and, ne_eq, not_false_eq_true, reduceCtorEq, Nat.reduceAdd, Nat.reduceEqDiff, Nat.zero_add, Int.toNat_natCast, Option.isSome_some, Ty.td3, Ty.td22, Ty.td24, Ty.td42, show decide ((i : Int) < (q.length : Int)) = true from decide_eq_true (by omega), List.getElem?_map, htq]
          refine ⟨by omega, by omega, ?_⟩
          rw [Nat.mul_div_cancel i (by decide), htq]
          by_cases h0 : t.2 = 0
          · simp only [awp_skip, awp_reg, awp_cond, seqQ_n, loopQ_n, blkQ_n, awpOps_nil, awpOps_one, awpOp_is, putK_is, put_s, slot_is, pureOp, apureO, aev, cv, cvc, binK, elO_s, condA_f, isC, bsD, ↓reduceIte, List.getElem?_cons_zero, List.getElem?_cons_succ, Option.map_some, Bool.true_and, true_and, Nat.reduceEqDiff, show (t.2 != 0) = false by simpa using h0]
            rw [wrap_in (x := (i : Int) + 1) (by omega) (by omega)]
            refine hK' (k, i + 1, q) _ (pk_drop hq ht h0) (by simp only; omega) ?_ rfl (.inl rfl)
            simp only [slot_is, aev, cv, cvc, Weak, isC, bsD, ↓reduceIte, Bool.and_true, Bool.and_self, and_true, and_self, Nat.reduceEqDiff]
            rfl
          · simp only [awp_regX, awp_seq, awp_cond, seqQ_n, awpOps_nil, awpOps_one, awpOp_is, putK_is, put_s, slot_is, pureOp, apureO, aev, cv, cvc, binK, elO_s, condA_t, isC, bsD, ↓reduceIte, List.getElem?_cons_zero, List.getElem?_cons_succ, Option.map_some, Bool.true_and, true_and, show (t.2 != 0) = true by simpa using h0]
            refine drawS_tail (by kernel_rfl) ?_; simp only [awp_reg, seqQ_n, loopQ_n, blkQ_n, awpOps_nil, awpOps_one, awpOpsD_one, awpOp_is, isCallV, awpOpD_is, putK_is, updK_is, put_s, upd_n, slot_is, keepOp, pureOp, apureO, astepO, killT, aev, cv, cvc, binK, elO_s, loadA_p, loadA_r, storeA, cellsA, cellOk, isC, bsD, Int.natCast_nonneg, Bool.false_eq_true, ↓reduceIte, List.getElem?_cons_zero, List.getElem?_cons_succ, List.length_cons, List.length_nil, List.set_cons_zero, List.set_cons_succ, List.drop_zero, Bool.true_and, true_and, ne_eq, not_false_eq_true, reduceCtorEq, Nat.reduceAdd, Nat.reduceEqDiff, Nat.zero_add, Int.toNat_natCast, Ty.td22, Ty.td24, Ty.td42, List.getElem?_map, htq]
            have hkl : k < q.length := by omega
            have htk' : q[k]? = some q[k] := List.getElem?_eq_getElem hkl
            rw [Nat.mul_div_cancel i (by decide), htq, Nat.mul_div_cancel k (by decide), htk']
            simp only [aev, cv, cvc, elO_s, setAll, isD_c, isDL_nil, isDL_cons, isC, bsD, List.length_cons, List.length_nil, List.set_cons_zero, List.set_cons_succ, Option.map_some, List.take_succ_cons, Bool.true_and, Bool.and_self, true_and, and_self, Nat.reduceAdd, Nat.zero_add, Nat.le_refl, List.take_nil]
            repeat refine ⟨by omega, ?_⟩
            rw [wrap_in (x := (i : Int) + 1) (by omega) (by omega), wrap_in (x := (k : Int) + 1) (by omega) (by omega)]
            refine hK' (k + 1, i + 1, q.set k t) _ (pk_keep hq ht h0) (by simp only; omega) ?_ rfl (.inl ?_)
            · simp only [slot_is, aev, cv, cvc, Weak, isC, bsD, ↓reduceIte, Bool.and_true, Bool.and_self, and_true, and_self, Nat.reduceEqDiff]
              simp
            · simp [hQ5]
        · simp only [awp_reg, awp_seq, awp_cond, awp_exit, awp_ret, seqQ_n, seqQ_e, loopQ_e, blkQ_e, awpOps_nil, awpOps_one, awpOp_is, isCallV, putK_is, updK_is, put_s, upd_n, upd_s, slot_is, retA_is, pureOp, apureO, astepO, sliceA_own, sliceP_own, pureK_is, boundsA, killT, aev, cv, cvc, binK, elO_s, lenA, lenK, loadA_p, storeA, cellsA, cellOk, setAll, condA_f, elemsA, toD_c, toD_agg, toD_own, toDL_nil, toDL_cons, notExit, resA_nil, resA_cell, oneA_1, mlenA_own, isC, bsD, Int.natCast_nonneg, Bool.false_eq_true, ↓reduceIte, List.getElem?_cons_zero, List.getElem?_cons_succ, List.length_cons, List.length_nil, List.set_cons_zero, List.set_cons_succ, Option.map_some, Option.map_none, List.take_succ_cons, List.drop_zero, Bool.true_and, true_and, ne_eq, not_false_eq_true, reduceCtorEq, Nat.reduceAdd, Nat.reduceLeDiff, Nat.reduceEqDiff, Nat.zero_add, Int.toNat_natCast, Option.isSome_some, Nat.le_refl, List.take_nil, Ty.td22, Ty.td24, Ty.td42, show decide ((i : Int) < (q.length : Int)) = false from decide_eq_false (by omega), List.length_map]
          repeat refine ⟨by omega, ?_⟩
          rw [← pk_end hq (by omega), if_pos (by omega), ← List.map_take]
          rfl

end Go.Proofs.YtjgaebomcdkohaaGreatDoor.L26
