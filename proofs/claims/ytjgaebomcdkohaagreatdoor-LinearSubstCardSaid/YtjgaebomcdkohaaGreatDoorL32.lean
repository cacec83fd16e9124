/- Linear expressions: substituting, in the reference; the law. -/
import Derived.Test.YtjgaebomcdkohaaGreatDoorL24
import Derived.Test.YtjgaebomcdkohaaGreatDoorL28
import Derived.Test.YtjgaebomcdkohaaGreatDoorL31
import Derived.Test.YtjgaebomcdkohaaGreatDoorLFit
namespace Go.Proofs.YtjgaebomcdkohaaGreatDoor.L32
open Go Go.Proofs.YtjgaebomcdkohaaGreatDoor.Eng Go.Proofs.YtjgaebomcdkohaaGreatDoor Go.RowKit Go.Proofs.YtjgaebomcdkohaaGreatDoor.L1 Go.Proofs.YtjgaebomcdkohaaGreatDoor.L2 Go.Proofs.YtjgaebomcdkohaaGreatDoor.L3 Go.Proofs.YtjgaebomcdkohaaGreatDoor.L6 Go.Proofs.YtjgaebomcdkohaaGreatDoor.L12 Go.Proofs.YtjgaebomcdkohaaGreatDoor.L13 Go.Proofs.YtjgaebomcdkohaaGreatDoor.L15 Go.Proofs.YtjgaebomcdkohaaGreatDoor.L16 Go.Proofs.YtjgaebomcdkohaaGreatDoor.L17 Go.Proofs.YtjgaebomcdkohaaGreatDoor.L18 Go.Proofs.YtjgaebomcdkohaaGreatDoor.L19 Go.Proofs.YtjgaebomcdkohaaGreatDoor.L20 Go.Proofs.YtjgaebomcdkohaaGreatDoor.L22 Go.Proofs.YtjgaebomcdkohaaGreatDoor.L23 Go.Proofs.YtjgaebomcdkohaaGreatDoor.L24 Go.Proofs.YtjgaebomcdkohaaGreatDoor.L27 Go.Proofs.YtjgaebomcdkohaaGreatDoor.L28 Go.Proofs.YtjgaebomcdkohaaGreatDoor.L31
set_option linter.unusedSimpArgs false
set_option linter.unusedVariables false
set_option linter.unusedSectionVars false
set_option maxRecDepth 100000

theorem rvar (v : ByteArray) : Meets Tryz.prog 52 [S v] (ln 0 [(v, 1)]) := by
  refine meets_of (X := true) Ty.mixed Tryz.func52 (by kernel_rfl) rfl (by kernel_rfl) (by simp) ?_; rw [Tryz.ntmps52, Tryz.results52]
  simp only [awp_reg, awp_seq, awp_ret, seqQ_n, awpOps_nil, awpOps_one, awpOp_is, isCallV, putK_is, updK_is, put_s, upd_n, upd_s, slot_is, slot.eq_1, retA_is, pureOp, apureO, astepO, bsEnd_is, killT, aev, cv, cvc, elO_s, loadA_p, storeA, cellsA, cellOk, setAll, fillA, placeT, placesA, elemsA, chunk, isD_c, isDL_nil, isDL_cons, toD_c, toD_agg, toD_own, consO_some, toDL_nil, toDL_cons, notExit, resA_nil, resA_cell, oneA_1, argT, isC, bsD, Bool.false_eq_true, ↓reduceIte, List.getElem?_cons_zero, List.getElem?_cons_succ, List.length_cons, List.length_nil, List.map_cons, List.map_nil, List.cons_append, List.nil_append, List.set_cons_zero, List.set_cons_succ, Option.map_some, Option.getD_some, List.take_succ_cons, List.drop_zero, List.all_cons, List.all_nil, Bool.and_true, Bool.true_and, Bool.and_self, Value.oneCell', true_and, and_true, and_self, ne_eq, not_false_eq_true, reduceCtorEq, Nat.reduceAdd, Nat.reduceMul, Nat.reduceLT, Nat.reduceLeDiff, Nat.reduceEqDiff, Nat.reduceMod, Nat.zero_add, List.range_succ, List.range_zero, Nat.le_refl, List.take_nil, Ty.td3, Ty.td9, Ty.td22, Ty.td24, Ty.td42]
  rfl
def boundV (bs : List Bd) (v : ByteArray) : AV := match bs.find? (hitB v) with | some b => .tup [ln b.c b.ts, B true] | none => .tup [.agg [I 0, .nils], B false]
theorem rbound (bs : List Bd) (v : ByteArray) (hl : bs.length ≤ 1000000) : Meets Tryz.prog 51 [bds bs, S v] (boundV bs v) := by
  refine meets_of (X := true) Ty.mixed Tryz.func51 (by kernel_rfl) rfl (by kernel_rfl) (by simp) ?_; rw [Tryz.ntmps51, Tryz.results51]
  simp only [awp_reg, awp_seq, awp_block, awp_loop, seqQ_n, awpOps_nil, awpOps_one, awpOp_is, isCallV, putK_is, updK_is, put_s, upd_s, pureOp, apureO, astepO, killT, aev, cv, cvc, elO_s, argT, isC, bsD, Bool.false_eq_true, ↓reduceIte, List.length_nil, List.map_cons, List.map_nil, List.nil_append, List.all_cons, List.all_nil, Bool.true_and, Bool.and_self, Value.oneCell', true_and, and_self, Nat.zero_add, Ty.td24]
  refine loop_g (fun k : Nat => k ≤ bs.length ∧ boundV bs v = boundV (bs.drop k) v) (fun k => ⟨34, [(6, I k), (5, B false), (4, .ptr 0 0), (0, bds bs), (1, S v)], [some (.var 24 [I 0, .nils])]⟩) (fun k => bs.length - k) 0 ⟨Nat.zero_le _, rfl⟩ (by simp only [slot_is, aev, cv, cvc, Weak, isC, bsD, ↓reduceIte, Bool.and_true, Bool.and_self, and_true, and_self, reduceCtorEq, Nat.reduceEqDiff]; rfl) rfl (.inl rfl) ?_
  rintro k ⟨hk, hi⟩ K hK
  rw [hi]
  by_cases hlt : k < bs.length
  · have hb : bs[k]? = some bs[k] := List.getElem?_eq_getElem hlt
    rw [List.drop_eq_getElem_cons hlt] at hi ⊢
    generalize bs[k] = b at *
    simp only [awp_skip, awp_reg, awp_seq, awp_cond, awp_block, seqQ_n, awpOps_nil, awpOps_one, awpOps_if, awpOp_is, putK_is, put_s, slot_is, pureOp, apureO, aev, cv, cvc, binK, elO_s, lenA, lenK, loadA_d, yieldA, condA_t, mlenA_sl, isC, bsD, Int.natCast_nonneg, Bool.false_eq_true, ↓reduceIte, List.getElem?_cons_zero, List.getElem?_cons_succ, List.getElem?_toArray, Option.bind_some, Option.map_some, List.drop_zero, Bool.true_and, true_and, ne_eq, not_false_eq_true, reduceCtorEq, Nat.reduceEqDiff, Int.toNat_natCast, Option.isSome_some, Ty.td3, Ty.td32, Ty.td49, show decide ((k : Int) < (bs.length : Int)) = true from decide_eq_true (by omega), List.getElem?_map, List.length_map, hb]
    cases h1 : b.kind == 1 with
    | false =>
      have hh : hitB v b = false := by unfold hitB; rw [h1]; rfl
      simp only [awp_skip, awp_reg, awp_cond, seqQ_n, loopQ_n, blkQ_n, awpOps_nil, awpOps_one, awpOps_if, awpOp_is, putK_is, put_s, slot_is, pureOp, apureO, aev, cv, cvc, binK, yieldA, guardA_tf, condA_f, pickA_f, isC, bsD, ↓reduceIte, List.getElem?_cons_zero, List.getElem?_cons_succ, List.getElem?_toArray, Option.bind_some, Bool.true_and, true_and, Nat.reduceEqDiff, h1]
      rw [wrap_in (x := (k : Int) + 1) (by omega) (by omega)]
      refine hK (k + 1) _ ⟨by omega, by rw [hi]; unfold boundV; rw [List.find?_cons, hh]⟩ (by omega) ?_ rfl (.inl rfl)
      simp only [slot_is, aev, cv, cvc, Weak, isC, bsD, ↓reduceIte, Bool.and_true, Bool.and_self, and_true, and_self, reduceCtorEq, Nat.reduceEqDiff]
      simp
    | true =>
      simp only [awp_cond, seqQ_n, awpOps_nil, awpOps_one, awpOps_if, awpOp_is, awpO_is, putK_is, put_s, slot_is, pureOp, apureO, aev, cv, cvc, binK, elO_s, loadA_d, yieldA, guardA_tt, pickA_t, isC, bsD, Int.natCast_nonneg, Bool.false_eq_true, ↓reduceIte, List.getElem?_cons_zero, List.getElem?_cons_succ, List.getElem?_toArray, Option.bind_some, Option.map_some, List.drop_succ_cons, List.drop_zero, Bool.true_and, true_and, ne_eq, not_false_eq_true, reduceCtorEq, Nat.reduceEqDiff, Int.toNat_natCast, Ty.td9, Ty.td32, Ty.td49, h1, List.getElem?_map, hb]
      cases h2 : b.var.toList == v.toList with
      | false =>
        have hh : hitB v b = false := by unfold hitB; rw [h1, h2]; rfl
        simp only [awp_skip, awp_reg, seqQ_n, loopQ_n, blkQ_n, awpOps_nil, awpOps_one, awpOp_is, putK_is, put_s, slot_is, pureOp, apureO, aev, cv, cvc, binK, condA_f, isC, bsD, ↓reduceIte, Bool.true_and, true_and, Nat.reduceEqDiff, h2]
        rw [wrap_in (x := (k : Int) + 1) (by omega) (by omega)]
        refine hK (k + 1) _ ⟨by omega, by rw [hi]; unfold boundV; rw [List.find?_cons, hh]⟩ (by omega) ?_ rfl (.inl rfl)
        simp only [slot_is, aev, cv, cvc, Weak, isC, bsD, ↓reduceIte, Bool.and_true, Bool.and_self, and_true, and_self, reduceCtorEq, Nat.reduceEqDiff]
        simp
      | true =>
        have hh : hitB v b = true := by unfold hitB; rw [h1, h2]; rfl
        have hr : boundV (b :: bs.drop (k + 1)) v = .tup [ln b.c b.ts, B true] := by unfold boundV; rw [List.find?_cons, hh]
        rw [hr]
        simp only [awp_reg, awp_seq, awp_ret, seqQ_n, seqQ_r, loopQ_r, blkQ_r, awpOps_nil, awpOps_one, awpOp_is, isCallV, putK_is, updK_is, put_s, upd_n, slot_is, retA_is, pureOp, apureO, astepO, killT, aev, cv, cvc, elO_s, loadA_d, loadA_p, storeA, cellsA, cellOk, setAll, condA_t, toD_c, toD_tup, toD_agg, toD_sl, consO_some, toDL_nil, toDL_cons, notExit, resA_nil, resA_tmp, resA_cell, oneA_2, isC, bsD, Int.natCast_nonneg, Bool.false_eq_true, ↓reduceIte, List.getElem?_cons_zero, List.getElem?_cons_succ, List.length_cons, List.length_nil, List.set_cons_zero, List.set_cons_succ, Option.map_some, List.take_succ_cons, List.take_zero, List.drop_succ_cons, List.drop_zero, Bool.and_true, Bool.true_and, Bool.and_self, true_and, and_true, and_self, ne_eq, not_false_eq_true, reduceCtorEq, Nat.reduceAdd, Nat.reduceLeDiff, Nat.reduceEqDiff, Nat.zero_add, Int.toNat_natCast, Nat.le_refl, List.take_nil, Ty.td24, Ty.td32, Ty.td49, h2, List.getElem?_map, hb]
  · have h0 : bs.drop k = [] := List.drop_eq_nil_of_le (by omega)
    rw [h0]
    have hr : boundV [] v = .tup [.agg [I 0, .nils], B false] := rfl
    rw [hr]
    simp only [awp_reg, awp_seq, awp_cond, awp_exit, awp_ret, seqQ_n, seqQ_e, loopQ_e, blkQ_e, awpOps_nil, awpOps_one, awpOp_is, isCallV, putK_is, updK_is, put_s, upd_n, slot_is, slot.eq_1, retA_is, pureOp, apureO, astepO, killT, aev, cv, cvc, binK, elO_s, lenA, lenK, loadA_p, storeA, cellsA, cellOk, setAll, fillA, placeT, placesA, condA_f, toD_c, toD_nils, toD_tup, toD_agg, consO_some, toDL_nil, toDL_cons, notExit, resA_nil, resA_tmp, resA_cell, oneA_2, mlenA_sl, isC, bsD, Bool.false_eq_true, ↓reduceIte, List.getElem?_cons_zero, List.length_cons, List.length_nil, List.map_cons, List.map_nil, List.set_cons_zero, List.set_cons_succ, Option.map_some, List.take_succ_cons, List.drop_zero, List.all_cons, List.all_nil, Bool.and_true, Bool.true_and, Bool.and_self, Value.oneCell', true_and, and_true, and_self, ne_eq, not_false_eq_true, reduceCtorEq, Nat.reduceAdd, Nat.reduceEqDiff, Nat.zero_add, Option.isSome_some, Nat.le_refl, List.take_nil, Ty.td3, Ty.td22, Ty.td24, Ty.td32, show decide ((k : Int) < (bs.length : Int)) = false from decide_eq_false (by omega), List.length_map]

abbrev hR (c : Int) (ts : List Tm) (c' : Int) (x : AV) : Heap := [some (.var 24 [I c, tms ts]), some (.var 24 [I 0, .nils]), some (.var 24 [I c', x])]
abbrev tv (j : Nat) (l : List Tm) : AV := if j = 0 then .nils else tms l
theorem sub_step (bs : List Bd) {ts : List Tm} {j : Nat} {t : Tm} (st : Int × List Tm) (ht : ts[j]? = some t) : subR bs (ts.drop j) st = if validE (byE bs t.1).1 (byE bs t.1).2 = true then subR bs (ts.drop (j + 1)) (timesE st (byE bs t.1) t.2) else none := by
  obtain ⟨h1, rfl⟩ := List.getElem?_eq_some_iff.1 ht
  rw [List.drop_eq_getElem_cons h1, subR]
structure inv (bs : List Bd) (c : Int) (ts : List Tm) (j : Nat) (st : Int × List Tm) : Prop where
  le : j ≤ ts.length
  sub : subR bs ts (c, []) = subR bs (ts.drop j) st
  nil : j = 0 → st = (c, [])
  srt : sortedT st.2
  len : st.2.length ≤ 12 * j
  sz : ∀ t ∈ st.2, t.1.size ≤ 1000000
theorem inv_step {bs : List Bd} {c : Int} {ts : List Tm} {j : Nat} {st : Int × List Tm} {t : Tm} (h : inv bs c ts j st) (hb : okB bs) (ht : ts[j]? = some t) (hts : ∀ t ∈ ts, t.1.size ≤ 1000000) (hv : validE (byE bs t.1).1 (byE bs t.1).2 = true) : inv bs c ts (j + 1) (timesE st (byE bs t.1) t.2) := by
  have hlt := (List.getElem?_eq_some_iff.1 ht).1
  have hsz := hts t (List.mem_of_getElem? ht)
  obtain ⟨_, l1, _, _⟩ := valid_parts hv
  refine ⟨by omega, ?_, fun h => by omega, L29.times_S _ h.srt, ?_, L29.times_all (P := fun v => v.size ≤ 1000000) _ _ h.sz (by_small hb hsz).2⟩
  · rw [h.sub, sub_step bs st ht, if_pos hv]
  · have h1 := timesT_len t.2 (byE bs t.1).2 st.2
    have h2 := h.len
    show (timesT t.2 (byE bs t.1).2 st.2).length ≤ _
    omega
theorem rsubst_res (c : Int) (ts : List Tm) (bs : List Bd) (hb : okB bs) (hl : ts.length ≤ 100) (hts : ∀ t ∈ ts, t.1.size ≤ 1000000) (hv : validE c ts = true) (res : AV) (hN : subR bs ts (c, []) = none → res = .tup [.agg [I 0, .nils], I 1]) (hR' : ∀ st, subR bs ts (c, []) = some st → res = linR (limE st)) : Meets Tryz.prog 22 [ln c ts, bds bs] res := by
  have hsm : small ts := ⟨by omega, hts⟩
  refine meets_of (X := true) Ty.mixed Tryz.func22 (by kernel_rfl) rfl (by kernel_rfl) (by simp) ?_; rw [Tryz.ntmps22, Tryz.results22]
  simp only [awp_reg, awp_seq, seqQ_n, awpOps_nil, awpOps_one, awpOp_is, isCallV, callW_is, callV_is, putK_is, updK_is, put_s, upd_s, slot_is, pureOp, apureO, astepO, killT, aev, cv, cvc, elO_s, loadA_p, cellsA, cellOk, argT, isC, bsD, Bool.false_eq_true, ↓reduceIte, List.getElem?_cons_zero, List.length_cons, List.length_nil, List.map_cons, List.map_nil, List.cons_append, List.nil_append, List.append_nil, List.take_succ_cons, List.drop_zero, List.all_cons, List.all_nil, Bool.true_and, Bool.and_self, Value.oneCell', true_and, and_self, Nat.reduceAdd, Nat.reduceEqDiff, Nat.zero_add, Nat.le_refl, List.take_nil, Ty.td24]
  refine call_meets (rvalid c ts hsm) (by simp only [aev, cv, cvc, toD_c, toD_agg, toD_sl, consO_some, toDL_nil, toDL_cons, isC, bsD, Option.map_some] <;> rfl) ?_; simp only [awp_cond, seqQ_n, awpOps_nil, awpOps_one, awpOp_is, putK_is, put_s, upd_s, slot_is, pureOp, apureO, killT, aev, cv, cvc, flat_c, ownsV_c, ownsV_agg, ownsV_sl, ownsL_nil, ownsL_cons, isC, bsD, ↓reduceIte, List.append_nil, Bool.or_true, List.isEmpty_nil]
  simp only [awp_skip, awp_reg, awp_seq, awp_block, awp_loop, seqQ_n, awpOps_nil, awpOps_one, awpOp_is, isCallV, putK_is, updK_is, put_s, upd_n, upd_s, slot_is, slot.eq_1, pureOp, apureO, astepO, killT, aev, cv, cvc, elO_s, loadA_p, storeA, cellsA, cellOk, setAll, fillA, placeT, placesA, condA_f, isC, bsD, Bool.false_eq_true, ↓reduceIte, List.getElem?_cons_zero, List.getElem?_cons_succ, List.length_cons, List.length_nil, List.map_cons, List.map_nil, List.cons_append, List.nil_append, List.set_cons_zero, List.set_cons_succ, List.all_cons, List.all_nil, Bool.and_true, Bool.true_and, Bool.and_self, Bool.not_true, Value.oneCell', true_and, and_true, and_self, ne_eq, not_false_eq_true, reduceCtorEq, Nat.reduceAdd, Nat.reduceLeDiff, Nat.reduceEqDiff, Nat.zero_add, Nat.le_refl, Ty.td3, Ty.td22, Ty.td24, hv]
  refine loop_g (fun a : Nat × Int × List Tm => inv bs c ts a.1 a.2) (fun a => ⟨55, [(7, I a.1), (6, .ptr 2 0), (5, I 0), (4, .ptr 1 0), (2, .ptr 0 0), (1, bds bs)], hR c ts a.2.1 (tv a.1 a.2.2)⟩) (fun a => ts.length - a.1) (0, c, []) ⟨Nat.zero_le _, rfl, fun _ => rfl, trivial, by simp, by simp⟩ (by simp only [slot_is, aev, cv, cvc, Weak, isC, bsD, ↓reduceIte, Bool.and_true, Bool.and_self, and_true, and_self, reduceCtorEq, Nat.reduceEqDiff]; rfl) rfl (.inl rfl) ?_
  rintro ⟨j, c1, l1⟩ hi K hK
  simp only at hi ⊢
  have hle := hi.le
  by_cases hlt : j < ts.length
  case neg =>
    have h0 : ts.drop j = [] := List.drop_eq_nil_of_le (by omega)
    have hr := hi.sub
    rw [h0] at hr
    have hlim := rlimited c1 l1 ⟨by have := hi.len; simp only at this; omega, hi.sz⟩
    simp only [awp_reg, awp_seq, awp_cond, awp_exit, seqQ_n, seqQ_e, loopQ_e, blkQ_e, awpOps_nil, awpOps_one, awpOp_is, isCallV, callW_is, callV_is, putK_is, put_s, slot_is, pureOp, apureO, aev, cv, cvc, binK, elO_s, lenA, lenK, loadA_p, condA_f, mlenA_sl, isC, bsD, Bool.false_eq_true, ↓reduceIte, List.getElem?_cons_zero, List.getElem?_cons_succ, List.length_cons, List.length_nil, List.map_cons, List.map_nil, List.append_nil, List.take_succ_cons, List.drop_zero, Bool.true_and, true_and, ne_eq, not_false_eq_true, reduceCtorEq, Nat.reduceAdd, Nat.reduceEqDiff, Nat.zero_add, Option.isSome_some, Nat.le_refl, List.take_nil, Ty.td22, Ty.td24, show decide ((j : Int) < (ts.length : Int)) = false from decide_eq_false (by omega), List.length_map]
    cases j with
    | zero =>
      obtain ⟨rfl, rfl⟩ := Prod.mk.inj (hi.nil rfl)
      have hlimN : Meets Tryz.prog 40 [.agg [I c1, .nils]] (linR (limE (c1, []))) := of_args hlim fun ok w l h => cons_imp (fun u h => lnN h) (fun _ h => h) h
      simp only [tv, if_true]
      refine call_meets (hlimN) (by simp only [aev, cv, cvc, toD_c, toD_nils, toD_agg, consO_some, toDL_nil, toDL_cons, isC, bsD, Option.map_some] <;> rfl) ?_; simp only [awp_ret, seqQ_n, awpOps_nil, awpOps_one, awpOp_is, isCallV, putK_is, updK_is, put_s, upd_n, upd_s, slot_is, retA_is, pureOp, apureO, astepO, killT, aev, cv, cvc, elO_s, loadA_p, storeA, cellsA, cellOk, setAll, flat_c, flat_tup, flat_agg, flat_sl, flatL_nil, flatL_cons, ownsV_c, ownsV_nils, ownsV_agg, ownsL_nil, ownsL_cons, toD_c, toD_tup, toD_agg, toD_sl, consO_some, toDL_nil, toDL_cons, notExit, resA_nil, resA_tmp, resA_cell, oneA_2, isC, bsD, Bool.false_eq_true, ↓reduceIte, List.getElem?_cons_zero, List.getElem?_cons_succ, List.length_cons, List.length_nil, List.append_nil, List.set_cons_zero, List.set_cons_succ, Option.map_some, List.take_succ_cons, List.drop_zero, Bool.and_true, Bool.true_and, Bool.and_false, Bool.and_self, Bool.or_true, true_and, and_true, and_self, Nat.reduceAdd, Nat.reduceEqDiff, Nat.zero_add, List.isEmpty_nil, Nat.le_refl, List.take_nil, Ty.td24]
      rw [hR' _ hr]
    | succ j =>
      simp only [tv, Nat.add_one_ne_zero, if_false]
      refine call_meets (hlim) (by simp only [aev, cv, cvc, toD_c, toD_agg, toD_sl, consO_some, toDL_nil, toDL_cons, isC, bsD, Option.map_some] <;> rfl) ?_; simp only [awp_ret, seqQ_n, awpOps_nil, awpOps_one, awpOp_is, isCallV, putK_is, updK_is, put_s, upd_n, upd_s, slot_is, retA_is, pureOp, apureO, astepO, killT, aev, cv, cvc, elO_s, loadA_p, storeA, cellsA, cellOk, setAll, flat_c, flat_tup, flat_agg, flat_sl, flatL_nil, flatL_cons, ownsV_c, ownsV_agg, ownsV_sl, ownsL_nil, ownsL_cons, toD_c, toD_tup, toD_agg, toD_sl, consO_some, toDL_nil, toDL_cons, notExit, resA_nil, resA_tmp, resA_cell, oneA_2, isC, bsD, Bool.false_eq_true, ↓reduceIte, List.getElem?_cons_zero, List.getElem?_cons_succ, List.length_cons, List.length_nil, List.append_nil, List.set_cons_zero, List.set_cons_succ, Option.map_some, List.take_succ_cons, List.drop_zero, Bool.and_true, Bool.true_and, Bool.and_false, Bool.and_self, Bool.or_true, true_and, and_true, and_self, Nat.reduceAdd, Nat.reduceEqDiff, Nat.zero_add, List.isEmpty_nil, Nat.le_refl, List.take_nil, Ty.td24]
      rw [hR' _ hr]
  have ht : ts[j]? = some ts[j] := List.getElem?_eq_getElem hlt
  generalize ts[j] = t at *
  have hstep := inv_step hi hb ht hts
  have hsz := hts t (List.mem_of_getElem? ht)
  have hss := sub_step bs (c1, l1) ht
  rw [← hi.sub] at hss
  have hby := by_small hb hsz
  have hbound := rbound bs t.1 (by have := hb.1; omega)
  have fin : ∀ (xc : Int) (xt : List Tm), byE bs t.1 = (xc, xt) → xt.length ≤ 12 → Meets Tryz.prog 41 [.agg [I c1, tv j l1], ln xc xt, I t.2] (ln (timesE (c1, l1) (xc, xt) t.2).1 (timesE (c1, l1) (xc, xt) t.2).2) := by
    intro xc xt _ hx
    cases j with
    | zero =>
      obtain ⟨rfl, rfl⟩ := Prod.mk.inj (hi.nil rfl)
      exact rtimesN c1 xc xt t.2 (by omega)
    | succ j => exact rtimes c1 l1 xc xt t.2 hi.srt (by have := hi.len; simp only at this; omega) (by omega)
  have hd : ∀ h, toD h (tv j l1) = some (tv j l1) := fun h => by cases j <;> simp [tv, toD]
  have ho : ownsV (tv j l1) = [] := by cases j <;> simp [tv, ownsV]
  generalize tv j l1 = x1 at fin hd ho ⊢
  simp only [awp_skip, awp_reg, awp_seq, awp_cond, awp_block, seqQ_n, awpOps_nil, awpOps_one, awpOp_is, isCallV, callW_is, callV_is, putK_is, updK_is, put_s, upd_n, upd_s, slot_is, pureOp, apureO, astepO, killT, aev, cv, cvc, binK, elO_s, lenA, lenK, loadA_d, loadA_p, storeA, cellsA, cellOk, setAll, condA_t, mlenA_sl, isC, bsD, Int.natCast_nonneg, Bool.false_eq_true, ↓reduceIte, List.getElem?_cons_zero, List.getElem?_cons_succ, List.length_cons, List.length_nil, List.map_cons, List.map_nil, List.cons_append, List.nil_append, List.append_nil, List.set_cons_zero, List.set_cons_succ, Option.map_some, List.take_succ_cons, List.all_cons, List.all_nil, Bool.true_and, Bool.and_self, Value.oneCell', true_and, and_self, ne_eq, not_false_eq_true, reduceCtorEq, Nat.reduceAdd, Nat.reduceEqDiff, Nat.zero_add, Int.toNat_natCast, Option.isSome_some, Nat.le_refl, List.take_nil, Ty.td9, Ty.td22, Ty.td24, Ty.td42, show decide ((j : Int) < (ts.length : Int)) = true from decide_eq_true (by omega), List.getElem?_map, List.length_map, ht]
  refine call_meets (hbound) (by simp only [aev, cv, cvc, toD_c, toD_sl, consO_some, toDL_nil, toDL_cons, isC, bsD] <;> rfl) ?_; simp only [awpOps_one, awpOp_is, putK_is, put_s, upd_s, slot_is, pureOp, apureO, killT, aev, cv, cvc, ownsV_c, ownsV_sl, ownsL_nil, ownsL_cons, isC, bsD, ↓reduceIte, List.append_nil, Bool.or_true, List.isEmpty_nil]
  unfold boundV
  cases hf : bs.find? (hitB t.1) with
  | none =>
    have hbe : byE bs t.1 = (0, [(t.1, 1)]) := by unfold byE; rw [hf]
    rw [hbe] at hstep hss hby
    simp only at hby
    simp only [awp_reg, awp_seq, awp_cond, seqQ_n, awpOps_nil, awpOps_one, awpOp_is, isCallV, callW_is, callV_is, putK_is, updK_is, put_s, upd_n, upd_s, slot_is, pureOp, apureO, astepO, killT, aev, cv, cvc, elO_s, loadA_p, storeA, cellsA, cellOk, setAll, condA_t, isC, bsD, Bool.false_eq_true, ↓reduceIte, List.getElem?_cons_zero, List.getElem?_cons_succ, List.length_cons, List.length_nil, List.map_cons, List.map_nil, List.cons_append, List.nil_append, List.append_nil, List.set_cons_zero, List.set_cons_succ, List.all_cons, List.all_nil, Bool.true_and, Bool.and_self, Bool.not_false, Value.oneCell', true_and, and_self, ne_eq, not_false_eq_true, reduceCtorEq, Nat.reduceAdd, Nat.reduceEqDiff, Nat.zero_add, Nat.le_refl, Ty.td9, Ty.td24, Ty.td42]
    refine call_meets (rvar t.1) (by simp only [aev, cv, cvc, toD_c, consO_some, toDL_nil, toDL_cons, isC, bsD] <;> rfl) ?_; simp only [awp_reg, awp_seq, seqQ_n, awpOps_nil, awpOps_one, awpOp_is, isCallV, callW_is, callV_is, putK_is, updK_is, put_s, upd_n, upd_s, slot_is, pureOp, apureO, astepO, killT, aev, cv, cvc, elO_s, loadA_p, storeA, cellsA, cellOk, setAll, flat_c, flat_agg, flat_sl, flatL_nil, flatL_cons, ownsV_c, ownsL_nil, ownsL_cons, isC, bsD, Bool.false_eq_true, ↓reduceIte, List.getElem?_cons_zero, List.getElem?_cons_succ, List.length_cons, List.length_nil, List.map_cons, List.map_nil, List.append_nil, List.set_cons_zero, List.set_cons_succ, List.take_succ_cons, List.drop_zero, Bool.and_true, Bool.true_and, Bool.and_false, Bool.or_true, true_and, and_true, Nat.reduceAdd, Nat.reduceEqDiff, Nat.zero_add, List.isEmpty_nil, Nat.le_refl, List.take_nil, Ty.td24]
    refine call_meets (rvalid 0 [(t.1, 1)] ⟨by simp, hby.2⟩) (by simp only [aev, cv, cvc, toD_c, toD_agg, toD_sl, consO_some, toDL_nil, toDL_cons, isC, bsD, List.map_cons, List.map_nil, Option.map_some] <;> rfl) ?_; simp only [awp_cond, seqQ_n, awpOps_nil, awpOps_one, awpOp_is, putK_is, put_s, upd_s, slot_is, pureOp, apureO, killT, aev, cv, cvc, flat_c, ownsV_c, ownsV_agg, ownsV_sl, ownsL_nil, ownsL_cons, isC, bsD, ↓reduceIte, List.append_nil, Bool.or_true, List.isEmpty_nil]
    cases hvy : validE 0 [(t.1, 1)] with
    | false =>
      rw [hvy] at hss
      simp only [awp_reg, awp_seq, awp_ret, seqQ_n, seqQ_r, loopQ_r, blkQ_r, awpOps_nil, awpOps_one, awpOp_is, isCallV, putK_is, updK_is, put_s, upd_n, slot_is, slot.eq_1, retA_is, pureOp, apureO, astepO, killT, aev, cv, cvc, elO_s, loadA_p, storeA, cellsA, cellOk, setAll, fillA, placeT, placesA, condA_t, toD_c, toD_nils, toD_tup, toD_agg, consO_some, toDL_nil, toDL_cons, notExit, resA_nil, resA_tmp, resA_cell, oneA_2, isC, bsD, Bool.false_eq_true, ↓reduceIte, List.getElem?_cons_zero, List.getElem?_cons_succ, List.length_cons, List.length_nil, List.map_cons, List.map_nil, List.set_cons_zero, List.set_cons_succ, Option.map_some, List.take_succ_cons, List.drop_zero, List.all_cons, List.all_nil, Bool.true_and, Bool.and_self, Bool.not_false, Value.oneCell', true_and, and_self, ne_eq, not_false_eq_true, reduceCtorEq, Nat.reduceAdd, Nat.reduceEqDiff, Nat.zero_add, Nat.le_refl, List.take_nil, Ty.td3, Ty.td22, Ty.td24, hvy]
      rw [hN (by rw [hss]; rfl)]
    | true =>
      simp only [awp_skip, awp_reg, seqQ_n, awpOps_one, awpOp_is, isCallV, callW_is, callV_is, putK_is, put_s, slot_is, pureOp, apureO, aev, cv, cvc, elO_s, loadA_p, condA_f, isC, bsD, Bool.false_eq_true, ↓reduceIte, List.getElem?_cons_zero, List.getElem?_cons_succ, List.length_cons, List.length_nil, List.map_cons, List.map_nil, List.append_nil, List.take_succ_cons, List.drop_zero, Bool.true_and, Bool.not_true, true_and, ne_eq, not_false_eq_true, reduceCtorEq, Nat.reduceAdd, Nat.reduceEqDiff, Nat.zero_add, Nat.le_refl, List.take_nil, Ty.td3, Ty.td24, Ty.td42, hvy]
      refine call_meets (fin 0 [(t.1, 1)] hbe (by simp)) (by simp only [aev, cv, cvc, toD_c, toD_agg, toD_sl, consO_some, toDL_nil, toDL_cons, isC, bsD, List.map_cons, List.map_nil, Option.map_some, hd, ho] <;> rfl) ?_; simp only [awp_reg, seqQ_n, loopQ_n, blkQ_n, awpOps_nil, awpOps_one, awpOp_is, isCallV, putK_is, updK_is, put_s, upd_n, upd_s, slot_is, pureOp, apureO, astepO, killT, aev, cv, cvc, binK, elO_s, storeA, cellsA, cellOk, setAll, flat_c, flat_agg, flat_sl, flatL_nil, flatL_cons, ownsV_c, ownsV_agg, ownsV_sl, ownsL_nil, ownsL_cons, isC, bsD, Bool.false_eq_true, ↓reduceIte, List.getElem?_cons_zero, List.getElem?_cons_succ, List.length_cons, List.length_nil, List.append_nil, List.set_cons_zero, List.set_cons_succ, Bool.and_true, Bool.true_and, Bool.and_false, Bool.or_true, true_and, and_true, Nat.reduceAdd, Nat.reduceEqDiff, Nat.zero_add, List.isEmpty_nil, Nat.le_refl, Ty.td24, hd, ho]
      rw [wrap_in (x := (j : Int) + 1) (by omega) (by omega)]
      refine hK (j + 1, timesE (c1, l1) (0, [(t.1, 1)]) t.2) _ (hstep hvy) (by simp only; omega) ?_ rfl (.trim rfl rfl rfl)
      simp only [slot_is, aev, cv, cvc, Weak, isC, bsD, ↓reduceIte, Bool.and_true, Bool.and_self, and_true, and_self, Nat.reduceEqDiff]
      simp
  | some b =>
    have hbe : byE bs t.1 = (b.c, b.ts) := by unfold byE; rw [hf]
    rw [hbe] at hstep hss hby
    simp only at hby
    simp only [awp_skip, awp_reg, awp_seq, awp_cond, seqQ_n, awpOps_nil, awpOps_one, awpOp_is, isCallV, callW_is, callV_is, putK_is, updK_is, put_s, upd_n, upd_s, slot_is, pureOp, apureO, astepO, killT, aev, cv, cvc, elO_s, loadA_p, storeA, cellsA, cellOk, setAll, condA_f, isC, bsD, Bool.false_eq_true, ↓reduceIte, List.getElem?_cons_zero, List.getElem?_cons_succ, List.length_cons, List.length_nil, List.map_cons, List.map_nil, List.cons_append, List.nil_append, List.append_nil, List.set_cons_zero, List.set_cons_succ, List.take_succ_cons, List.drop_zero, List.all_cons, List.all_nil, Bool.true_and, Bool.and_self, Bool.not_true, Value.oneCell', true_and, and_self, Nat.reduceAdd, Nat.reduceEqDiff, Nat.zero_add, Nat.le_refl, List.take_nil, Ty.td24]
    refine call_meets (rvalid b.c b.ts ⟨by have := hby.1; omega, hby.2⟩) (by simp only [aev, cv, cvc, toD_c, toD_agg, toD_sl, consO_some, toDL_nil, toDL_cons, isC, bsD, Option.map_some] <;> rfl) ?_; simp only [awp_cond, seqQ_n, awpOps_nil, awpOps_one, awpOp_is, putK_is, put_s, upd_s, slot_is, pureOp, apureO, killT, aev, cv, cvc, flat_c, ownsV_c, ownsV_agg, ownsV_sl, ownsL_nil, ownsL_cons, isC, bsD, ↓reduceIte, List.append_nil, Bool.or_true, List.isEmpty_nil]
    cases hvy : validE b.c b.ts with
    | false =>
      rw [hvy] at hss
      simp only [awp_reg, awp_seq, awp_ret, seqQ_n, seqQ_r, loopQ_r, blkQ_r, awpOps_nil, awpOps_one, awpOp_is, isCallV, putK_is, updK_is, put_s, upd_n, slot_is, slot.eq_1, retA_is, pureOp, apureO, astepO, killT, aev, cv, cvc, elO_s, loadA_p, storeA, cellsA, cellOk, setAll, fillA, placeT, placesA, condA_t, toD_c, toD_nils, toD_tup, toD_agg, consO_some, toDL_nil, toDL_cons, notExit, resA_nil, resA_tmp, resA_cell, oneA_2, isC, bsD, Bool.false_eq_true, ↓reduceIte, List.getElem?_cons_zero, List.getElem?_cons_succ, List.length_cons, List.length_nil, List.map_cons, List.map_nil, List.set_cons_zero, List.set_cons_succ, Option.map_some, List.take_succ_cons, List.drop_zero, List.all_cons, List.all_nil, Bool.true_and, Bool.and_self, Bool.not_false, Value.oneCell', true_and, and_self, ne_eq, not_false_eq_true, reduceCtorEq, Nat.reduceAdd, Nat.reduceEqDiff, Nat.zero_add, Nat.le_refl, List.take_nil, Ty.td3, Ty.td22, Ty.td24, hvy]
      rw [hN (by rw [hss]; rfl)]
    | true =>
      simp only [awp_skip, awp_reg, seqQ_n, awpOps_one, awpOp_is, isCallV, callW_is, callV_is, putK_is, put_s, slot_is, pureOp, apureO, aev, cv, cvc, elO_s, loadA_p, condA_f, isC, bsD, Bool.false_eq_true, ↓reduceIte, List.getElem?_cons_zero, List.getElem?_cons_succ, List.length_cons, List.length_nil, List.map_cons, List.map_nil, List.append_nil, List.take_succ_cons, List.drop_zero, Bool.true_and, Bool.not_true, true_and, ne_eq, not_false_eq_true, reduceCtorEq, Nat.reduceAdd, Nat.reduceEqDiff, Nat.zero_add, Nat.le_refl, List.take_nil, Ty.td3, Ty.td24, Ty.td42, hvy]
      refine call_meets (fin b.c b.ts hbe (valid_parts hvy).2.1) (by simp only [aev, cv, cvc, toD_c, toD_agg, toD_sl, consO_some, toDL_nil, toDL_cons, isC, bsD, Option.map_some, hd, ho] <;> rfl) ?_; simp only [awp_reg, seqQ_n, loopQ_n, blkQ_n, awpOps_nil, awpOps_one, awpOp_is, isCallV, putK_is, updK_is, put_s, upd_n, upd_s, slot_is, pureOp, apureO, astepO, killT, aev, cv, cvc, binK, elO_s, storeA, cellsA, cellOk, setAll, flat_c, flat_agg, flat_sl, flatL_nil, flatL_cons, ownsV_c, ownsV_agg, ownsV_sl, ownsL_nil, ownsL_cons, isC, bsD, Bool.false_eq_true, ↓reduceIte, List.getElem?_cons_zero, List.getElem?_cons_succ, List.length_cons, List.length_nil, List.append_nil, List.set_cons_zero, List.set_cons_succ, Bool.and_true, Bool.true_and, Bool.and_false, Bool.or_true, true_and, and_true, Nat.reduceAdd, Nat.reduceEqDiff, Nat.zero_add, List.isEmpty_nil, Nat.le_refl, Ty.td24, hd, ho]
      rw [wrap_in (x := (j : Int) + 1) (by omega) (by omega)]
      refine hK (j + 1, timesE (c1, l1) (b.c, b.ts) t.2) _ (hstep hvy) (by simp only; omega) ?_ rfl (.trim rfl rfl rfl)
      simp only [slot_is, aev, cv, cvc, Weak, isC, bsD, ↓reduceIte, Bool.and_true, Bool.and_self, and_true, and_self, Nat.reduceEqDiff]
      simp

theorem rsubst (c : Int) (ts : List Tm) (bs : List Bd) (hb : okB bs) (hl : ts.length ≤ 100) (hts : ∀ t ∈ ts, t.1.size ≤ 1000000) : Meets Tryz.prog 22 [ln c ts, bds bs] (linR (substR c ts bs)) := by
  unfold substR
  cases hv : validE c ts with
  | false =>
    refine Meets.weak (r0 := .tup [.agg [I 0, .nils], I 1]) ?_ fun ok w v h => zero_imp h
    refine meets_of (X := true) Ty.mixed Tryz.func22 (by kernel_rfl) rfl (by kernel_rfl) (by simp) ?_; rw [Tryz.ntmps22, Tryz.results22]
    simp only [awp_reg, awp_seq, seqQ_n, awpOps_nil, awpOps_one, awpOp_is, isCallV, callW_is, callV_is, putK_is, updK_is, put_s, upd_s, slot_is, pureOp, apureO, astepO, killT, aev, cv, cvc, elO_s, loadA_p, cellsA, cellOk, argT, isC, bsD, Bool.false_eq_true, ↓reduceIte, List.getElem?_cons_zero, List.length_cons, List.length_nil, List.map_cons, List.map_nil, List.cons_append, List.nil_append, List.append_nil, List.take_succ_cons, List.drop_zero, List.all_cons, List.all_nil, Bool.true_and, Bool.and_self, Value.oneCell', true_and, and_self, Nat.reduceAdd, Nat.reduceEqDiff, Nat.zero_add, Nat.le_refl, List.take_nil, Ty.td24]
    refine call_meets (rvalid c ts ⟨by omega, hts⟩) (by simp only [aev, cv, cvc, toD_c, toD_agg, toD_sl, consO_some, toDL_nil, toDL_cons, isC, bsD, Option.map_some] <;> rfl) ?_; simp only [awp_cond, seqQ_n, awpOps_nil, awpOps_one, awpOp_is, putK_is, put_s, upd_s, slot_is, pureOp, apureO, killT, aev, cv, cvc, flat_c, ownsV_c, ownsV_agg, ownsV_sl, ownsL_nil, ownsL_cons, isC, bsD, ↓reduceIte, List.append_nil, Bool.or_true, List.isEmpty_nil]
    simp only [awp_reg, awp_seq, awp_ret, seqQ_n, seqQ_r, awpOps_nil, awpOps_one, awpOp_is, isCallV, putK_is, updK_is, put_s, upd_n, slot_is, slot.eq_1, retA_is, pureOp, apureO, astepO, killT, aev, cv, cvc, elO_s, loadA_p, storeA, cellsA, cellOk, setAll, fillA, placeT, placesA, condA_t, toD_c, toD_nils, toD_tup, toD_agg, consO_some, toDL_nil, toDL_cons, notExit, resA_nil, resA_tmp, resA_cell, oneA_2, isC, bsD, Bool.false_eq_true, ↓reduceIte, List.getElem?_cons_zero, List.getElem?_cons_succ, List.length_cons, List.length_nil, List.map_cons, List.map_nil, List.set_cons_zero, List.set_cons_succ, Option.map_some, List.take_succ_cons, List.drop_zero, List.all_cons, List.all_nil, Bool.true_and, Bool.and_self, Bool.not_false, Value.oneCell', true_and, and_self, ne_eq, not_false_eq_true, reduceCtorEq, Nat.reduceAdd, Nat.reduceEqDiff, Nat.zero_add, Nat.le_refl, List.take_nil, Ty.td3, Ty.td22, Ty.td24, hv]
  | true =>
    simp only [if_true]
    cases h : subR bs ts (c, []) with
    | none => exact Meets.weak (rsubst_res c ts bs hb hl hts hv (.tup [.agg [I 0, .nils], I 1]) (fun _ => rfl) (fun st hs => by rw [h] at hs; cases hs)) fun ok w v h => zero_imp h
    | some st => exact rsubst_res c ts bs hb hl hts hv _ (fun hn => by rw [h] at hn; cases hn) (fun st' hs => by rw [h] at hs; cases hs; rfl)

end Go.Proofs.YtjgaebomcdkohaaGreatDoor.L32
