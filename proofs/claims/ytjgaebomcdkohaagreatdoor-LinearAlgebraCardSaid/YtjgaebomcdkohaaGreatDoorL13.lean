/- Linear expressions: substituting, in the program. -/
import Derived.Test.YtjgaebomcdkohaaGreatDoorL6
import Derived.Test.YtjgaebomcdkohaaGreatDoorL7
namespace Go.Proofs.YtjgaebomcdkohaaGreatDoor.L13
open Go Go.Proofs.YtjgaebomcdkohaaGreatDoor.Eng Go.Proofs.YtjgaebomcdkohaaGreatDoor Go.RowKit Go.Proofs.YtjgaebomcdkohaaGreatDoor.L1 Go.Proofs.YtjgaebomcdkohaaGreatDoor.L2 Go.Proofs.YtjgaebomcdkohaaGreatDoor.L3 Go.Proofs.YtjgaebomcdkohaaGreatDoor.L4 Go.Proofs.YtjgaebomcdkohaaGreatDoor.L5 Go.Proofs.YtjgaebomcdkohaaGreatDoor.L6 Go.Proofs.YtjgaebomcdkohaaGreatDoor.L7
set_option linter.unusedSimpArgs false
set_option linter.unusedVariables false
set_option linter.unusedSectionVars false
set_option maxRecDepth 100000

structure Bd where
  kind : Int
  var : ByteArray
  c : Int
  ts : List Tm
  row : ByteArray
  dims : List (Int × List Tm)
  elem : ByteArray
abbrev bdV (b : Bd) : List AV := [I b.kind, S b.var, I b.c, tms b.ts, S b.row, .sl false 2 (b.dims.map fun d => [I d.1, tms d.2]), S b.elem]
abbrev bds (bs : List Bd) : AV := .sl false 7 (bs.map bdV)
abbrev hitB (v : ByteArray) (b : Bd) : Bool := (b.kind == 1) && (b.var.toList == v.toList)
def findI (p : Bd → Bool) : List Bd → Nat → Int
  | [], _ => -1
  | b :: r, k => if p b = true then k else findI p r (k + 1)
theorem findI_spec (p : Bd → Bool) : ∀ (bs : List Bd) (k : Nat), (findI p bs k = -1 ∧ bs.find? p = none) ∨ ∃ i b, bs[i]? = some b ∧ bs.find? p = some b ∧ findI p bs k = (k + i : Nat)
  | [], k => Or.inl ⟨rfl, rfl⟩
  | b :: r, k => by
    unfold findI
    cases h : p b with
    | true => exact Or.inr ⟨0, b, rfl, by simp [List.find?, h], by simp⟩
    | false =>
      rcases findI_spec p r (k + 1) with ⟨h1, h2⟩ | ⟨i, c, h1, h2, h3⟩
      · exact Or.inl ⟨by simpa using h1, by simp [List.find?, h, h2]⟩
      · refine Or.inr ⟨i + 1, c, by simpa using h1, by simp [List.find?, h, h2], ?_⟩
        simp only [Bool.false_eq_true, if_false, h3]
        omega

theorem hit (v : ByteArray) (x : Int) (b : Bd) : Meets Tryz.prog 48 [.agg (bdV b), .dptr [S v, I x]] (B (hitB v b)) := by
  refine meets_of (X := false) Ty.mixed Tryz.func48 (by kernel_rfl) rfl (by kernel_rfl) (by simp) ?_; rw [Tryz.ntmps48, Tryz.results48]
  cases h : b.kind == 1 with
  | false =>
    simp only [awp_reg, awp_seq, awp_ret, seqQ_n, awpOps_nil, awpOps_one, awpOps_if, awpOp_is, isCallV, putK_is, updK_is, put_s, upd_s, slot_is, retA_is, pureOp, apureO, astepO, killT, aev, cv, cvc, binK, elO_s, loadA_p, cellsA, cellOk, yieldA, guardA_tf, pickA_f, toD_c, notExit, resA_nil, resA_tmp, oneA_1, argT, isC, bsD, Bool.false_eq_true, ↓reduceIte, List.getElem?_cons_zero, List.getElem?_cons_succ, List.length_cons, List.length_nil, List.nil_append, List.getElem?_toArray, Option.bind_some, Bool.true_and, true_and, ne_eq, not_false_eq_true, reduceCtorEq, Nat.reduceAdd, Nat.reduceEqDiff, Nat.zero_add, Ty.td3, Ty.td49, h]
    simp [hitB, h]
  | true =>
    simp only [awp_reg, awp_seq, awp_ret, seqQ_n, awpOps_nil, awpOps_one, awpOps_if, awpOp_is, isCallV, awpO_is, putK_is, updK_is, put_s, upd_s, slot_is, retA_is, pureOp, apureO, astepO, killT, aev, cv, cvc, binK, elO_s, loadA_d, loadA_p, cellsA, cellOk, yieldA, guardA_tt, pickA_t, toD_c, notExit, resA_nil, resA_tmp, oneA_1, argT, eqFK_nil, eqOpK_e, isC, bsD, Bool.false_eq_true, ↓reduceIte, List.getElem?_cons_zero, List.getElem?_cons_succ, List.length_cons, List.length_nil, List.nil_append, List.getElem?_toArray, Option.bind_some, List.drop_zero, Bool.true_and, true_and, ne_eq, not_false_eq_true, reduceCtorEq, Nat.reduceAdd, Nat.reduceEqDiff, Nat.zero_add, Ty.td3, Ty.td9, Ty.td42, Ty.td49, h]
    simp [hitB, h]
theorem idx (v : ByteArray) (x : Int) (bs : List Bd) (hl : bs.length ≤ 1000000) : Meets Tryz.prog 47 [bds bs, .fn 48 [.dptr [S v, I x]]] (I (findI (hitB v) bs 0)) := by
  refine meets_of (X := false) Ty.mixed Tryz.func47 (by kernel_rfl) rfl (by kernel_rfl) (by simp) ?_; rw [Tryz.ntmps47, Tryz.results47]
  simp only [awp_reg, awp_seq, awp_block, awp_loop, seqQ_n, awpOps_nil, awpOps_one, awpOp_is, putK_is, put_s, slot_is, pureOp, apureO, aev, cv, cvc, elO_s, lenA, lenK, argT, mlenA_sl, isC, bsD, ↓reduceIte, Bool.true_and, true_and, reduceCtorEq, Nat.zero_add, Option.isSome_some, Ty.td32, List.length_map]
  refine loop_k (fun k : Nat => k ≤ bs.length ∧ findI (hitB v) bs 0 = findI (hitB v) (bs.drop k) k) (fun k => ⟨19, [(8, I k), (7, I bs.length), (0, bds bs), (1, .fn 48 [.dptr [S v, I x]])], []⟩) (fun k => bs.length - k) 0 ⟨Nat.zero_le _, rfl⟩ (by simp only [slot_is, aev, cv, cvc, Weak, isC, bsD, ↓reduceIte, Bool.and_true, Bool.and_self, and_true, and_self, reduceCtorEq, Nat.reduceEqDiff]; simp) rfl rfl ?_
  rintro k ⟨hk, hi⟩ K hK
  rw [hi]
  by_cases hlt : k < bs.length
  · have hb : bs[k]? = some bs[k] := List.getElem?_eq_getElem hlt
    rw [List.drop_eq_getElem_cons hlt, findI] at hi ⊢
    generalize bs[k] = b at *
    simp only [awp_skip, awp_reg, awp_seq, awp_cond, awp_block, seqQ_n, awpOps_nil, awpOps_one, awpOp_is, isCallV, callW_is, callV_is, putK_is, put_s, slot_is, pureOp, apureO, aev, cv, cvc, binK, elO_s, loadA_d, condA_t, isC, bsD, Int.natCast_nonneg, Bool.false_eq_true, ↓reduceIte, List.length_cons, List.length_nil, List.map_cons, List.map_nil, List.cons_append, List.nil_append, Option.map_some, List.take_succ_cons, Bool.true_and, true_and, reduceCtorEq, Nat.reduceAdd, Nat.reduceEqDiff, Nat.zero_add, Int.toNat_natCast, Nat.le_refl, List.take_nil, Ty.td32, Ty.td49, show decide ((k : Int) < (bs.length : Int)) = true from decide_eq_true (by omega), List.getElem?_map, hb]
    refine call_meets (hit v x b) (by simp only [aev, cv, cvc, toD_c, toD_agg, toD_sl, toD_dptr, consO_some, toDL_nil, toDL_cons, isC, bsD, Option.map_some] <;> rfl) ?_; simp only [awp_cond, seqQ_n, awpOps_nil, upd_s, slot_is, killT, aev, cv, cvc, flat_c, ownsV_c, ownsV_agg, ownsV_sl, ownsV_dptr, ownsL_nil, ownsL_cons, isC, bsD, ↓reduceIte, List.append_nil, Bool.or_true, List.isEmpty_nil]
    cases hh : hitB v b with
    | true =>
      simp only [awp_reg, awp_seq, awp_ret, seqQ_n, seqQ_r, loopQ_r, blkQ_r, awpOps_nil, awpOps_one, awpOp_is, putK_is, put_s, slot_is, retA_is, pureOp, apureO, aev, cv, cvc, condA_t, toD_c, notExit, resA_nil, resA_tmp, oneA_1, isC, bsD, ↓reduceIte, Bool.and_self, and_self, Nat.reduceEqDiff, hh]
    | false =>
      rw [hh] at hi
      simp only [awp_skip, awp_reg, seqQ_n, loopQ_n, blkQ_n, awpOps_nil, awpOps_one, awpOp_is, putK_is, put_s, slot_is, pureOp, apureO, aev, cv, cvc, binK, condA_f, isC, bsD, Bool.false_eq_true, ↓reduceIte, Bool.true_and, true_and, Nat.reduceEqDiff, hh]
      rw [wrap_in (by omega) (by omega)]
      refine hK (k + 1) _ ⟨by omega, by simpa using hi⟩ (by omega) ?_ rfl rfl
      simp only [slot_is, aev, cv, cvc, Weak, isC, bsD, ↓reduceIte, Bool.and_true, Bool.and_self, and_true, and_self, reduceCtorEq, Nat.reduceEqDiff]
      simp
  · have h0 : bs.drop k = [] := List.drop_eq_nil_of_le (by omega)
    rw [h0]
    simp only [awp_reg, awp_seq, awp_cond, awp_exit, awp_ret, seqQ_n, seqQ_e, loopQ_e, blkQ_e, awpOps_nil, awpOps_one, awpOp_is, putK_is, put_s, slot_is, retA_is, pureOp, apureO, aev, cv, cvc, binK, condA_f, toD_c, notExit, resA_nil, resA_tmp, oneA_1, isC, bsD, ↓reduceIte, Bool.true_and, true_and, Nat.reduceEqDiff, show decide ((k : Int) < (bs.length : Int)) = false from decide_eq_false (by omega)]
    rfl

def byE (bs : List Bd) (v : ByteArray) : Int × List Tm := match bs.find? (hitB v) with | some b => (b.c, b.ts) | none => (0, [(v, 1)])
def subL (bs : List Bd) : List Tm → Int × List Tm → Option (Int × List Tm)
  | [], st => some st
  | t :: r, st => if validE (byE bs t.1).1 (byE bs t.1).2 = true then subL bs r (addS t.2 (byE bs t.1).1 (byE bs t.1).2 st) else none
def substE (c : Int) (ts : List Tm) (bs : List Bd) : (Int × List Tm) × Int :=
  if validE c ts = true then match subL bs ts (c, []) with | none => ((0, []), 1) | some st => linearE st.1 st.2 else ((0, []), 1)


def okB (bs : List Bd) : Prop := bs.length ≤ 1000 ∧ ∀ b ∈ bs, b.ts.length ≤ 1000 ∧ ∀ t ∈ b.ts, t.1.size ≤ 1000000
theorem by_small {bs : List Bd} {v : ByteArray} (h : okB bs) (hv : v.size ≤ 1000000) : (byE bs v).2.length ≤ 1000 ∧ ∀ t ∈ (byE bs v).2, t.1.size ≤ 1000000 := by
  unfold byE
  cases hf : bs.find? (hitB v) with
  | none => exact ⟨by simp, fun t ht => by simp at ht; subst ht; exact hv⟩
  | some b => exact h.2 b (List.mem_of_find?_eq_some hf)
abbrev hS (c : Int) (ts : List Tm) (c' : Int) (cs : List Tm) : Heap := [some (.var 24 [I c, tms ts]), some (.var 24 [I 0, .nils]), mapB cs, sumB 2 c']
theorem subst_res (hks : KS) (c : Int) (ts : List Tm) (bs : List Bd) (hb : okB bs) (hl : ts.length ≤ 100) (hts : ∀ t ∈ ts, t.1.size ≤ 1000000) (hv : validE c ts = true) (res : AV) (hN : subL bs ts (c, []) = none → res = .tup [.agg [I 0, .nils], I 1]) (hR : ∀ st, subL bs ts (c, []) = some st → res = linR (linearE st.1 st.2)) : Meets Tryz.prog 21 [ln c ts, bds bs] res := by
  have hsm : small ts := ⟨by omega, hts⟩
  refine meets_of (X := true) Ty.mixed Tryz.func21 (by kernel_rfl) rfl (by kernel_rfl) (by simp) ?_; rw [Tryz.ntmps21, Tryz.results21]
  simp only [awp_reg, awp_seq, seqQ_n, awpOps_nil, awpOps_one, awpOp_is, isCallV, callW_is, callV_is, putK_is, updK_is, put_s, upd_s, slot_is, pureOp, apureO, astepO, killT, aev, cv, cvc, elO_s, loadA_p, cellsA, cellOk, argT, isC, bsD, Bool.false_eq_true, ↓reduceIte, List.getElem?_cons_zero, List.length_cons, List.length_nil, List.map_cons, List.map_nil, List.cons_append, List.nil_append, List.append_nil, List.take_succ_cons, List.drop_zero, List.all_cons, List.all_nil, Bool.true_and, Bool.and_self, Value.oneCell', true_and, and_self, Nat.reduceAdd, Nat.reduceEqDiff, Nat.zero_add, Nat.le_refl, List.take_nil, Ty.td24]
  refine call_meets (valid c ts hsm) (by simp only [aev, cv, cvc, toD_c, toD_agg, toD_sl, consO_some, toDL_nil, toDL_cons, isC, bsD, Option.map_some] <;> rfl) ?_; simp only [awp_cond, seqQ_n, awpOps_nil, awpOps_one, awpOp_is, putK_is, put_s, upd_s, slot_is, pureOp, apureO, killT, aev, cv, cvc, flat_c, ownsV_c, ownsV_agg, ownsV_sl, ownsL_nil, ownsL_cons, isC, bsD, ↓reduceIte, List.append_nil, Bool.or_true, List.isEmpty_nil]
  simp only [awp_skip, awp_reg, awp_seq, seqQ_n, awpOps_one, awpOp_is, isCallV, callW_is, callV_is, putK_is, put_s, slot_is, pureOp, apureO, aev, cv, cvc, elO_s, loadA_p, condA_f, isC, bsD, Bool.false_eq_true, ↓reduceIte, List.getElem?_cons_zero, List.length_cons, List.length_nil, List.map_cons, List.map_nil, List.append_nil, Bool.true_and, Bool.not_true, true_and, ne_eq, not_false_eq_true, reduceCtorEq, Nat.reduceAdd, Nat.reduceEqDiff, Nat.zero_add, Ty.td3, Ty.td24, hv]
  refine call_inl (X := false) Ty.mixed Tryz.func45 (by kernel_rfl) rfl (by kernel_rfl) (by simp) ?_; rw [Tryz.ntmps45, Tryz.results45]; simp only [awp_reg, awp_seq, awp_block, awp_loop, awp_ret, seqQ_n, awpOps_nil, awpOps_one, awpOp_is, isCallV, inlQ_is, retT_s, shiftT, unshift, putK_is, updK_is, put_s, upd_s, slot_is, slot.eq_1, pureOp, apureO, astepO, killT, aev, cv, cvc, elO_s, lenA, lenK, loadA_p, cellsA, cellOk, setAll, fillA, placeT, placesA, notExit, resA_nil, resA_tmp, oneA_1, argT, mapT_is, kindK_is, mmakA_n, mlenA_sl, isC, bsD, Bool.false_eq_true, ↓reduceIte, List.getElem?_cons_zero, List.getElem?_cons_succ, List.length_cons, List.length_nil, List.map_cons, List.map_nil, List.cons_append, List.nil_append, List.set_cons_zero, List.set_cons_succ, Option.map_none, List.all_cons, List.all_nil, Bool.true_and, Bool.and_self, Value.oneCell', true_and, and_self, ne_eq, not_false_eq_true, reduceCtorEq, Nat.reduceAdd, Nat.reduceLeDiff, Nat.reduceEqDiff, Nat.reduceSub, Nat.zero_add, Nat.add_zero, Option.isSome_some, Nat.le_refl, Ty.td3, Ty.td9, Ty.td22, Ty.td24, Ty.td109, Ty.td111]
  refine loop_g (fun a : Nat × Int × List Tm => a.1 ≤ ts.length ∧ subL bs (ts.drop a.1) a.2 = subL bs ts (c, []) ∧ a.2.2.length ≤ 1000 * a.1 ∧ ∀ t ∈ a.2.2, t.1.size ≤ 1000000) (fun a => ⟨52, [(21, I a.1), (20, I ts.length), (19, tms ts), (6, .ptr 3 0), (4, .ptr 1 0), (1, bds bs)], hS c ts a.2.1 a.2.2⟩) (fun a => ts.length - a.1) (0, c, []) ⟨Nat.zero_le _, rfl, by simp, by simp⟩ (by simp only [slot_is, aev, cv, cvc, Weak, isC, bsD, ↓reduceIte, Bool.and_true, Bool.and_self, and_true, and_self, reduceCtorEq, Nat.reduceEqDiff]; simp) rfl (.inl rfl) ?_
  rintro ⟨k, c1, cs1⟩ ⟨h1, h2, h3, h4⟩ K hK
  simp only at h1 h2 h3 h4 ⊢
  rw [← h2] at hN hR
  by_cases hlt : k < ts.length
  case neg =>
    have h0 : ts.drop k = [] := List.drop_eq_nil_of_le (by omega)
    rw [h0] at hR
    simp only [awp_reg, awp_seq, awp_cond, awp_exit, seqQ_n, seqQ_e, loopQ_e, blkQ_e, awpOps_nil, awpOps_one, awpOp_is, isCallV, callW_is, callV_is, putK_is, put_s, slot_is, pureOp, apureO, aev, cv, cvc, binK, condA_f, isC, bsD, Bool.false_eq_true, ↓reduceIte, List.map_cons, List.map_nil, List.append_nil, Bool.true_and, true_and, Nat.reduceEqDiff, show decide ((k : Int) < (ts.length : Int)) = false from decide_eq_false (by omega)]
    refine linear_in hks ⟨by omega, h4⟩ rfl rfl rfl rfl ?_
    simp only [awp_ret, seqQ_n, awpOps_nil, awpOps_one, awpOp_is, isCallV, putK_is, updK_is, put_s, upd_n, slot_is, retA_is, pureOp, apureO, astepO, killT, aev, cv, cvc, elO_s, loadA_p, storeA, cellsA, cellOk, setAll, toD_c, toD_tup, toD_agg, toD_sl, consO_some, toDL_nil, toDL_cons, notExit, resA_nil, resA_tmp, resA_cell, oneA_2, isC, bsD, Bool.false_eq_true, ↓reduceIte, List.getElem?_cons_zero, List.getElem?_cons_succ, List.length_cons, List.length_nil, List.set_cons_zero, List.set_cons_succ, Option.map_some, List.take_succ_cons, List.drop_zero, Bool.true_and, true_and, Nat.reduceAdd, Nat.reduceEqDiff, Nat.zero_add, Nat.le_refl, List.take_nil, Ty.td24]
    rw [hR _ rfl]
  have ht : ts[k]? = some ts[k] := List.getElem?_eq_getElem hlt
  have hsz := hts ts[k] (List.getElem_mem hlt)
  have h2' := h2
  rw [List.drop_eq_getElem_cons hlt, subL] at hN hR h2'
  generalize ts[k] = t at *
  obtain ⟨v, x⟩ := t
  simp only at hN hR h2' hsz
  have hby := by_small hb hsz
  simp only [awp_skip, awp_reg, awp_seq, awp_cond, awp_block, seqQ_n, awpOps_nil, awpOps_one, awpOp_is, isCallV, callW_is, callV_is, putK_is, updK_is, put_s, upd_n, upd_s, slot_is, pureOp, apureO, astepO, killT, aev, cv, cvc, binK, elO_s, loadA_d, loadA_p, storeA, cellsA, cellOk, setAll, condA_t, isC, bsD, Int.natCast_nonneg, Bool.false_eq_true, ↓reduceIte, List.getElem?_cons_zero, List.getElem?_cons_succ, List.length_cons, List.length_nil, List.map_cons, List.map_nil, List.cons_append, List.nil_append, List.append_nil, List.set_cons_zero, List.set_cons_succ, Option.map_some, List.take_succ_cons, List.all_cons, List.all_nil, Bool.true_and, Bool.and_self, Value.oneCell', true_and, and_self, ne_eq, not_false_eq_true, reduceCtorEq, Nat.reduceAdd, Nat.reduceEqDiff, Nat.zero_add, Int.toNat_natCast, Nat.le_refl, List.take_nil, Ty.td9, Ty.td22, Ty.td42, show decide ((k : Int) < (ts.length : Int)) = true from decide_eq_true (by omega), List.getElem?_map, ht]
  refine call_meets (var_ v) (by simp only [aev, cv, cvc, toD_c, consO_some, toDL_nil, toDL_cons, isC, bsD] <;> rfl) ?_; simp only [awp_reg, awp_seq, seqQ_n, awpOps_nil, awpOps_one, awpOp_is, isCallV, callW_is, callV_is, putK_is, updK_is, put_s, upd_n, upd_s, slot_is, pureOp, apureO, astepO, killT, aev, cv, cvc, elO_s, storeA, cellsA, cellOk, setAll, flat_c, flat_agg, flat_sl, flatL_nil, flatL_cons, ownsV_c, ownsL_nil, ownsL_cons, isC, mkfA_fn, bsD, Bool.false_eq_true, ↓reduceIte, List.getElem?_cons_zero, List.getElem?_cons_succ, List.length_cons, List.length_nil, List.map_cons, List.map_nil, List.cons_append, List.nil_append, List.append_nil, List.set_cons_zero, List.set_cons_succ, List.all_cons, List.all_nil, Bool.and_true, Bool.true_and, Bool.and_false, Bool.and_self, Bool.or_true, Value.oneCell', true_and, and_true, and_self, Nat.reduceAdd, Nat.reduceEqDiff, Nat.zero_add, List.isEmpty_nil, Nat.le_refl, Ty.td24]
  refine call_meets (idx v x bs (by have := hb.1; omega)) (by simp only [aev, cv, cvc, isD_c, isDL_nil, isDL_cons, toD_sl, toD_fn, toD_ptr, consO_some, toDL_nil, toDL_cons, isC, bsD, ↓reduceIte, List.getElem?_cons_zero, List.getElem?_cons_succ, Option.map_some, List.drop_zero, Bool.and_self, and_self] <;> rfl) ?_; simp only [awp_reg, awp_seq, awp_cond, seqQ_n, awpOps_nil, awpOps_one, awpOp_is, putK_is, put_s, upd_s, slot_is, pureOp, apureO, killT, aev, cv, cvc, binK, flat_c, ownsV_sl, ownsV_fn, ownsV_ptr, ownsL_nil, ownsL_cons, isC, bsD, ↓reduceIte, List.nil_append, List.append_nil, Bool.true_and, Bool.or_false, true_and, List.isEmpty_cons, or_false]
  rcases findI_spec (hitB v) bs 0 with ⟨hi, hf⟩ | ⟨i, b, hbi, hf, hi⟩
  · have hbe : byE bs v = (0, [(v, 1)]) := by unfold byE; rw [hf]
    rw [hbe] at hN hR h2' hby
    simp only at hN hR h2' hby
    rw [hi]
    simp only [awp_skip, awp_reg, awp_seq, seqQ_n, awpOps_one, awpOp_is, isCallV, callW_is, callV_is, putK_is, put_s, slot_is, pureOp, apureO, aev, cv, cvc, elO_s, loadA_p, condA_f, isC, bsD, Bool.false_eq_true, ↓reduceIte, List.getElem?_cons_zero, List.getElem?_cons_succ, List.length_cons, List.length_nil, List.map_cons, List.map_nil, List.append_nil, List.take_succ_cons, List.drop_zero, Bool.true_and, true_and, Nat.reduceAdd, Nat.reduceEqDiff, Nat.zero_add, Nat.le_refl, List.take_nil, Ty.td24, show decide ((0 : Int) ≤ -1) = false from rfl]
    cases hvy : validE 0 [(v, 1)] with
    | false =>
      rw [hvy] at hN
      refine call_meets (valid 0 [(v, 1)] ⟨by have := hby.1; omega, hby.2⟩) (by simp only [aev, cv, cvc, toD_c, toD_agg, toD_sl, consO_some, toDL_nil, toDL_cons, isC, bsD, List.map_cons, List.map_nil, Option.map_some] <;> rfl) ?_; simp only [awp_cond, seqQ_n, awpOps_nil, awpOps_one, awpOp_is, putK_is, put_s, upd_s, slot_is, pureOp, apureO, killT, aev, cv, cvc, flat_c, ownsV_c, ownsV_agg, ownsV_sl, ownsL_nil, ownsL_cons, isC, bsD, ↓reduceIte, List.append_nil, Bool.or_true, List.isEmpty_nil]
      simp only [awp_reg, awp_seq, awp_ret, seqQ_n, seqQ_r, loopQ_r, blkQ_r, awpOps_nil, awpOps_one, awpOp_is, isCallV, putK_is, updK_is, put_s, upd_n, slot_is, slot.eq_1, retA_is, pureOp, apureO, astepO, killT, aev, cv, cvc, elO_s, loadA_p, storeA, cellsA, cellOk, setAll, fillA, placeT, placesA, condA_t, toD_c, toD_nils, toD_tup, toD_agg, consO_some, toDL_nil, toDL_cons, notExit, resA_nil, resA_tmp, resA_cell, oneA_2, isC, bsD, Bool.false_eq_true, ↓reduceIte, List.getElem?_cons_zero, List.getElem?_cons_succ, List.length_cons, List.length_nil, List.map_cons, List.map_nil, List.set_cons_zero, List.set_cons_succ, Option.map_some, List.take_succ_cons, List.drop_zero, List.all_cons, List.all_nil, Bool.true_and, Bool.and_self, Bool.not_false, Value.oneCell', true_and, and_self, ne_eq, not_false_eq_true, reduceCtorEq, Nat.reduceAdd, Nat.reduceEqDiff, Nat.zero_add, Nat.le_refl, List.take_nil, Ty.td3, Ty.td22, Ty.td24, hvy]
      rw [hN rfl]
    | true =>
      rw [hvy] at h2'
      refine call_meets (valid 0 [(v, 1)] ⟨by have := hby.1; omega, hby.2⟩) (by simp only [aev, cv, cvc, toD_c, toD_agg, toD_sl, consO_some, toDL_nil, toDL_cons, isC, bsD, List.map_cons, List.map_nil, Option.map_some] <;> rfl) ?_; simp only [awp_cond, seqQ_n, awpOps_nil, awpOps_one, awpOp_is, putK_is, put_s, upd_s, slot_is, pureOp, apureO, killT, aev, cv, cvc, flat_c, ownsV_c, ownsV_agg, ownsV_sl, ownsL_nil, ownsL_cons, isC, bsD, ↓reduceIte, List.append_nil, Bool.or_true, List.isEmpty_nil]
      simp only [awp_skip, awp_reg, seqQ_n, awpOps_one, awpOp_is, isCallV, callW_is, callV_is, putK_is, put_s, slot_is, pureOp, apureO, aev, cv, cvc, elO_s, loadA_p, condA_f, isC, bsD, Bool.false_eq_true, ↓reduceIte, List.getElem?_cons_zero, List.getElem?_cons_succ, List.length_cons, List.length_nil, List.map_cons, List.map_nil, List.append_nil, List.take_succ_cons, List.drop_zero, Bool.true_and, Bool.not_true, true_and, ne_eq, not_false_eq_true, reduceCtorEq, Nat.reduceAdd, Nat.reduceEqDiff, Nat.zero_add, Nat.le_refl, List.take_nil, Ty.td3, Ty.td24, Ty.td42, hvy]
      refine add_in 0 x [(v, 1)] ⟨by have := hby.1; omega, hby.2⟩ rfl rfl rfl rfl ?_
      simp only [awp_reg, seqQ_n, loopQ_n, blkQ_n, awpOps_nil, awpOps_one, awpOp_is, putK_is, put_s, slot_is, pureOp, apureO, aev, cv, cvc, binK, isC, bsD, ↓reduceIte, List.set_cons_zero, List.set_cons_succ, Bool.true_and, true_and, Nat.reduceEqDiff, H2]
      rw [wrap_in (x := (k : Int) + 1) (by omega) (by omega)]
      refine hK (k + 1, _) _ ⟨by simp only; omega, h2', by have := addT_len x [(v, 1)] cs1; have := hby.1; simp only; omega, addT_mem (P := fun v => v.size ≤ 1000000) x [(v, 1)] hby.2 h4⟩ (by simp only; omega) (by simp only [slot_is, aev, cv, cvc, Weak, isC, bsD, ↓reduceIte, Bool.and_true, Bool.and_self, and_true, and_self, Nat.reduceEqDiff]; simp) rfl (.trim rfl rfl rfl)
  · have hbe : byE bs v = (b.c, b.ts) := by unfold byE; rw [hf]
    rw [hbe] at hN hR h2' hby
    simp only at hN hR h2' hby
    rw [hi, Nat.zero_add]
    simp only [awp_reg, awp_seq, seqQ_n, awpOps_nil, awpOps_one, awpOp_is, isCallV, callW_is, callV_is, putK_is, updK_is, put_s, upd_n, slot_is, pureOp, apureO, astepO, killT, aev, cv, cvc, elO_s, loadA_d, loadA_p, storeA, cellsA, cellOk, setAll, condA_t, isC, bsD, Int.natCast_nonneg, Bool.false_eq_true, ↓reduceIte, List.getElem?_cons_zero, List.getElem?_cons_succ, List.length_cons, List.length_nil, List.map_cons, List.map_nil, List.append_nil, List.set_cons_zero, List.set_cons_succ, Option.map_some, List.take_succ_cons, List.take_zero, List.drop_succ_cons, List.drop_zero, Bool.true_and, true_and, ne_eq, not_false_eq_true, reduceCtorEq, Nat.reduceAdd, Nat.reduceLeDiff, Nat.reduceEqDiff, Nat.zero_add, Int.toNat_natCast, decide_true, Nat.le_refl, List.take_nil, Ty.td24, Ty.td32, Ty.td49, show decide ((0 : Int) ≤ (i : Int)) = true from decide_eq_true (by omega), List.getElem?_map, hbi]
    cases hvy : validE b.c b.ts with
    | false =>
      rw [hvy] at hN
      refine call_meets (valid b.c b.ts ⟨by have := hby.1; omega, hby.2⟩) (by simp only [aev, cv, cvc, toD_c, toD_agg, toD_sl, consO_some, toDL_nil, toDL_cons, isC, bsD, Option.map_some] <;> rfl) ?_; simp only [awp_cond, seqQ_n, awpOps_nil, awpOps_one, awpOp_is, putK_is, put_s, upd_s, slot_is, pureOp, apureO, killT, aev, cv, cvc, flat_c, ownsV_c, ownsV_agg, ownsV_sl, ownsL_nil, ownsL_cons, isC, bsD, ↓reduceIte, List.append_nil, Bool.or_true, List.isEmpty_nil]
      simp only [awp_reg, awp_seq, awp_ret, seqQ_n, seqQ_r, loopQ_r, blkQ_r, awpOps_nil, awpOps_one, awpOp_is, isCallV, putK_is, updK_is, put_s, upd_n, slot_is, slot.eq_1, retA_is, pureOp, apureO, astepO, killT, aev, cv, cvc, elO_s, loadA_p, storeA, cellsA, cellOk, setAll, fillA, placeT, placesA, condA_t, toD_c, toD_nils, toD_tup, toD_agg, consO_some, toDL_nil, toDL_cons, notExit, resA_nil, resA_tmp, resA_cell, oneA_2, isC, bsD, Bool.false_eq_true, ↓reduceIte, List.getElem?_cons_zero, List.getElem?_cons_succ, List.length_cons, List.length_nil, List.map_cons, List.map_nil, List.set_cons_zero, List.set_cons_succ, Option.map_some, List.take_succ_cons, List.drop_zero, List.all_cons, List.all_nil, Bool.true_and, Bool.and_self, Bool.not_false, Value.oneCell', true_and, and_self, ne_eq, not_false_eq_true, reduceCtorEq, Nat.reduceAdd, Nat.reduceEqDiff, Nat.zero_add, Nat.le_refl, List.take_nil, Ty.td3, Ty.td22, Ty.td24, hvy]
      rw [hN rfl]
    | true =>
      rw [hvy] at h2'
      refine call_meets (valid b.c b.ts ⟨by have := hby.1; omega, hby.2⟩) (by simp only [aev, cv, cvc, toD_c, toD_agg, toD_sl, consO_some, toDL_nil, toDL_cons, isC, bsD, Option.map_some] <;> rfl) ?_; simp only [awp_cond, seqQ_n, awpOps_nil, awpOps_one, awpOp_is, putK_is, put_s, upd_s, slot_is, pureOp, apureO, killT, aev, cv, cvc, flat_c, ownsV_c, ownsV_agg, ownsV_sl, ownsL_nil, ownsL_cons, isC, bsD, ↓reduceIte, List.append_nil, Bool.or_true, List.isEmpty_nil]
      simp only [awp_skip, awp_reg, seqQ_n, awpOps_one, awpOp_is, isCallV, callW_is, callV_is, putK_is, put_s, slot_is, pureOp, apureO, aev, cv, cvc, elO_s, loadA_p, condA_f, isC, bsD, Bool.false_eq_true, ↓reduceIte, List.getElem?_cons_zero, List.getElem?_cons_succ, List.length_cons, List.length_nil, List.map_cons, List.map_nil, List.append_nil, List.take_succ_cons, List.drop_zero, Bool.true_and, Bool.not_true, true_and, ne_eq, not_false_eq_true, reduceCtorEq, Nat.reduceAdd, Nat.reduceEqDiff, Nat.zero_add, Nat.le_refl, List.take_nil, Ty.td3, Ty.td24, Ty.td42, hvy]
      refine add_in b.c x b.ts ⟨by have := hby.1; omega, hby.2⟩ rfl rfl rfl rfl ?_
      simp only [awp_reg, seqQ_n, loopQ_n, blkQ_n, awpOps_nil, awpOps_one, awpOp_is, putK_is, put_s, slot_is, pureOp, apureO, aev, cv, cvc, binK, isC, bsD, ↓reduceIte, List.set_cons_zero, List.set_cons_succ, Bool.true_and, true_and, Nat.reduceEqDiff, H2]
      rw [wrap_in (x := (k : Int) + 1) (by omega) (by omega)]
      refine hK (k + 1, _) _ ⟨by simp only; omega, h2', by have := addT_len x b.ts cs1; have := hby.1; simp only; omega, addT_mem (P := fun v => v.size ≤ 1000000) x b.ts hby.2 h4⟩ (by simp only; omega) (by simp only [slot_is, aev, cv, cvc, Weak, isC, bsD, ↓reduceIte, Bool.and_true, Bool.and_self, and_true, and_self, Nat.reduceEqDiff]; simp) rfl (.trim rfl rfl rfl)

theorem subst (hks : KS) (c : Int) (ts : List Tm) (bs : List Bd) (hb : okB bs) (hl : ts.length ≤ 100) (hts : ∀ t ∈ ts, t.1.size ≤ 1000000) : Meets Tryz.prog 21 [ln c ts, bds bs] (linR (substE c ts bs)) := by
  unfold substE
  cases hv : validE c ts with
  | false =>
    refine Meets.weak (r0 := .tup [.agg [I 0, .nils], I 1]) ?_ fun ok w v h => nilR h
    refine meets_of (X := true) Ty.mixed Tryz.func21 (by kernel_rfl) rfl (by kernel_rfl) (by simp) ?_; rw [Tryz.ntmps21, Tryz.results21]
    simp only [awp_reg, awp_seq, seqQ_n, awpOps_nil, awpOps_one, awpOp_is, isCallV, callW_is, callV_is, putK_is, updK_is, put_s, upd_s, slot_is, pureOp, apureO, astepO, killT, aev, cv, cvc, elO_s, loadA_p, cellsA, cellOk, argT, isC, bsD, Bool.false_eq_true, ↓reduceIte, List.getElem?_cons_zero, List.length_cons, List.length_nil, List.map_cons, List.map_nil, List.cons_append, List.nil_append, List.append_nil, List.take_succ_cons, List.drop_zero, List.all_cons, List.all_nil, Bool.true_and, Bool.and_self, Value.oneCell', true_and, and_self, Nat.reduceAdd, Nat.reduceEqDiff, Nat.zero_add, Nat.le_refl, List.take_nil, Ty.td24]
    refine call_meets (valid c ts ⟨by omega, hts⟩) (by simp only [aev, cv, cvc, toD_c, toD_agg, toD_sl, consO_some, toDL_nil, toDL_cons, isC, bsD, Option.map_some] <;> rfl) ?_; simp only [awp_cond, seqQ_n, awpOps_nil, awpOps_one, awpOp_is, putK_is, put_s, upd_s, slot_is, pureOp, apureO, killT, aev, cv, cvc, flat_c, ownsV_c, ownsV_agg, ownsV_sl, ownsL_nil, ownsL_cons, isC, bsD, ↓reduceIte, List.append_nil, Bool.or_true, List.isEmpty_nil]
    simp only [awp_reg, awp_seq, awp_ret, seqQ_n, seqQ_r, awpOps_nil, awpOps_one, awpOp_is, isCallV, putK_is, updK_is, put_s, upd_n, slot_is, slot.eq_1, retA_is, pureOp, apureO, astepO, killT, aev, cv, cvc, elO_s, loadA_p, storeA, cellsA, cellOk, setAll, fillA, placeT, placesA, condA_t, toD_c, toD_nils, toD_tup, toD_agg, consO_some, toDL_nil, toDL_cons, notExit, resA_nil, resA_tmp, resA_cell, oneA_2, isC, bsD, Bool.false_eq_true, ↓reduceIte, List.getElem?_cons_zero, List.getElem?_cons_succ, List.length_cons, List.length_nil, List.map_cons, List.map_nil, List.set_cons_zero, List.set_cons_succ, Option.map_some, List.take_succ_cons, List.drop_zero, List.all_cons, List.all_nil, Bool.true_and, Bool.and_self, Bool.not_false, Value.oneCell', true_and, and_self, ne_eq, not_false_eq_true, reduceCtorEq, Nat.reduceAdd, Nat.reduceEqDiff, Nat.zero_add, Nat.le_refl, List.take_nil, Ty.td3, Ty.td22, Ty.td24, hv]
  | true =>
    simp only [if_true]
    cases h : subL bs ts (c, []) with
    | none => exact Meets.weak (subst_res hks c ts bs hb hl hts hv (.tup [.agg [I 0, .nils], I 1]) (fun _ => rfl) (fun st hs => by rw [h] at hs; cases hs)) fun ok w v h => nilR h
    | some st => exact subst_res hks c ts bs hb hl hts hv _ (fun hn => by rw [h] at hn; cases hn) fun st' hs => by rw [h] at hs; cases hs; rfl

end Go.Proofs.YtjgaebomcdkohaaGreatDoor.L13
