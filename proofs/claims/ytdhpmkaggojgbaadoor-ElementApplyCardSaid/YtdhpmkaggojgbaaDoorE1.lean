/- Scalar primitives: finding one in the table; its parameters; the elements of a type. -/
import Derived.Test.YtdhpmkaggojgbaaDoorE0
namespace Go.Proofs.YtdhpmkaggojgbaaDoor.E1
open Go Go.Proofs.YtdhpmkaggojgbaaDoor.Eng Go.Proofs.YtdhpmkaggojgbaaDoor Go.RowKit Go.Proofs.YtdhpmkaggojgbaaDoor.E0
set_option linter.unusedSimpArgs false
set_option linter.unusedVariables false
set_option linter.unusedSectionVars false
set_option maxRecDepth 100000

theorem wrap_in {x : Int} (h1 : -9223372036854775808 ≤ x) (h2 : x ≤ 9223372036854775807) : IntKind.i64.wrap x = x := by
  rw [IntKind.wrap_i64]; omega
abbrev rowsV (l : List Rw) : AV := .sl false 5 (l.map rwV)
theorem eqS (a b : ByteArray) : (a.toList == b.toList) = (a.data.toList == b.data.toList) := by rw [ByteArray.toList_eq, ByteArray.toList_eq]
def hitE (op : ByteArray) (r : Rw) : Bool := r.n.data.toList == op.data.toList
theorem hit_eq {op : ByteArray} {r : Rw} (h : hitE op r = true) : r.n = op := by
  have h1 : r.n.data.toList = op.data.toList := by simpa [hitE] using h
  obtain ⟨⟨n⟩, a, b, c, d⟩ := r
  obtain ⟨⟨m⟩⟩ := op
  exact congrArg ByteArray.mk (Array.ext' h1)
theorem no_at {op : ByteArray} (h : ∀ r ∈ rws, hitE op r = false) {k : Nat} {r : Rw} (hk : rws[k]? = some r) : (op.toList == r.n.toList) = false := by
  have h1 := h r (List.mem_of_getElem? hk)
  rw [eqS]
  unfold hitE at h1
  rw [← h1, Bool.eq_iff_iff]
  simp only [beq_iff_eq]
  exact ⟨Eq.symm, Eq.symm⟩
def idxE (p : Rw → Bool) : List Rw → Nat → Int
  | [], _ => -1
  | r :: l, k => if p r = true then k else idxE p l (k + 1)
theorem idxE_spec (p : Rw → Bool) : ∀ (l : List Rw) (k : Nat), (idxE p l k = -1 ∧ l.find? p = none) ∨ ∃ i r, l[i]? = some r ∧ l.find? p = some r ∧ idxE p l k = (k + i : Nat)
  | [], k => Or.inl ⟨rfl, rfl⟩
  | b :: r, k => by
    unfold idxE
    cases h : p b with
    | true => exact Or.inr ⟨0, b, rfl, by simp [List.find?, h], by simp⟩
    | false =>
      rcases idxE_spec p r (k + 1) with ⟨h1, h2⟩ | ⟨i, c, h1, h2, h3⟩
      · exact Or.inl ⟨by simpa using h1, by simp [List.find?, h, h2]⟩
      · refine Or.inr ⟨i + 1, c, by simpa using h1, by simp [List.find?, h, h2], ?_⟩
        simp only [Bool.false_eq_true, if_false, h3]
        omega
theorem hit (op : ByteArray) (r : Rw) : Meets Tryd.prog 32 [.agg (rwV r), .dptr [S op]] (B (hitE op r)) := by
  refine meets_of (X := false) Ty.mixed Tryd.func32 (by kernel_rfl) rfl (by kernel_rfl) (by simp) ?_; rw [Tryd.ntmps32, Tryd.results32]
  simp only [awp_reg, awp_seq, awp_ret, seqQ_n, awpOps_nil, awpOps_one, awpOp_is, isCallV, putK_is, updK_is, put_s, upd_s, slot_is, retA_is, pureOp, apureO, astepO, killT, aev, cv, cvc, binK, elO_s, loadA_d, loadA_p, cellsA, cellOk, toD_c, notExit, resA_nil, resA_tmp, oneA_1, argT, eqFK_nil, eqOpK_e, isC, bsD, Bool.false_eq_true, ↓reduceIte, List.getElem?_cons_zero, List.length_cons, List.length_nil, List.nil_append, Bool.true_and, true_and, ne_eq, not_false_eq_true, reduceCtorEq, Nat.reduceAdd, Nat.reduceEqDiff, Nat.zero_add, Ty.td9, Ty.td49, eqS]
  rfl
theorem idx (op : ByteArray) (l : List Rw) (hl : l.length ≤ 1000) : Meets Tryd.prog 31 [rowsV l, .fn 32 [.dptr [S op]]] (I (idxE (hitE op) l 0)) := by
  refine meets_of (X := false) Ty.mixed Tryd.func31 (by kernel_rfl) rfl (by kernel_rfl) (by simp) ?_; rw [Tryd.ntmps31, Tryd.results31]
  simp only [awp_reg, awp_seq, awp_block, awp_loop, seqQ_n, awpOps_nil, awpOps_one, awpOp_is, putK_is, put_s, slot_is, pureOp, apureO, aev, cv, cvc, elO_s, lenA, lenK, argT, mlenA_sl, isC, bsD, ↓reduceIte, Bool.true_and, true_and, reduceCtorEq, Nat.zero_add, Option.isSome_some, Ty.td59, List.length_map]
  refine loop_k (fun k : Nat => k ≤ l.length ∧ idxE (hitE op) l 0 = idxE (hitE op) (l.drop k) k) (fun k => ⟨19, [(8, I k), (7, I l.length), (0, rowsV l), (1, .fn 32 [.dptr [S op]])], []⟩) (fun k => l.length - k) 0 ⟨Nat.zero_le _, rfl⟩ (by simp only [slot_is, aev, cv, cvc, Weak, isC, bsD, ↓reduceIte, Bool.and_true, Bool.and_self, and_true, and_self, reduceCtorEq, Nat.reduceEqDiff]; simp) rfl rfl ?_
  rintro k ⟨hk, hi⟩ K hK
  rw [hi]
  by_cases hlt : k < l.length
  · have hb : l[k]? = some l[k] := List.getElem?_eq_getElem hlt
    rw [List.drop_eq_getElem_cons hlt, idxE] at hi ⊢
    generalize l[k] = b at *
    simp only [awp_skip, awp_reg, awp_seq, awp_cond, awp_block, seqQ_n, awpOps_nil, awpOps_one, awpOp_is, isCallV, callW_is, callV_is, putK_is, put_s, slot_is, pureOp, apureO, aev, cv, cvc, binK, elO_s, loadA_d, condA_t, isC, bsD, Int.natCast_nonneg, Bool.false_eq_true, ↓reduceIte, List.length_cons, List.length_nil, List.map_cons, List.map_nil, List.cons_append, List.nil_append, Option.map_some, List.take_succ_cons, Bool.true_and, true_and, reduceCtorEq, Nat.reduceAdd, Nat.reduceEqDiff, Nat.zero_add, Int.toNat_natCast, Nat.le_refl, List.take_nil, Ty.td49, Ty.td59, show decide ((k : Int) < (l.length : Int)) = true from decide_eq_true (by omega), List.getElem?_map, hb]
    refine call_meets (hit op b) (by simp only [aev, cv, cvc, toD_c, toD_agg, toD_dptr, consO_some, toDL_nil, toDL_cons, isC, bsD, Option.map_some] <;> rfl) ?_; simp only [awp_cond, seqQ_n, awpOps_nil, upd_s, slot_is, killT, aev, cv, cvc, flat_c, ownsV_c, ownsV_agg, ownsV_dptr, ownsL_nil, ownsL_cons, isC, bsD, ↓reduceIte, List.append_nil, Bool.or_true, List.isEmpty_nil]
    cases hh : hitE op b with
    | true =>
      simp only [awp_reg, awp_seq, awp_ret, seqQ_n, seqQ_r, loopQ_r, blkQ_r, awpOps_nil, awpOps_one, awpOp_is, putK_is, put_s, slot_is, retA_is, pureOp, apureO, aev, cv, cvc, condA_t, toD_c, notExit, resA_nil, resA_tmp, oneA_1, isC, bsD, ↓reduceIte, Bool.and_self, and_self, Nat.reduceEqDiff, hh]
    | false =>
      rw [hh] at hi
      simp only [awp_skip, awp_reg, seqQ_n, loopQ_n, blkQ_n, awpOps_nil, awpOps_one, awpOp_is, putK_is, put_s, slot_is, pureOp, apureO, aev, cv, cvc, binK, condA_f, isC, bsD, Bool.false_eq_true, ↓reduceIte, Bool.true_and, true_and, Nat.reduceEqDiff, hh]
      rw [wrap_in (by omega) (by omega)]
      refine hK (k + 1) _ ⟨by omega, by simpa using hi⟩ (by omega) ?_ rfl rfl
      simp only [slot_is, aev, cv, cvc, Weak, isC, bsD, ↓reduceIte, Bool.and_true, Bool.and_self, and_true, and_self, reduceCtorEq, Nat.reduceEqDiff]
      simp
  · have h0 : l.drop k = [] := List.drop_eq_nil_of_le (by omega)
    rw [h0]
    simp only [awp_reg, awp_seq, awp_cond, awp_exit, awp_ret, seqQ_n, seqQ_e, loopQ_e, blkQ_e, awpOps_nil, awpOps_one, awpOp_is, putK_is, put_s, slot_is, retA_is, pureOp, apureO, aev, cv, cvc, binK, condA_f, toD_c, notExit, resA_nil, resA_tmp, oneA_1, isC, bsD, ↓reduceIte, Bool.true_and, true_and, Nat.reduceEqDiff, show decide ((k : Int) < (l.length : Int)) = false from decide_eq_false (by omega)]
    rfl
theorem flat_row : ∀ (l : List Rw) (i : Nat) (r : Rw), l[i]? = some r → (((l.map rwV).flatten).drop (i * 5)).take 5 = rwV r
  | [], _, _, h => by cases h
  | a :: l, 0, r, h => by cases h; rfl
  | a :: l, i + 1, r, h => by
    rw [show (i + 1) * 5 = i * 5 + 5 by omega]
    exact flat_row l i r (by simpa using h)
theorem tab_flat : elemTab = (rws.map rwV).flatten := by kernel_rfl
theorem tab_row {i : Nat} {r : Rw} (h : rws[i]? = some r) : (elemTab.drop (i * 5)).take 5 = rwV r := by rw [tab_flat]; exact flat_row rws i r h
theorem chunk2 : List.take 22 (List.map (fun i => List.take 5 (List.drop (i * 5) elemTab)) (List.range 22)) = rws.map rwV := by kernel_rfl
def findR (op : ByteArray) : Option Rw := rws.find? (hitE op)
abbrev zr : Rw := ⟨⟨#[]⟩, ⟨#[]⟩, ⟨#[]⟩, ⟨#[]⟩, ⟨#[]⟩⟩
def rowF (op : ByteArray) : Rw := (findR op).getD zr
theorem find (op : ByteArray) : Meets Tryd.prog 26 [S op] (.tup [.agg (rwV (rowF op)), B (findR op).isSome]) := by
  have hx := idx op rws (by rw [rws_len]; omega)
  rcases idxE_spec (hitE op) rws 0 with ⟨h1, h2⟩ | ⟨i, r, h1, h2, h3⟩
  · have e1 : rowF op = zr := by unfold rowF findR; rw [h2]; rfl
    have e2 : (findR op).isSome = false := by unfold findR; rw [h2]; rfl
    rw [e1, e2]
    rw [h1] at hx
    refine meets_of (X := true) Ty.mixed Tryd.func26 (by kernel_rfl) rfl (by kernel_rfl) (by simp) ?_; rw [Tryd.ntmps26, Tryd.results26]
    simp only [awp_reg, awp_seq, seqQ_n, awpOps_nil, awpOps_one, awpOp_is, isCallV, callW_is, callV_is, putK_is, updK_is, put_s, upd_s, slot_is, pureOp, apureO, astepO, sliceA_dptr, sliceP_dptr, pureK_is, boundsA, killT, aev, cv, cvc, elO_s, cellsA, cellOk, chunk, argT, isC, mkfA_fn, bsD, Bool.false_eq_true, ↓reduceIte, List.length_cons, List.length_nil, List.map_cons, List.map_nil, List.cons_append, List.nil_append, List.append_nil, Option.map_none, List.take_succ_cons, List.drop_zero, List.all_cons, List.all_nil, Bool.true_and, Bool.and_self, Value.oneCell', true_and, and_self, Nat.reduceMul, Nat.reduceLT, Nat.reduceEqDiff, Nat.zero_add, Nat.sub_zero, List.range_succ, List.range_zero, Nat.le_refl, List.take_nil, Ty.td49, Ty.td57, tab_v, tab_len]
    refine call_meets (hx) (by simp only [aev, cv, cvc, isD_c, isDL_nil, isDL_cons, toD_sl, toD_fn, toD_ptr, consO_some, toDL_nil, toDL_cons, isC, bsD, ↓reduceIte, List.getElem?_cons_zero, Option.map_some, List.drop_zero, Bool.and_self, and_self] <;> rfl) ?_; simp only [awp_reg, awp_seq, awp_cond, seqQ_n, awpOps_nil, awpOps_one, awpOp_is, putK_is, put_s, upd_s, slot_is, pureOp, apureO, killT, aev, cv, cvc, binK, flat_c, ownsV_sl, ownsV_fn, ownsV_ptr, ownsL_nil, ownsL_cons, isC, bsD, ↓reduceIte, List.nil_append, List.append_nil, Bool.true_and, Bool.or_false, true_and, List.isEmpty_cons, or_false]
    simp only [awp_reg, awp_seq, awp_ret, seqQ_n, seqQ_r, awpOps_nil, awpOps_one, awpOp_is, isCallV, putK_is, updK_is, put_s, upd_n, slot_is, slot.eq_1, retA_is, pureOp, apureO, astepO, killT, aev, cv, cvc, elO_s, loadA_p, storeA, cellsA, cellOk, setAll, fillA, placeT, placesA, condA_t, toD_c, toD_tup, toD_agg, consO_some, toDL_nil, toDL_cons, notExit, resA_nil, resA_tmp, resA_cell, oneA_2, isC, bsD, Bool.false_eq_true, ↓reduceIte, List.getElem?_cons_zero, List.getElem?_cons_succ, List.length_cons, List.length_nil, List.map_cons, List.map_nil, List.set_cons_zero, List.set_cons_succ, Option.map_some, List.take_succ_cons, List.drop_zero, List.all_cons, List.all_nil, Bool.true_and, Bool.and_self, Value.oneCell', true_and, and_self, ne_eq, not_false_eq_true, reduceCtorEq, Nat.reduceAdd, Nat.reduceEqDiff, Nat.zero_add, Nat.le_refl, List.take_nil, Ty.td9, Ty.td47, Ty.td49, show decide ((-1 : Int) < 0) = true from rfl]
  · have hlt : i < 22 := by have := (List.getElem?_eq_some_iff.1 h1).1; rwa [rws_len] at this
    have hr := tab_row h1
    have hlen : (elemTab.drop (i * 5)).length = 110 - i * 5 := by rw [List.length_drop, tab_len]
    have e1 : rowF op = r := by unfold rowF findR; rw [h2]; rfl
    have e2 : (findR op).isSome = true := by unfold findR; rw [h2]; rfl
    rw [e1, e2]
    rw [h3, Nat.zero_add] at hx
    refine meets_of (X := true) Ty.mixed Tryd.func26 (by kernel_rfl) rfl (by kernel_rfl) (by simp) ?_; rw [Tryd.ntmps26, Tryd.results26]
    simp only [awp_reg, awp_seq, seqQ_n, awpOps_nil, awpOps_one, awpOp_is, isCallV, callW_is, callV_is, putK_is, updK_is, put_s, upd_s, slot_is, pureOp, apureO, astepO, sliceA_dptr, sliceP_dptr, pureK_is, boundsA, killT, aev, cv, cvc, elO_s, cellsA, cellOk, chunk, argT, isC, mkfA_fn, bsD, Bool.false_eq_true, ↓reduceIte, List.length_cons, List.length_nil, List.map_cons, List.map_nil, List.cons_append, List.nil_append, List.append_nil, Option.map_none, List.take_succ_cons, List.drop_zero, List.all_cons, List.all_nil, Bool.true_and, Bool.and_self, Value.oneCell', true_and, and_self, Nat.reduceMul, Nat.reduceLT, Nat.reduceEqDiff, Nat.zero_add, Nat.sub_zero, List.range_succ, List.range_zero, Nat.le_refl, List.take_nil, Ty.td49, Ty.td57, tab_v, tab_len]
    refine call_meets (hx) (by simp only [aev, cv, cvc, isD_c, isDL_nil, isDL_cons, toD_sl, toD_fn, toD_ptr, consO_some, toDL_nil, toDL_cons, isC, bsD, ↓reduceIte, List.getElem?_cons_zero, Option.map_some, List.drop_zero, Bool.and_self, and_self] <;> rfl) ?_; simp only [awp_reg, awp_seq, awp_cond, seqQ_n, awpOps_nil, awpOps_one, awpOp_is, putK_is, put_s, upd_s, slot_is, pureOp, apureO, killT, aev, cv, cvc, binK, flat_c, ownsV_sl, ownsV_fn, ownsV_ptr, ownsL_nil, ownsL_cons, isC, bsD, ↓reduceIte, List.nil_append, List.append_nil, Bool.true_and, Bool.or_false, true_and, List.isEmpty_cons, or_false]
    simp only [awp_skip, awp_reg, awp_seq, awp_ret, seqQ_n, awpOps_nil, awpOps_one, awpOp_is, isCallV, putK_is, updK_is, put_s, upd_n, slot_is, retA_is, pureOp, apureO, astepO, killT, aev, cv, cvc, elO_s, loadA_d, loadA_p, storeA, cellsA, cellOk, setAll, condA_f, toD_c, toD_tup, toD_agg, consO_some, toDL_nil, toDL_cons, notExit, resA_nil, resA_tmp, resA_cell, oneA_2, isC, bsD, Int.natCast_nonneg, Bool.false_eq_true, ↓reduceIte, List.getElem?_cons_zero, List.getElem?_cons_succ, List.length_cons, List.length_nil, List.set_cons_zero, List.set_cons_succ, Option.map_some, List.take_succ_cons, List.drop_zero, Bool.and_true, Bool.true_and, Bool.and_self, true_and, and_true, and_self, Nat.reduceAdd, Nat.reduceEqDiff, Nat.zero_add, Int.toNat_natCast, Nat.le_refl, List.take_nil, Ty.td49, Ty.td57, show decide ((i : Int) < 0) = false from decide_eq_false (by omega), tab_v, hr, hlen]
    exact ⟨hlt, by omega⟩
def neE (s : ByteArray) : Bool := !(s.data.toList == [])
theorem ne_is (s : ByteArray) : (s.toList == (⟨#[]⟩ : ByteArray).toList) = !neE s := by rw [eqS]; unfold neE; simp
def cntE (r : Rw) : Nat := if neE r.a then if neE r.b then if neE r.c then 3 else 2 else 1 else 0
theorem cnt_cases (r : Rw) : (neE r.a = false ∧ cntE r = 0) ∨ (neE r.a = true ∧ neE r.b = false ∧ cntE r = 1) ∨ (neE r.a = true ∧ neE r.b = true ∧ neE r.c = false ∧ cntE r = 2) ∨ (neE r.a = true ∧ neE r.b = true ∧ neE r.c = true ∧ cntE r = 3) := by
  unfold cntE
  cases neE r.a <;> cases neE r.b <;> cases neE r.c <;> simp
theorem ne_f {s : ByteArray} (h : neE s = true) : (s.toList == (⟨#[]⟩ : ByteArray).toList) = false := by rw [ne_is, h]; rfl
theorem ne_t {s : ByteArray} (h : neE s = false) : (s.toList == (⟨#[]⟩ : ByteArray).toList) = true := by rw [ne_is, h]; rfl
theorem count (r : Rw) : Meets Tryd.prog 27 [.agg (rwV r)] (I (cntE r)) := by
  rcases cnt_cases r with ⟨h0, e⟩ | ⟨h0, h1, e⟩ | ⟨h0, h1, h2, e⟩ | ⟨h0, h1, h2, e⟩
  · rw [e]
    have g0 := ne_t h0
    clear e
    refine meets_of (X := true) Ty.mixed Tryd.func27 (by kernel_rfl) rfl (by kernel_rfl) (by simp) ?_; rw [Tryd.ntmps27, Tryd.results27]
    simp only [awp_reg, awp_seq, awp_block, awp_loop, seqQ_n, awpOps_nil, awpOps_one, awpOp_is, isCallV, putK_is, updK_is, put_s, upd_s, slot_is, pureOp, apureO, astepO, killT, aev, cv, cvc, cellsA, cellOk, argT, isC, bsD, Bool.false_eq_true, ↓reduceIte, List.length_nil, List.nil_append, Bool.true_and, true_and]
    refine loop_k (fun k : Nat => k ≤ 0) (fun k => ⟨16, [(3, I k), (2, I 0), (1, .ptr 0 0)], [some (.var 49 (rwV r))]⟩) (fun k => 3 - k) 0 (Nat.zero_le _) (by simp only [slot_is, aev, cv, cvc, Weak, isC, bsD, ↓reduceIte, Bool.and_true, Bool.and_self, and_true, and_self, Nat.reduceEqDiff]; rfl) rfl rfl ?_
    rintro k hk K hK
    match k, hk with
    | 0, _ =>
      simp only [awp_reg, awp_seq, awp_cond, awp_exit, awp_ret, seqQ_n, seqQ_e, loopQ_e, blkQ_e, awpOps_nil, awpOps_one, awpOps_if, awpOp_is, awpO_is, putK_is, put_s, slot_is, retA_is, pureOp, apureO, aev, cv, cvc, binK, elO_s, loadA_p, yieldA, guardA_tt, condA_f, pickA_t, toD_c, notExit, resA_nil, resA_tmp, oneA_1, isC, bsD, Bool.false_eq_true, ↓reduceIte, List.getElem?_cons_zero, List.getElem?_cons_succ, List.length_cons, List.length_nil, List.getElem?_toArray, Option.bind_some, Bool.and_true, Bool.true_and, Bool.and_self, Bool.not_true, true_and, and_true, and_self, ne_eq, not_false_eq_true, reduceCtorEq, Nat.reduceAdd, Nat.reduceMul, Nat.reduceLT, Nat.reduceEqDiff, Nat.zero_add, Nat.add_zero, Int.reduceToNat, Int.le_refl, Ty.td9, Ty.td47, Ty.td49, show (((0 : Nat)) : Int) = 0 from rfl, show decide ((0 : Int) < 3) = true from rfl, g0]
  · rw [e]
    have g0 := ne_f h0
    have g1 := ne_t h1
    clear e
    refine meets_of (X := true) Ty.mixed Tryd.func27 (by kernel_rfl) rfl (by kernel_rfl) (by simp) ?_; rw [Tryd.ntmps27, Tryd.results27]
    simp only [awp_reg, awp_seq, awp_block, awp_loop, seqQ_n, awpOps_nil, awpOps_one, awpOp_is, isCallV, putK_is, updK_is, put_s, upd_s, slot_is, pureOp, apureO, astepO, killT, aev, cv, cvc, cellsA, cellOk, argT, isC, bsD, Bool.false_eq_true, ↓reduceIte, List.length_nil, List.nil_append, Bool.true_and, true_and]
    refine loop_k (fun k : Nat => k ≤ 1) (fun k => ⟨16, [(3, I k), (2, I 0), (1, .ptr 0 0)], [some (.var 49 (rwV r))]⟩) (fun k => 3 - k) 0 (Nat.zero_le _) (by simp only [slot_is, aev, cv, cvc, Weak, isC, bsD, ↓reduceIte, Bool.and_true, Bool.and_self, and_true, and_self, Nat.reduceEqDiff]; rfl) rfl rfl ?_
    rintro k hk K hK
    match k, hk with
    | 0, _ =>
      simp only [awp_skip, awp_reg, awp_seq, awp_cond, awp_block, seqQ_n, loopQ_n, blkQ_n, awpOps_nil, awpOps_one, awpOps_if, awpOp_is, awpO_is, putK_is, put_s, slot_is, pureOp, apureO, aev, cv, cvc, binK, elO_s, loadA_p, yieldA, guardA_tt, condA_t, pickA_t, isC, bsD, Bool.false_eq_true, ↓reduceIte, List.getElem?_cons_zero, List.getElem?_cons_succ, List.length_cons, List.length_nil, List.getElem?_toArray, Option.bind_some, Bool.true_and, Bool.not_false, true_and, ne_eq, not_false_eq_true, reduceCtorEq, Nat.reduceAdd, Nat.reduceMul, Nat.reduceLT, Nat.reduceEqDiff, Nat.zero_add, Nat.add_zero, Int.reduceToNat, Int.le_refl, Ty.td9, Ty.td47, Ty.td49, show (((0 : Nat)) : Int) = 0 from rfl, show decide ((0 : Int) < 3) = true from rfl, g0]
      refine hK 1 _ (by omega) (by omega) ?_ rfl rfl
      simp only [slot_is, aev, cv, cvc, Weak, isC, bsD, ↓reduceIte, Bool.and_true, Bool.and_self, and_true, and_self, Nat.reduceEqDiff]
      first | rfl | exact ⟨rfl, trivial⟩ | kernel_rfl
    | 1, _ =>
      simp only [awp_reg, awp_seq, awp_cond, awp_exit, awp_ret, seqQ_n, seqQ_e, loopQ_e, blkQ_e, awpOps_nil, awpOps_one, awpOps_if, awpOp_is, awpO_is, putK_is, put_s, slot_is, retA_is, pureOp, apureO, aev, cv, cvc, binK, elO_s, loadA_p, yieldA, guardA_tt, condA_f, pickA_t, toD_c, notExit, resA_nil, resA_tmp, oneA_1, isC, bsD, Bool.false_eq_true, ↓reduceIte, List.getElem?_cons_zero, List.getElem?_cons_succ, List.length_cons, List.length_nil, List.getElem?_toArray, Option.bind_some, Bool.and_true, Bool.true_and, Bool.and_self, Bool.not_true, true_and, and_true, and_self, ne_eq, not_false_eq_true, reduceCtorEq, Nat.reduceAdd, Nat.reduceMul, Nat.reduceLT, Nat.reduceEqDiff, Nat.zero_add, Int.reduceToNat, Ty.td9, Ty.td47, Ty.td49, show (((1 : Nat)) : Int) = 1 from rfl, show decide ((1 : Int) < 3) = true from rfl, g1]
      omega
  · rw [e]
    have g0 := ne_f h0
    have g1 := ne_f h1
    have g2 := ne_t h2
    clear e
    refine meets_of (X := true) Ty.mixed Tryd.func27 (by kernel_rfl) rfl (by kernel_rfl) (by simp) ?_; rw [Tryd.ntmps27, Tryd.results27]
    simp only [awp_reg, awp_seq, awp_block, awp_loop, seqQ_n, awpOps_nil, awpOps_one, awpOp_is, isCallV, putK_is, updK_is, put_s, upd_s, slot_is, pureOp, apureO, astepO, killT, aev, cv, cvc, cellsA, cellOk, argT, isC, bsD, Bool.false_eq_true, ↓reduceIte, List.length_nil, List.nil_append, Bool.true_and, true_and]
    refine loop_k (fun k : Nat => k ≤ 2) (fun k => ⟨16, [(3, I k), (2, I 0), (1, .ptr 0 0)], [some (.var 49 (rwV r))]⟩) (fun k => 3 - k) 0 (Nat.zero_le _) (by simp only [slot_is, aev, cv, cvc, Weak, isC, bsD, ↓reduceIte, Bool.and_true, Bool.and_self, and_true, and_self, Nat.reduceEqDiff]; rfl) rfl rfl ?_
    rintro k hk K hK
    match k, hk with
    | 0, _ =>
      simp only [awp_skip, awp_reg, awp_seq, awp_cond, awp_block, seqQ_n, loopQ_n, blkQ_n, awpOps_nil, awpOps_one, awpOps_if, awpOp_is, awpO_is, putK_is, put_s, slot_is, pureOp, apureO, aev, cv, cvc, binK, elO_s, loadA_p, yieldA, guardA_tt, condA_t, pickA_t, isC, bsD, Bool.false_eq_true, ↓reduceIte, List.getElem?_cons_zero, List.getElem?_cons_succ, List.length_cons, List.length_nil, List.getElem?_toArray, Option.bind_some, Bool.true_and, Bool.not_false, true_and, ne_eq, not_false_eq_true, reduceCtorEq, Nat.reduceAdd, Nat.reduceMul, Nat.reduceLT, Nat.reduceEqDiff, Nat.zero_add, Nat.add_zero, Int.reduceToNat, Int.le_refl, Ty.td9, Ty.td47, Ty.td49, show (((0 : Nat)) : Int) = 0 from rfl, show decide ((0 : Int) < 3) = true from rfl, g0]
      refine hK 1 _ (by omega) (by omega) ?_ rfl rfl
      simp only [slot_is, aev, cv, cvc, Weak, isC, bsD, ↓reduceIte, Bool.and_true, Bool.and_self, and_true, and_self, Nat.reduceEqDiff]
      first | rfl | exact ⟨rfl, trivial⟩ | kernel_rfl
    | 1, _ =>
      simp only [awp_skip, awp_reg, awp_seq, awp_cond, awp_block, seqQ_n, loopQ_n, blkQ_n, awpOps_nil, awpOps_one, awpOps_if, awpOp_is, awpO_is, putK_is, put_s, slot_is, pureOp, apureO, aev, cv, cvc, binK, elO_s, loadA_p, yieldA, guardA_tt, condA_t, pickA_t, isC, bsD, Bool.false_eq_true, ↓reduceIte, List.getElem?_cons_zero, List.getElem?_cons_succ, List.length_cons, List.length_nil, List.getElem?_toArray, Option.bind_some, Bool.true_and, Bool.not_false, true_and, ne_eq, not_false_eq_true, reduceCtorEq, Nat.reduceAdd, Nat.reduceMul, Nat.reduceLT, Nat.reduceEqDiff, Nat.zero_add, Int.reduceToNat, Ty.td9, Ty.td47, Ty.td49, show (((1 : Nat)) : Int) = 1 from rfl, show decide ((1 : Int) < 3) = true from rfl, g1]
      refine ⟨by omega, ?_⟩
      refine hK 2 _ (by omega) (by omega) ?_ rfl rfl
      simp only [slot_is, aev, cv, cvc, Weak, isC, bsD, ↓reduceIte, Bool.and_true, Bool.and_self, and_true, and_self, Nat.reduceEqDiff]
      first | rfl | exact ⟨rfl, trivial⟩ | kernel_rfl
    | 2, _ =>
      simp only [awp_reg, awp_seq, awp_cond, awp_exit, awp_ret, seqQ_n, seqQ_e, loopQ_e, blkQ_e, awpOps_nil, awpOps_one, awpOps_if, awpOp_is, awpO_is, putK_is, put_s, slot_is, retA_is, pureOp, apureO, aev, cv, cvc, binK, elO_s, loadA_p, yieldA, guardA_tt, condA_f, pickA_t, toD_c, notExit, resA_nil, resA_tmp, oneA_1, isC, bsD, Bool.false_eq_true, ↓reduceIte, List.getElem?_cons_zero, List.getElem?_cons_succ, List.length_cons, List.length_nil, List.getElem?_toArray, Option.bind_some, Bool.and_true, Bool.true_and, Bool.and_self, Bool.not_true, true_and, and_true, and_self, ne_eq, not_false_eq_true, reduceCtorEq, Nat.reduceAdd, Nat.reduceMul, Nat.reduceLT, Nat.reduceEqDiff, Nat.zero_add, Int.reduceToNat, Ty.td9, Ty.td47, Ty.td49, show (((2 : Nat)) : Int) = 2 from rfl, show decide ((2 : Int) < 3) = true from rfl, g2]
      omega
  · rw [e]
    have g0 := ne_f h0
    have g1 := ne_f h1
    have g2 := ne_f h2
    clear e
    refine meets_of (X := true) Ty.mixed Tryd.func27 (by kernel_rfl) rfl (by kernel_rfl) (by simp) ?_; rw [Tryd.ntmps27, Tryd.results27]
    simp only [awp_reg, awp_seq, awp_block, awp_loop, seqQ_n, awpOps_nil, awpOps_one, awpOp_is, isCallV, putK_is, updK_is, put_s, upd_s, slot_is, pureOp, apureO, astepO, killT, aev, cv, cvc, cellsA, cellOk, argT, isC, bsD, Bool.false_eq_true, ↓reduceIte, List.length_nil, List.nil_append, Bool.true_and, true_and]
    refine loop_k (fun k : Nat => k ≤ 3) (fun k => ⟨16, [(3, I k), (2, I 0), (1, .ptr 0 0)], [some (.var 49 (rwV r))]⟩) (fun k => 3 - k) 0 (Nat.zero_le _) (by simp only [slot_is, aev, cv, cvc, Weak, isC, bsD, ↓reduceIte, Bool.and_true, Bool.and_self, and_true, and_self, Nat.reduceEqDiff]; rfl) rfl rfl ?_
    rintro k hk K hK
    match k, hk with
    | 0, _ =>
      simp only [awp_skip, awp_reg, awp_seq, awp_cond, awp_block, seqQ_n, loopQ_n, blkQ_n, awpOps_nil, awpOps_one, awpOps_if, awpOp_is, awpO_is, putK_is, put_s, slot_is, pureOp, apureO, aev, cv, cvc, binK, elO_s, loadA_p, yieldA, guardA_tt, condA_t, pickA_t, isC, bsD, Bool.false_eq_true, ↓reduceIte, List.getElem?_cons_zero, List.getElem?_cons_succ, List.length_cons, List.length_nil, List.getElem?_toArray, Option.bind_some, Bool.true_and, Bool.not_false, true_and, ne_eq, not_false_eq_true, reduceCtorEq, Nat.reduceAdd, Nat.reduceMul, Nat.reduceLT, Nat.reduceEqDiff, Nat.zero_add, Nat.add_zero, Int.reduceToNat, Int.le_refl, Ty.td9, Ty.td47, Ty.td49, show (((0 : Nat)) : Int) = 0 from rfl, show decide ((0 : Int) < 3) = true from rfl, g0]
      refine hK 1 _ (by omega) (by omega) ?_ rfl rfl
      simp only [slot_is, aev, cv, cvc, Weak, isC, bsD, ↓reduceIte, Bool.and_true, Bool.and_self, and_true, and_self, Nat.reduceEqDiff]
      first | rfl | exact ⟨rfl, trivial⟩ | kernel_rfl
    | 1, _ =>
      simp only [awp_skip, awp_reg, awp_seq, awp_cond, awp_block, seqQ_n, loopQ_n, blkQ_n, awpOps_nil, awpOps_one, awpOps_if, awpOp_is, awpO_is, putK_is, put_s, slot_is, pureOp, apureO, aev, cv, cvc, binK, elO_s, loadA_p, yieldA, guardA_tt, condA_t, pickA_t, isC, bsD, Bool.false_eq_true, ↓reduceIte, List.getElem?_cons_zero, List.getElem?_cons_succ, List.length_cons, List.length_nil, List.getElem?_toArray, Option.bind_some, Bool.true_and, Bool.not_false, true_and, ne_eq, not_false_eq_true, reduceCtorEq, Nat.reduceAdd, Nat.reduceMul, Nat.reduceLT, Nat.reduceEqDiff, Nat.zero_add, Int.reduceToNat, Ty.td9, Ty.td47, Ty.td49, show (((1 : Nat)) : Int) = 1 from rfl, show decide ((1 : Int) < 3) = true from rfl, g1]
      refine ⟨by omega, ?_⟩
      refine hK 2 _ (by omega) (by omega) ?_ rfl rfl
      simp only [slot_is, aev, cv, cvc, Weak, isC, bsD, ↓reduceIte, Bool.and_true, Bool.and_self, and_true, and_self, Nat.reduceEqDiff]
      first | rfl | exact ⟨rfl, trivial⟩ | kernel_rfl
    | 2, _ =>
      simp only [awp_skip, awp_reg, awp_seq, awp_cond, awp_block, seqQ_n, loopQ_n, blkQ_n, awpOps_nil, awpOps_one, awpOps_if, awpOp_is, awpO_is, putK_is, put_s, slot_is, pureOp, apureO, aev, cv, cvc, binK, elO_s, loadA_p, yieldA, guardA_tt, condA_t, pickA_t, isC, bsD, Bool.false_eq_true, ↓reduceIte, List.getElem?_cons_zero, List.getElem?_cons_succ, List.length_cons, List.length_nil, List.getElem?_toArray, Option.bind_some, Bool.true_and, Bool.not_false, true_and, ne_eq, not_false_eq_true, reduceCtorEq, Nat.reduceAdd, Nat.reduceMul, Nat.reduceLT, Nat.reduceEqDiff, Nat.zero_add, Int.reduceToNat, Ty.td9, Ty.td47, Ty.td49, show (((2 : Nat)) : Int) = 2 from rfl, show decide ((2 : Int) < 3) = true from rfl, g2]
      refine ⟨by omega, ?_⟩
      refine hK 3 _ (by omega) (by omega) ?_ rfl rfl
      simp only [slot_is, aev, cv, cvc, Weak, isC, bsD, ↓reduceIte, Bool.and_true, Bool.and_self, and_true, and_self, Nat.reduceEqDiff]
      first | rfl | exact ⟨rfl, trivial⟩ | kernel_rfl
    | 3, _ =>
      simp only [awp_reg, awp_seq, awp_cond, awp_exit, awp_ret, seqQ_n, seqQ_e, loopQ_e, blkQ_e, awpOps_nil, awpOps_one, awpOps_if, awpOp_is, putK_is, put_s, slot_is, retA_is, pureOp, apureO, aev, cv, cvc, binK, yieldA, guardA_tf, condA_f, pickA_f, toD_c, notExit, resA_nil, resA_tmp, oneA_1, isC, bsD, ↓reduceIte, List.getElem?_cons_zero, List.getElem?_cons_succ, List.getElem?_toArray, Option.bind_some, Bool.and_self, and_self, Nat.reduceEqDiff, show (((3 : Nat)) : Int) = 3 from rfl, show decide ((3 : Int) < 3) = false from rfl]
def params (r : Rw) : List ByteArray := [r.a, r.b, r.c].take (cntE r)
def typesV (op : ByteArray) : AV := .tup [.sl false 1 ((params (rowF op)).map fun s => [S s]), S (rowF op).r, B (findR op).isSome]
theorem types_no {op : ByteArray} (h : ∀ r ∈ rws, hitE op r = false) : typesV op = .tup [.sl false 1 [], S ⟨#[]⟩, B false] := by
  have e : findR op = none := List.find?_eq_none.2 fun r hr => by rw [h r hr]; simp
  unfold typesV rowF
  rw [e]
  rfl
theorem op_cases (op : ByteArray) : (∀ r ∈ rws, hitE op r = false) ∨ (op = ⟨#[97, 100, 100]⟩ ∨ op = ⟨#[115, 117, 98]⟩ ∨ op = ⟨#[109, 117, 108]⟩ ∨ op = ⟨#[100, 105, 118]⟩ ∨ op = ⟨#[109, 111, 100]⟩ ∨ op = ⟨#[109, 105, 110]⟩ ∨ op = ⟨#[109, 97, 120]⟩ ∨ op = ⟨#[110, 101, 103]⟩ ∨ op = ⟨#[97, 98, 115]⟩ ∨ op = ⟨#[115, 105, 103, 110]⟩ ∨ op = ⟨#[108, 116]⟩ ∨ op = ⟨#[108, 101]⟩ ∨ op = ⟨#[103, 116]⟩ ∨ op = ⟨#[103, 101]⟩ ∨ op = ⟨#[101, 113]⟩ ∨ op = ⟨#[110, 101]⟩ ∨ op = ⟨#[97, 110, 100]⟩ ∨ op = ⟨#[111, 114]⟩ ∨ op = ⟨#[120, 111, 114]⟩ ∨ op = ⟨#[110, 111, 116]⟩ ∨ op = ⟨#[115, 101, 108, 101, 99, 116]⟩ ∨ op = ⟨#[116, 111, 105, 110, 116]⟩) := by
  rcases Classical.em (∀ r ∈ rws, hitE op r = false) with h | h
  · exact Or.inl h
  · refine Or.inr ?_
    obtain ⟨r, hr, he⟩ : ∃ r, r ∈ rws ∧ hitE op r = true := by
      apply Classical.byContradiction
      intro hn
      exact h fun r hr => by
        cases e : hitE op r with
        | false => rfl
        | true => exact absurd ⟨r, hr, e⟩ hn
    have e2 : r.n = op := by
      have := hit_eq he
      exact this
    rw [← e2]
    simp only [rws, elemRows, List.map_cons, List.map_nil, rwOf, List.mem_cons, List.not_mem_nil, or_false] at hr
    rcases hr with rfl | rfl | rfl | rfl | rfl | rfl | rfl | rfl | rfl | rfl | rfl | rfl | rfl | rfl | rfl | rfl | rfl | rfl | rfl | rfl | rfl | rfl <;> simp
def validE (t : ByteArray) (n : Int) : Bool := if (t.toList == (⟨#[105, 110, 116]⟩ : ByteArray).toList) = true then decide (-2147483648 ≤ n) && decide (n ≤ 2147483647) else if (t.toList == (⟨#[98, 111, 111, 108]⟩ : ByteArray).toList) = true then (n == 0) || (n == 1) else false
theorem valid (t : ByteArray) (n : Int) : Meets Tryd.prog 14 [S t, I n] (B (validE t n)) := by
  unfold validE
  cases h1 : t.toList == (⟨#[105, 110, 116]⟩ : ByteArray).toList with
  | true =>
    by_cases q1 : -2147483648 ≤ n
    · refine meets_of (X := true) Ty.mixed Tryd.func14 (by kernel_rfl) rfl (by kernel_rfl) (by simp) ?_; rw [Tryd.ntmps14, Tryd.results14]
      simp only [awp_reg, awp_seq, awp_cond, awp_block, awp_ret, seqQ_n, seqQ_r, blkQ_r, awpOps_nil, awpOps_one, awpOps_if, awpOp_is, awpO_is, putK_is, put_s, slot_is, retA_is, pureOp, apureO, aev, cv, cvc, binK, yieldA, guardA_tt, condA_t, pickA_t, toD_c, notExit, resA_nil, resA_tmp, oneA_1, argT, isC, bsD, ↓reduceIte, List.getElem?_cons_zero, List.getElem?_cons_succ, List.getElem?_toArray, Option.bind_some, Bool.true_and, Bool.and_self, true_and, and_self, reduceCtorEq, Nat.reduceEqDiff, Nat.zero_add, h1, decide_eq_true q1]
    · refine meets_of (X := true) Ty.mixed Tryd.func14 (by kernel_rfl) rfl (by kernel_rfl) (by simp) ?_; rw [Tryd.ntmps14, Tryd.results14]
      simp only [awp_reg, awp_seq, awp_cond, awp_block, awp_ret, seqQ_n, seqQ_r, blkQ_r, awpOps_nil, awpOps_one, awpOps_if, awpOp_is, putK_is, put_s, slot_is, retA_is, pureOp, apureO, aev, cv, cvc, binK, yieldA, guardA_tf, condA_t, pickA_f, toD_c, notExit, resA_nil, resA_tmp, oneA_1, argT, isC, bsD, ↓reduceIte, List.getElem?_cons_zero, List.getElem?_cons_succ, List.getElem?_toArray, Option.bind_some, Bool.false_and, Bool.and_self, and_self, reduceCtorEq, Nat.reduceEqDiff, Nat.zero_add, h1, decide_eq_false q1]
  | false =>
    cases h2 : t.toList == (⟨#[98, 111, 111, 108]⟩ : ByteArray).toList with
    | true =>
      cases h3 : n == 0 with
      | true =>
        refine meets_of (X := true) Ty.mixed Tryd.func14 (by kernel_rfl) rfl (by kernel_rfl) (by simp) ?_; rw [Tryd.ntmps14, Tryd.results14]
        simp only [awp_reg, awp_seq, awp_cond, awp_block, awp_ret, seqQ_n, seqQ_r, blkQ_r, awpOps_nil, awpOps_one, awpOps_if, awpOp_is, putK_is, put_s, slot_is, retA_is, pureOp, apureO, aev, cv, cvc, binK, yieldA, guardA_ft, condA_t, condA_f, pickA_t, toD_c, notExit, resA_nil, resA_tmp, oneA_1, argT, isC, bsD, Bool.false_eq_true, ↓reduceIte, List.getElem?_cons_zero, List.getElem?_cons_succ, List.getElem?_toArray, Option.bind_some, Bool.and_self, Bool.true_or, and_self, reduceCtorEq, Nat.reduceEqDiff, Nat.zero_add, true_or, h1, h2, h3]
      | false =>
        refine meets_of (X := true) Ty.mixed Tryd.func14 (by kernel_rfl) rfl (by kernel_rfl) (by simp) ?_; rw [Tryd.ntmps14, Tryd.results14]
        simp only [awp_reg, awp_seq, awp_cond, awp_block, awp_ret, seqQ_n, seqQ_r, blkQ_r, awpOps_nil, awpOps_one, awpOps_if, awpOp_is, awpO_is, putK_is, put_s, slot_is, retA_is, pureOp, apureO, aev, cv, cvc, binK, yieldA, guardA_ff, condA_t, condA_f, pickA_f, toD_c, notExit, resA_nil, resA_tmp, oneA_1, argT, isC, bsD, Bool.false_eq_true, ↓reduceIte, List.getElem?_cons_zero, List.getElem?_cons_succ, List.getElem?_toArray, Option.bind_some, Bool.and_self, Bool.false_or, and_self, reduceCtorEq, Nat.reduceEqDiff, Nat.zero_add, false_or, h1, h2, h3]
    | false =>
      refine meets_of (X := true) Ty.mixed Tryd.func14 (by kernel_rfl) rfl (by kernel_rfl) (by simp) ?_; rw [Tryd.ntmps14, Tryd.results14]
      simp only [awp_skip, awp_reg, awp_seq, awp_cond, awp_block, awp_ret, seqQ_n, blkQ_n, awpOps_nil, awpOps_one, awpOp_is, putK_is, put_s, slot_is, retA_is, pureOp, apureO, aev, cv, cvc, binK, condA_f, toD_c, notExit, resA_nil, resA_tmp, oneA_1, argT, isC, bsD, Bool.false_eq_true, ↓reduceIte, Bool.and_self, and_self, reduceCtorEq, Nat.reduceEqDiff, Nat.zero_add, h1, h2]
theorem rvalid (t : ByteArray) (n : Int) : Meets Tryd.prog 19 [S t, I n] (B (validE t n)) := by
  unfold validE
  cases h2 : t.toList == (⟨#[98, 111, 111, 108]⟩ : ByteArray).toList with
  | true =>
    have h1 : (t.toList == (⟨#[105, 110, 116]⟩ : ByteArray).toList) = false := by
      rw [eqS] at h2 ⊢
      rw [beq_iff_eq.1 h2]
      rfl
    cases h3 : n == 0 with
    | true =>
      refine meets_of (X := true) Ty.mixed Tryd.func19 (by kernel_rfl) rfl (by kernel_rfl) (by simp) ?_; rw [Tryd.ntmps19, Tryd.results19]
      simp only [awp_reg, awp_seq, awp_cond, awp_ret, seqQ_n, seqQ_r, awpOps_nil, awpOps_one, awpOps_if, awpOp_is, putK_is, put_s, slot_is, retA_is, pureOp, apureO, aev, cv, cvc, binK, yieldA, guardA_ft, condA_t, pickA_t, toD_c, notExit, resA_nil, resA_tmp, oneA_1, argT, isC, bsD, Bool.false_eq_true, ↓reduceIte, List.getElem?_cons_zero, List.getElem?_cons_succ, List.getElem?_toArray, Option.bind_some, Bool.and_self, Bool.true_or, and_self, reduceCtorEq, Nat.reduceEqDiff, Nat.zero_add, true_or, h1, h2, h3]
    | false =>
      refine meets_of (X := true) Ty.mixed Tryd.func19 (by kernel_rfl) rfl (by kernel_rfl) (by simp) ?_; rw [Tryd.ntmps19, Tryd.results19]
      simp only [awp_reg, awp_seq, awp_cond, awp_ret, seqQ_n, seqQ_r, awpOps_nil, awpOps_one, awpOps_if, awpOp_is, awpO_is, putK_is, put_s, slot_is, retA_is, pureOp, apureO, aev, cv, cvc, binK, yieldA, guardA_ff, condA_t, pickA_f, toD_c, notExit, resA_nil, resA_tmp, oneA_1, argT, isC, bsD, Bool.false_eq_true, ↓reduceIte, List.getElem?_cons_zero, List.getElem?_cons_succ, List.getElem?_toArray, Option.bind_some, Bool.and_self, Bool.false_or, and_self, reduceCtorEq, Nat.reduceEqDiff, Nat.zero_add, false_or, h1, h2, h3]
  | false =>
    cases h1 : t.toList == (⟨#[105, 110, 116]⟩ : ByteArray).toList with
    | true =>
      by_cases q1 : -2147483648 ≤ n
      · refine meets_of (X := true) Ty.mixed Tryd.func19 (by kernel_rfl) rfl (by kernel_rfl) (by simp) ?_; rw [Tryd.ntmps19, Tryd.results19]
        simp only [awp_skip, awp_reg, awp_seq, awp_cond, awp_ret, seqQ_n, awpOps_nil, awpOps_one, awpOps_if, awpOp_is, awpO_is, putK_is, put_s, slot_is, retA_is, pureOp, apureO, aev, cv, cvc, binK, yieldA, guardA_tt, condA_f, pickA_t, toD_c, notExit, resA_nil, resA_tmp, oneA_1, argT, isC, bsD, ↓reduceIte, List.getElem?_cons_zero, List.getElem?_cons_succ, List.getElem?_toArray, Option.bind_some, Bool.true_and, Bool.and_self, true_and, and_self, reduceCtorEq, Nat.reduceEqDiff, Nat.zero_add, h1, h2, decide_eq_true q1]
      · refine meets_of (X := true) Ty.mixed Tryd.func19 (by kernel_rfl) rfl (by kernel_rfl) (by simp) ?_; rw [Tryd.ntmps19, Tryd.results19]
        simp only [awp_skip, awp_reg, awp_seq, awp_cond, awp_ret, seqQ_n, awpOps_nil, awpOps_one, awpOps_if, awpOp_is, awpO_is, putK_is, put_s, slot_is, retA_is, pureOp, apureO, aev, cv, cvc, binK, yieldA, guardA_tt, guardA_tf, condA_f, pickA_t, pickA_f, toD_c, notExit, resA_nil, resA_tmp, oneA_1, argT, isC, bsD, ↓reduceIte, List.getElem?_cons_zero, List.getElem?_cons_succ, List.getElem?_toArray, Option.bind_some, Bool.false_and, Bool.and_self, and_self, reduceCtorEq, Nat.reduceEqDiff, Nat.zero_add, h1, h2, decide_eq_false q1]
    | false =>
      refine meets_of (X := true) Ty.mixed Tryd.func19 (by kernel_rfl) rfl (by kernel_rfl) (by simp) ?_; rw [Tryd.ntmps19, Tryd.results19]
      simp only [awp_skip, awp_reg, awp_seq, awp_cond, awp_ret, seqQ_n, awpOps_nil, awpOps_one, awpOps_if, awpOp_is, putK_is, put_s, slot_is, retA_is, pureOp, apureO, aev, cv, cvc, binK, yieldA, guardA_tf, condA_f, pickA_f, toD_c, notExit, resA_nil, resA_tmp, oneA_1, argT, isC, bsD, Bool.false_eq_true, ↓reduceIte, List.getElem?_cons_zero, List.getElem?_cons_succ, List.getElem?_toArray, Option.bind_some, Bool.and_self, and_self, reduceCtorEq, Nat.reduceEqDiff, Nat.zero_add, h1, h2]

end Go.Proofs.YtdhpmkaggojgbaaDoor.E1
