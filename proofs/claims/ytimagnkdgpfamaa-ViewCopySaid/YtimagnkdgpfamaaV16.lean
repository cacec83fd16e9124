/- Views: copies. -/
import Derived.Test.YtimagnkdgpfamaaV13
import Derived.Test.YtimagnkdgpfamaaV15
namespace Go.Proofs.Ytimagnkdgpfamaa.V16
open Go Go.Proofs.Ytimagnkdgpfamaa.Eng Go.Proofs.Ytimagnkdgpfamaa Go.RowKit Go.Proofs.Ytimagnkdgpfamaa.A1 Go.Proofs.Ytimagnkdgpfamaa.A2 Go.Proofs.Ytimagnkdgpfamaa.A3 Go.Proofs.Ytimagnkdgpfamaa.A4 Go.Proofs.Ytimagnkdgpfamaa.A5 Go.Proofs.Ytimagnkdgpfamaa.A8 Go.Proofs.Ytimagnkdgpfamaa.A10 Go.Proofs.Ytimagnkdgpfamaa.V1 Go.Proofs.Ytimagnkdgpfamaa.V2 Go.Proofs.Ytimagnkdgpfamaa.V3 Go.Proofs.Ytimagnkdgpfamaa.V4 Go.Proofs.Ytimagnkdgpfamaa.V5 Go.Proofs.Ytimagnkdgpfamaa.V6 Go.Proofs.Ytimagnkdgpfamaa.V7 Go.Proofs.Ytimagnkdgpfamaa.V11 Go.Proofs.Ytimagnkdgpfamaa.V12 Go.Proofs.Ytimagnkdgpfamaa.V13 Go.Proofs.Ytimagnkdgpfamaa.V15
set_option linter.unusedSimpArgs false
set_option linter.unusedVariables false
set_option linter.unusedSectionVars false
set_option maxRecDepth 100000

theorem dot_in (n : Int) (hn : n ≤ 1000000000) : ∀ (ds ss ix : List Int) (o : Int), inR ds ix → ss.length = ds.length → 0 ≤ o + mn ds ss → o + mx ds ss < n → (∀ d ∈ ds, 1 ≤ d) → 0 ≤ dot ix ss o ∧ dot ix ss o < n
  | [], [], [], o, _, _, h1, h2, _ => by simp only [dot, mn, mx] at *; omega
  | [], _ :: _, _, _, _, h, _, _, _ => by simp at h
  | _ :: _, [], _, _, _, h, _, _, _ => by simp at h
  | [], [], _ :: _, _, h, _, _, _, _ => by simp [inR] at h
  | _ :: _, _ :: _, [], _, h, _, _, _, _ => by simp [inR] at h
  | d :: ds, s :: ss, i :: ix, o, hr, hl, h1, h2, hd => by
    obtain ⟨r1, r2, r3⟩ := hr
    have hd1 := hd d (by simp)
    have hd' : ∀ x ∈ ds, 1 ≤ x := fun x hx => hd x (by simp [hx])
    have a1 := mn_le ds ss hd'
    have a2 := mx_ge ds ss hd'
    have b1 := m1 (s := s) hd1
    have b2 := mul_part (s := s) (a := i) (b := d - 1) r1 (by omega)
    rw [mn] at h1
    rw [mx] at h2
    simp only [mn, mx] at b1
    rw [Int.mul_comm s i] at b2
    rw [dot]
    generalize s * (d - 1) = p at *
    generalize i * s = q at *
    rw [wrap_in (x := q) (by omega) (by omega), wrap_in (x := o + q) (by omega) (by omega)]
    exact dot_in n hn ds ss ix (o + q) r3 (by simpa using hl) (by omega) (by omega) hd'

theorem dot_id : ∀ (ds ix : List Int) (o : Int), fine ds → prod ds ≤ 4096 → inR ds ix → 0 ≤ o → o + prod ds ≤ 1000000 → dot ix (strd ds).1 o = o + A10.val ds ix
  | [], [], o, _, _, _, _, _ => by simp [strd, dot, A10.val]
  | [], _ :: _, _, _, _, h, _, _ => by simp [inR] at h
  | _ :: _, [], _, _, _, h, _, _ => by simp [inR] at h
  | d :: ds, i :: ix, o, hf, hp, hr, h1, h2 => by
    obtain ⟨r1, r2, r3⟩ := hr
    have hd := hf d (by simp)
    have hf' : fine ds := fun z hz => hf z (by simp [hz])
    have hpp := prod_pos hf'
    rw [prod] at hp h2
    have g1 : prod ds ≤ d * prod ds := by
      have := Int.mul_le_mul_of_nonneg_right hd (show 0 ≤ prod ds by omega)
      omega
    have g2 : i * prod ds ≤ d * prod ds - prod ds := by
      have := Int.mul_le_mul_of_nonneg_right (show i ≤ d - 1 by omega) (show 0 ≤ prod ds by omega)
      rw [Int.sub_mul, Int.one_mul] at this
      exact this
    have g3 : 0 ≤ i * prod ds := Int.mul_nonneg r1 (by omega)
    have e1 := (strd_val ds hf' (by omega)).1
    have ih := dot_id ds ix
    rw [strd, dot, A10.val, e1]
    generalize i * prod ds = q at *
    rw [wrap_in (x := q) (by omega) (by omega), wrap_in (x := o + q) (by omega) (by omega), ih (o + q) hf' (by omega) r3 (by omega) (by omega)]
    omega

theorem ofE_form (e : ByteArray) (ds xs : List Int) (hd : ds.length ≤ 1000000) (hx : xs.length ≤ 1000000) : ∃ (e' : ByteArray) (d' x' : List Int) (z : Int), ofE e ds xs = .tup [arr e' d' x', I z] ∧ d'.length ≤ 1000000 ∧ x'.length ≤ 1000000 := by
  unfold ofE
  split
  · exact ⟨_, _, _, _, rfl, hd, hx⟩
  · exact ⟨_, _, _, _, rfl, by simp, by simp⟩

/-- The elements at some offsets. -/
def gat (xs l : List Int) : List Int := l.map fun z => xs.getD z.toNat 0
theorem gat_len (xs l : List Int) : (gat xs l).length = l.length := by simp [gat]
theorem gat_step (xs l : List Int) (q : Nat) (x : Int) (h : xs[q]? = some x) : gat xs (l ++ [(q : Int)]) = gat xs l ++ [x] := by
  simp [gat, List.getD_eq_getElem?_getD, h]

theorem off_in' {n o : Int} {ds ss : List Int} {k m : Nat} (hn : n ≤ 1000000000) (hv : vOk n o ds ss) (hm : sizeE ds = ((m : Int), 0)) (hk : k < m) : ∃ q : Nat, dot (idxR ds (k : Int)).1 ss o = (q : Int) ∧ (q : Int) < n := by
  obtain ⟨hf, h⟩ := hv
  obtain ⟨_, hl, _⟩ := formed_dims hf
  obtain ⟨p1, p2, p3, p4⟩ := places hm (show (0 : Int) ≤ (k : Int) by omega) (by omega)
  have h0 : (0 : Int) ∉ ds := fun h => by
    have := size_zero hm h
    omega
  have h := h.resolve_left h0
  have hfi := (size_fine hm (by omega)).1
  have := dot_in n hn ds ss _ o p2 hl h.1 h.2 hfi
  exact ⟨(dot (idxR ds (k : Int)).1 ss o).toNat, by omega, by omega⟩

section
variable (e : ByteArray) (dz xs : List Int) (o : Int) (ds ss : List Int) (hdz : dz.length ≤ 1000000) (hx : xs.length ≤ 1000000) (hd : ds.length ≤ 1000000) (hs : ss.length ≤ 1000000)
include hdz hx hd hs

theorem copy_err (h : checkE e dz xs ≠ 0 ∨ vvE xs.length o ds ss = false) : Meets Try.prog 24 [arr e dz xs, vw o ds ss] (.tup [arr ⟨#[]⟩ [] [], I 1]) := by
  have c1 := isValid e dz xs hdz hx
  have c2 := vvalid xs.length o ds ss hd hs
  refine Meets.weak (r0 := .tup [.agg [.c (.string ⟨#[]⟩), .nils, .nils], I 1]) ?_ zero_imp
  by_cases hc : checkE e dz xs = 0
  case neg =>
    rw [show (checkE e dz xs == 0) = false by simpa using hc] at c1
    refine meets_of (X := true) Ty.mixed Try.func24 (by kernel_rfl) rfl (by kernel_rfl) (by simp) ?_; rw [Try.ntmps24, Try.results24]
    simp only [awp_reg, awp_seq, seqQ_n, awpOps_nil, awpOps_one, awpOp_is, isCallV, callW_is, callV_is, putK_is, updK_is, put_s, upd_s, slot_is, pureOp, apureO, astepO, killT, aev, cv, cvc, elO_s, loadA_p, cellsA, cellOk, argT, Bool.false_eq_true, ↓reduceIte, List.getElem?_cons_zero, List.length_cons, List.length_nil, List.map_cons, List.map_nil, List.cons_append, List.nil_append, List.append_nil, List.take_succ_cons, List.drop_zero, List.all_cons, List.all_nil, Bool.true_and, Bool.and_self, Value.oneCell', true_and, and_self, reduceCtorEq, Nat.reduceAdd, Nat.reduceEqDiff, Nat.zero_add, Nat.le_refl, List.take_nil, Ty.td50]
    refine call_meets (c1) (by simp only [aev, cv, cvc, toD_c, toD_agg, toD_sl, consO_some, toDL_nil, toDL_cons, Option.map_some]) ?_; simp only [awp_reg, awp_seq, awp_cond, awp_ret, seqQ_n, seqQ_r, awpOps_nil, awpOps_one, awpOps_if, awpOp_is, isCallV, putK_is, updK_is, put_s, upd_n, upd_s, slot_is, slot.eq_1, retA_is, pureOp, apureO, astepO, killT, aev, cv, cvc, elO_s, loadA_p, storeA, cellsA, cellOk, setAll, fillA, placeT, placesA, yieldA, guardA_ft, condA_t, pickA_t, flat_c, ownsV_c, ownsV_agg, ownsV_sl, ownsL_nil, ownsL_cons, toD_c, toD_nils, toD_tup, toD_agg, consO_some, toDL_nil, toDL_cons, notExit, resA_nil, resA_tmp, resA_cell, oneA_2, Bool.false_eq_true, ↓reduceIte, List.getElem?_cons_zero, List.getElem?_cons_succ, List.length_cons, List.length_nil, List.map_cons, List.map_nil, List.append_nil, List.set_cons_zero, List.set_cons_succ, List.getElem?_toArray, Option.bind_some, Option.map_some, List.take_succ_cons, List.drop_zero, List.all_cons, List.all_nil, Bool.true_and, Bool.and_self, Bool.or_true, Bool.not_false, Value.oneCell', true_and, and_self, ne_eq, not_false_eq_true, reduceCtorEq, Nat.reduceAdd, Nat.reduceEqDiff, Nat.zero_add, List.isEmpty_nil, Nat.le_refl, List.take_nil, Ty.td9, Ty.td22, Ty.td50]
  have h := h.resolve_left (fun h => h hc)
  rw [h] at c2
  rw [hc, beq_self_eq_true] at c1
  refine meets_of (X := true) Ty.mixed Try.func24 (by kernel_rfl) rfl (by kernel_rfl) (by simp) ?_; rw [Try.ntmps24, Try.results24]
  simp only [awp_reg, awp_seq, seqQ_n, awpOps_nil, awpOps_one, awpOp_is, isCallV, callW_is, callV_is, putK_is, updK_is, put_s, upd_s, slot_is, pureOp, apureO, astepO, killT, aev, cv, cvc, elO_s, loadA_p, cellsA, cellOk, argT, Bool.false_eq_true, ↓reduceIte, List.getElem?_cons_zero, List.length_cons, List.length_nil, List.map_cons, List.map_nil, List.cons_append, List.nil_append, List.append_nil, List.take_succ_cons, List.drop_zero, List.all_cons, List.all_nil, Bool.true_and, Bool.and_self, Value.oneCell', true_and, and_self, reduceCtorEq, Nat.reduceAdd, Nat.reduceEqDiff, Nat.zero_add, Nat.le_refl, List.take_nil, Ty.td50]
  refine call_meets (c1) (by simp only [aev, cv, cvc, toD_c, toD_agg, toD_sl, consO_some, toDL_nil, toDL_cons, Option.map_some]) ?_; simp only [awpOps_one, awpOps_if, awpOp_is, isCallV, callW_is, callV_is, awpO_is, putK_is, put_s, upd_s, slot_is, pureOp, apureO, killT, aev, cv, cvc, elO_s, elO_none, lenA, lenK, loadA_p, yieldA, guardA_ff, flat_c, ownsV_c, ownsV_agg, ownsV_sl, ownsL_nil, ownsL_cons, Bool.false_eq_true, ↓reduceIte, List.getElem?_cons_zero, List.getElem?_cons_succ, List.length_cons, List.length_nil, List.map_cons, List.map_nil, List.append_nil, List.getElem?_toArray, Option.bind_some, List.take_succ_cons, List.drop_zero, Bool.true_and, Bool.or_true, Bool.not_true, true_and, ne_eq, not_false_eq_true, reduceCtorEq, Nat.reduceAdd, Nat.reduceEqDiff, Nat.zero_add, List.isEmpty_nil, Option.isSome_some, Nat.le_refl, List.take_nil, Ty.td22, Ty.td28, Ty.td50, List.length_map]
  refine call_meets (c2) (by simp only [aev, cv, cvc, toD_c, toD_agg, toD_sl, consO_some, toDL_nil, toDL_cons, Option.map_some]) ?_; simp only [awp_reg, awp_seq, awp_cond, awp_ret, seqQ_n, seqQ_r, awpOps_nil, awpOps_one, awpOps_if, awpOp_is, isCallV, awpO_is, putK_is, updK_is, put_s, upd_n, upd_s, slot_is, slot.eq_1, retA_is, pureOp, apureO, astepO, killT, aev, cv, cvc, elO_s, loadA_p, storeA, cellsA, cellOk, setAll, fillA, placeT, placesA, yieldA, guardA_ff, condA_t, pickA_f, flat_c, ownsV_c, ownsV_agg, ownsV_sl, ownsL_nil, ownsL_cons, toD_c, toD_nils, toD_tup, toD_agg, consO_some, toDL_nil, toDL_cons, notExit, resA_nil, resA_tmp, resA_cell, oneA_2, Bool.false_eq_true, ↓reduceIte, List.getElem?_cons_zero, List.getElem?_cons_succ, List.length_cons, List.length_nil, List.map_cons, List.map_nil, List.append_nil, List.set_cons_zero, List.set_cons_succ, List.getElem?_toArray, Option.bind_some, Option.map_some, List.take_succ_cons, List.drop_zero, List.all_cons, List.all_nil, Bool.true_and, Bool.and_self, Bool.or_true, Bool.not_false, Value.oneCell', true_and, and_self, ne_eq, not_false_eq_true, reduceCtorEq, Nat.reduceAdd, Nat.reduceEqDiff, Nat.zero_add, List.isEmpty_nil, Nat.le_refl, List.take_nil, Ty.td9, Ty.td22, Ty.td50, List.length_map]
theorem ref_err (h : checkE e dz xs ≠ 0 ∨ rvE xs.length o ds ss = false) : Meets Try.prog 25 [arr e dz xs, vw o ds ss] (.tup [arr ⟨#[]⟩ [] [], I 1]) := by
  have c1 := refValid e dz xs hdz hx
  have c2 := rvalid xs.length o ds ss hd hs
  refine Meets.weak (r0 := .tup [.agg [.c (.string ⟨#[]⟩), .nils, .nils], I 1]) ?_ zero_imp
  by_cases hc : checkE e dz xs = 0
  case neg =>
    rw [show (checkE e dz xs == 0) = false by simpa using hc] at c1
    refine meets_of (X := true) Ty.mixed Try.func25 (by kernel_rfl) rfl (by kernel_rfl) (by simp) ?_; rw [Try.ntmps25, Try.results25]
    simp only [awp_reg, awp_seq, seqQ_n, awpOps_nil, awpOps_one, awpOp_is, isCallV, callW_is, callV_is, putK_is, updK_is, put_s, upd_s, slot_is, pureOp, apureO, astepO, killT, aev, cv, cvc, elO_s, loadA_p, cellsA, cellOk, argT, Bool.false_eq_true, ↓reduceIte, List.getElem?_cons_zero, List.length_cons, List.length_nil, List.map_cons, List.map_nil, List.cons_append, List.nil_append, List.append_nil, List.take_succ_cons, List.drop_zero, List.all_cons, List.all_nil, Bool.true_and, Bool.and_self, Value.oneCell', true_and, and_self, reduceCtorEq, Nat.reduceAdd, Nat.reduceEqDiff, Nat.zero_add, Nat.le_refl, List.take_nil, Ty.td50]
    refine call_meets (c1) (by simp only [aev, cv, cvc, toD_c, toD_agg, toD_sl, consO_some, toDL_nil, toDL_cons, Option.map_some]) ?_; simp only [awp_reg, awp_seq, awp_cond, awp_ret, seqQ_n, seqQ_r, awpOps_nil, awpOps_one, awpOps_if, awpOp_is, isCallV, putK_is, updK_is, put_s, upd_n, upd_s, slot_is, slot.eq_1, retA_is, pureOp, apureO, astepO, killT, aev, cv, cvc, elO_s, loadA_p, storeA, cellsA, cellOk, setAll, fillA, placeT, placesA, yieldA, guardA_ft, condA_t, pickA_t, flat_c, ownsV_c, ownsV_agg, ownsV_sl, ownsL_nil, ownsL_cons, toD_c, toD_nils, toD_tup, toD_agg, consO_some, toDL_nil, toDL_cons, notExit, resA_nil, resA_tmp, resA_cell, oneA_2, Bool.false_eq_true, ↓reduceIte, List.getElem?_cons_zero, List.getElem?_cons_succ, List.length_cons, List.length_nil, List.map_cons, List.map_nil, List.append_nil, List.set_cons_zero, List.set_cons_succ, List.getElem?_toArray, Option.bind_some, Option.map_some, List.take_succ_cons, List.drop_zero, List.all_cons, List.all_nil, Bool.true_and, Bool.and_self, Bool.or_true, Bool.not_false, Value.oneCell', true_and, and_self, ne_eq, not_false_eq_true, reduceCtorEq, Nat.reduceAdd, Nat.reduceEqDiff, Nat.zero_add, List.isEmpty_nil, Nat.le_refl, List.take_nil, Ty.td9, Ty.td22, Ty.td50]
  have h := h.resolve_left (fun h => h hc)
  rw [h] at c2
  rw [hc, beq_self_eq_true] at c1
  refine meets_of (X := true) Ty.mixed Try.func25 (by kernel_rfl) rfl (by kernel_rfl) (by simp) ?_; rw [Try.ntmps25, Try.results25]
  simp only [awp_reg, awp_seq, seqQ_n, awpOps_nil, awpOps_one, awpOp_is, isCallV, callW_is, callV_is, putK_is, updK_is, put_s, upd_s, slot_is, pureOp, apureO, astepO, killT, aev, cv, cvc, elO_s, loadA_p, cellsA, cellOk, argT, Bool.false_eq_true, ↓reduceIte, List.getElem?_cons_zero, List.length_cons, List.length_nil, List.map_cons, List.map_nil, List.cons_append, List.nil_append, List.append_nil, List.take_succ_cons, List.drop_zero, List.all_cons, List.all_nil, Bool.true_and, Bool.and_self, Value.oneCell', true_and, and_self, reduceCtorEq, Nat.reduceAdd, Nat.reduceEqDiff, Nat.zero_add, Nat.le_refl, List.take_nil, Ty.td50]
  refine call_meets (c1) (by simp only [aev, cv, cvc, toD_c, toD_agg, toD_sl, consO_some, toDL_nil, toDL_cons, Option.map_some]) ?_; simp only [awpOps_one, awpOps_if, awpOp_is, isCallV, callW_is, callV_is, awpO_is, putK_is, put_s, upd_s, slot_is, pureOp, apureO, killT, aev, cv, cvc, elO_s, elO_none, lenA, lenK, loadA_p, yieldA, guardA_ff, flat_c, ownsV_c, ownsV_agg, ownsV_sl, ownsL_nil, ownsL_cons, Bool.false_eq_true, ↓reduceIte, List.getElem?_cons_zero, List.getElem?_cons_succ, List.length_cons, List.length_nil, List.map_cons, List.map_nil, List.append_nil, List.getElem?_toArray, Option.bind_some, List.take_succ_cons, List.drop_zero, Bool.true_and, Bool.or_true, Bool.not_true, true_and, ne_eq, not_false_eq_true, reduceCtorEq, Nat.reduceAdd, Nat.reduceEqDiff, Nat.zero_add, List.isEmpty_nil, Option.isSome_some, Nat.le_refl, List.take_nil, Ty.td22, Ty.td24, Ty.td50, List.length_map]
  refine call_meets (c2) (by simp only [aev, cv, cvc, toD_c, toD_agg, toD_sl, consO_some, toDL_nil, toDL_cons, Option.map_some]) ?_; simp only [awp_reg, awp_seq, awp_cond, awp_ret, seqQ_n, seqQ_r, awpOps_nil, awpOps_one, awpOps_if, awpOp_is, isCallV, awpO_is, putK_is, updK_is, put_s, upd_n, upd_s, slot_is, slot.eq_1, retA_is, pureOp, apureO, astepO, killT, aev, cv, cvc, elO_s, loadA_p, storeA, cellsA, cellOk, setAll, fillA, placeT, placesA, yieldA, guardA_ff, condA_t, pickA_f, flat_c, ownsV_c, ownsV_agg, ownsV_sl, ownsL_nil, ownsL_cons, toD_c, toD_nils, toD_tup, toD_agg, consO_some, toDL_nil, toDL_cons, notExit, resA_nil, resA_tmp, resA_cell, oneA_2, Bool.false_eq_true, ↓reduceIte, List.getElem?_cons_zero, List.getElem?_cons_succ, List.length_cons, List.length_nil, List.map_cons, List.map_nil, List.append_nil, List.set_cons_zero, List.set_cons_succ, List.getElem?_toArray, Option.bind_some, Option.map_some, List.take_succ_cons, List.drop_zero, List.all_cons, List.all_nil, Bool.true_and, Bool.and_self, Bool.or_true, Bool.not_false, Value.oneCell', true_and, and_self, ne_eq, not_false_eq_true, reduceCtorEq, Nat.reduceAdd, Nat.reduceEqDiff, Nat.zero_add, List.isEmpty_nil, Nat.le_refl, List.take_nil, Ty.td9, Ty.td22, Ty.td50, List.length_map]

def cpH : Nat → Heap
  | 0 => [some (.var 50 [S e, ints dz, ints xs]), some (.var 28 [I o, ints ds, ints ss]), some (.var 50 [S ⟨#[]⟩, .nils, .nils]), some (.var 22 [.nils])]
  | k + 1 => [some (.var 50 [S e, ints dz, ints xs]), some (.var 28 [I o, ints ds, ints ss]), some (.var 50 [S ⟨#[]⟩, .nils, .nils]), some (.var 22 [.own 5 1 (k + 1)]), none, some (.row 3 1 ((gat xs (offs o ds ss (k + 1))).map enc))]

theorem copy_ok (hc : checkE e dz xs = 0) (hv : vvE xs.length o ds ss = true) (hk : vOk xs.length o ds ss) : Meets Try.prog 24 [arr e dz xs, vw o ds ss] (ofE e ds (gat xs (offsE o ds ss))) := by
  have c1 := isValid e dz xs hdz hx
  have c2 := vvalid xs.length o ds ss hd hs
  have c3 := voffsets o ds ss
  rw [hv] at c2
  rw [hc, beq_self_eq_true] at c1
  obtain ⟨hl, n, hn⟩ := formed_ok hk.1
  have hnb : n ≤ 4096 := by have := sizeE_bound ds; rw [hn] at this; simp only at this; omega
  have hz := size ds hd
  rw [hn] at hz
  unfold offsE
  rw [if_pos hk.1, hn, Int.toNat_natCast]
  have c4 := of_ e ds (gat xs (offs o ds ss n)) hd (by rw [gat_len, offs_len]; omega)
  obtain ⟨e', d', x', z, hres, -, -⟩ := ofE_form e ds (gat xs (offs o ds ss n)) hd (by rw [gat_len, offs_len]; omega)
  rw [hres] at c4 ⊢
  refine meets_of (X := false) Ty.mixed Try.func24 (by kernel_rfl) rfl (by kernel_rfl) (by simp) ?_; rw [Try.ntmps24, Try.results24]
  simp only [awp_reg, awp_seq, seqQ_n, awpOps_nil, awpOps_one, awpOp_is, isCallV, callW_is, callV_is, putK_is, updK_is, put_s, upd_s, slot_is, pureOp, apureO, astepO, killT, aev, cv, cvc, elO_s, loadA_p, cellsA, cellOk, argT, Bool.false_eq_true, ↓reduceIte, List.getElem?_cons_zero, List.length_cons, List.length_nil, List.map_cons, List.map_nil, List.cons_append, List.nil_append, List.append_nil, List.take_succ_cons, List.drop_zero, List.all_cons, List.all_nil, Bool.true_and, Bool.and_self, Value.oneCell', true_and, and_self, reduceCtorEq, Nat.reduceAdd, Nat.reduceEqDiff, Nat.zero_add, Nat.le_refl, List.take_nil, Ty.td50]
  refine call_meets (c1) (by simp only [aev, cv, cvc, toD_c, toD_agg, toD_sl, consO_some, toDL_nil, toDL_cons, Option.map_some]) ?_; simp only [awpOps_one, awpOps_if, awpOp_is, isCallV, callW_is, callV_is, awpO_is, putK_is, put_s, upd_s, slot_is, pureOp, apureO, killT, aev, cv, cvc, elO_s, elO_none, lenA, lenK, loadA_p, yieldA, guardA_ff, flat_c, ownsV_c, ownsV_agg, ownsV_sl, ownsL_nil, ownsL_cons, Bool.false_eq_true, ↓reduceIte, List.getElem?_cons_zero, List.getElem?_cons_succ, List.length_cons, List.length_nil, List.map_cons, List.map_nil, List.append_nil, List.getElem?_toArray, Option.bind_some, List.take_succ_cons, List.drop_zero, Bool.true_and, Bool.or_true, Bool.not_true, true_and, ne_eq, not_false_eq_true, reduceCtorEq, Nat.reduceAdd, Nat.reduceEqDiff, Nat.zero_add, List.isEmpty_nil, Option.isSome_some, Nat.le_refl, List.take_nil, Ty.td22, Ty.td28, Ty.td50, List.length_map]
  refine call_meets (c2) (by simp only [aev, cv, cvc, toD_c, toD_agg, toD_sl, consO_some, toDL_nil, toDL_cons, Option.map_some]) ?_; simp only [awp_skip, awp_reg, awp_seq, awp_cond, seqQ_n, awpOps_nil, awpOps_one, awpOps_if, awpOp_is, isCallV, callW_is, callV_is, awpO_is, putK_is, updK_is, put_s, upd_s, slot_is, pureOp, apureO, astepO, killT, aev, cv, cvc, elO_s, loadA_p, yieldA, guardA_ff, condA_f, pickA_f, flat_c, ownsV_c, ownsV_agg, ownsV_sl, ownsL_nil, ownsL_cons, Bool.false_eq_true, ↓reduceIte, List.getElem?_cons_zero, List.getElem?_cons_succ, List.length_cons, List.length_nil, List.map_cons, List.map_nil, List.cons_append, List.nil_append, List.append_nil, List.getElem?_toArray, Option.bind_some, List.take_succ_cons, List.drop_zero, List.all_cons, List.all_nil, Bool.true_and, Bool.and_self, Bool.or_true, Bool.not_true, Value.oneCell', true_and, and_self, Nat.reduceAdd, Nat.reduceEqDiff, Nat.zero_add, List.isEmpty_nil, Nat.le_refl, List.take_nil, Ty.td22, Ty.td28]
  refine call_meets (c3) (by simp only [aev, cv, cvc, toD_c, toD_agg, toD_sl, consO_some, toDL_nil, toDL_cons, Option.map_some]) ?_; simp only [awp_range, awp_block, seqQ_n, awpOps_nil, upd_s, killT, aev, cv, cvc, flat_fn, ownsV_c, ownsV_agg, ownsV_sl, ownsL_nil, ownsL_cons, ↓reduceIte, List.append_nil, Bool.or_true, List.isEmpty_nil]
  refine range_inl (X := false) Ty.mixed rfl Try.func68 (by kernel_rfl) rfl (by kernel_rfl) (by rw [Try.results68]) (by simp) (by kernel_rfl) (by kernel_rfl) (by kernel_rfl) (by kernel_rfl) (by simp) ?_; intro l; rw [Try.ntmps68]; simp only [awp_reg, awp_seq, awpOps_one, awpOp_is, isCallV, callW_is, callV_is, shiftT, putK_is, put_s, slot_is, pureOp, apureO, aev, cv, cvc, elO_s, loadA_d, argT, Bool.false_eq_true, ↓reduceIte, List.getElem?_cons_zero, List.getElem?_cons_succ, List.map_cons, List.map_nil, List.cons_append, List.nil_append, List.append_nil, List.drop_succ_cons, List.drop_zero, Bool.true_and, true_and, ne_eq, not_false_eq_true, reduceCtorEq, Nat.reduceAdd, Nat.zero_add, Nat.add_zero, Ty.td22, Ty.td28]
  refine call_meets (hz) (by simp only [aev, cv, cvc, toD_sl, consO_some, toDL_nil, toDL_cons]) ?_; simp only [awp_reg, awp_seq, awp_block, awp_loop, seqQ_n, awpOps_nil, awpOps_one, awpOp_is, putK_is, put_s, upd_s, slot_is, pureOp, apureO, killT, aev, cv, cvc, elO_s, flat_c, flat_tup, flatL_nil, flatL_cons, ownsV_sl, ownsL_nil, ownsL_cons, ↓reduceIte, List.getElem?_cons_zero, List.getElem?_cons_succ, List.append_nil, Bool.and_self, Bool.or_true, and_self, Nat.reduceEqDiff, List.isEmpty_nil]
  refine loop_g (fun k : Nat => k ≤ n) (fun k => ⟨32, [(15, I k), (14, I n), (0, .c (.func (.yield l) #[] #[])), (1, .dptr [I o, ints ds, ints ss]), (34, .ptr 0 0), (35, .ptr 1 0), (36, .ptr 2 0), (37, I 0), (38, .ptr 3 0)], cpH e dz xs o ds ss k⟩) (fun k => n - k) 0 (Nat.zero_le _) (by simp only [slot_is, aev, cv, cvc, Weak, ↓reduceIte, Bool.and_true, Bool.and_self, and_true, and_self, reduceCtorEq, Nat.reduceEqDiff]; simp) rfl (.inl rfl) ?_
  intro k hk' K hK
  simp only at hK
  simp only [awp_reg, awp_seq, awp_cond, seqQ_n, awpOps_nil, awpOps_one, awpOp_is, putK_is, put_s, slot_is, pureOp, apureO, aev, cv, cvc, binK, ↓reduceIte, Bool.true_and, true_and, Nat.reduceEqDiff]
  refine condA_dec (fun hlt => ?_) (fun hge => ?_)
  · have hlt' : k + 1 ≤ n := by omega
    have hi := index ds (k : Int) hd
    rw [index_in hn hlt] at hi
    have hat := vat o ds ss (idxR ds (k : Int)).1 (by rw [idxR_len]; exact hd) (by rw [idxR_len]; omega)
    obtain ⟨q, hq, hqn⟩ := off_in' (k := k) (by omega) hk hn (by omega)
    have hqn : q < xs.length := by omega
    have hxq : xs[q]? = some xs[q] := List.getElem?_eq_getElem hqn
    have hstep := offs_step o ds ss k
    rw [hq] at hat hstep
    have gs : gat xs (offs o ds ss (k + 1)) = gat xs (offs o ds ss k) ++ [xs[q]] := by rw [hstep]; exact gat_step xs _ q _ hxq
    generalize xs[q] = x at *
    generalize (idxR ds (k : Int)).1 = ix at *
    have hk1 : IntKind.i64.wrap ((k : Int) + 1) = (k : Int) + 1 := wrap_in (by omega) (by omega)
    have hlen : (gat xs (offs o ds ss k)).length = k := by rw [gat_len, offs_len]
    cases k with
    | zero =>
      have hx1 : gat xs (offs o ds ss 1) = [x] := by rw [gs]; rfl
      simp only [awp_skip, awp_reg, awp_seq, awp_block, seqQ_n, awpOps_nil, awpOps_one, awpOp_is, isCallV, callW_is, callV_is, putK_is, put_s, slot_is, pureOp, apureO, aev, cv, cvc, elO_s, loadA_d, Bool.false_eq_true, ↓reduceIte, List.getElem?_cons_zero, List.getElem?_cons_succ, List.map_cons, List.map_nil, List.append_nil, List.drop_succ_cons, List.drop_zero, Bool.true_and, true_and, ne_eq, not_false_eq_true, reduceCtorEq, Nat.reduceEqDiff, Ty.td22, Ty.td28, cpH]
      refine call_meets (hi) (by simp only [aev, cv, cvc, toD_c, toD_sl, consO_some, toDL_nil, toDL_cons]) ?_; simp only [awp_reg, awp_seq, seqQ_n, awpOps_nil, awpOps_one, awpOp_is, isCallV, callW_is, callV_is, putK_is, put_s, upd_s, slot_is, pureOp, apureO, killT, aev, cv, cvc, elO_s, loadA_d, flat_c, flat_tup, flat_sl, flatL_nil, flatL_cons, ownsV_c, ownsV_sl, ownsL_nil, ownsL_cons, Bool.false_eq_true, ↓reduceIte, List.getElem?_cons_zero, List.getElem?_cons_succ, List.length_cons, List.length_nil, List.map_cons, List.map_nil, List.append_nil, List.take_succ_cons, Bool.and_true, Bool.true_and, Bool.and_self, Bool.or_true, true_and, and_true, and_self, reduceCtorEq, Nat.reduceAdd, Nat.reduceEqDiff, Nat.zero_add, List.isEmpty_nil, Nat.le_refl, List.take_nil, Ty.td28]
      refine call_meets (hat) (by simp only [aev, cv, cvc, toD_c, toD_agg, toD_sl, consO_some, toDL_nil, toDL_cons, Option.map_some]) ?_; simp only [callV_yield, bodyY_is, zipT, lowT, awp_reg, awp_regD, awp_block, seqQ_n, awpOps_nil, awpOps_one, awpOp_is, isCallV, callW_is, shiftT, unshift, lastOnly_cons, putK_is, put_s, upd_s, slot_is, keepOp, pureOp, apureO, killT, aev, cv, cvc, flat_c, ownsV_c, ownsV_agg, ownsV_sl, ownsL_nil, ownsL_cons, Bool.false_eq_true, ↓reduceIte, List.length_cons, List.length_nil, List.map_cons, List.map_nil, List.cons_append, List.nil_append, List.append_nil, Bool.true_and, Bool.or_true, true_and, Nat.reduceAdd, Nat.reduceLT, Nat.reduceLeDiff, Nat.reduceEqDiff, Nat.reduceSub, Nat.zero_add, Nat.add_zero, List.isEmpty_nil, List.isEmpty_cons, List.size_toArray]
      refine drawS_wild ?_; simp (config := {maxSteps := 2000000}) only [roundQ_is, awp_skip, awp_reg, awp_cond, seqQ_n, loopQ_n, blkQ_n, awpOps_nil, awpOps_one, awpOp_is, isCallV, unshift, putK_is, put_s, slot_is, slot.eq_1, pureOp, apureO, astepO, bsEnd_is, appA_own, appV, killT, killB, aev, cv, cvc, binK, elO_s, loadA_d, loadA_p, storeA, cellsA, cellOk, setAll, fillA, condA_f, elemsA, elemsN, chunk, isD_c, isDL_nil, isDL_cons, killV_c, killV_nils, killV_sl, killL_nil, killL_cons, Int.natCast_nonneg, Bool.false_eq_true, ↓reduceIte, List.getElem?_cons_zero, List.getElem?_cons_succ, List.length_cons, List.length_nil, List.map_cons, List.map_nil, List.cons_append, List.nil_append, List.append_nil, List.set_cons_zero, List.set_cons_succ, Option.map_some, Option.getD_some, List.take_succ_cons, List.drop_succ_cons, List.drop_zero, List.all_cons, List.all_nil, Bool.and_true, Bool.true_and, Bool.and_self, Bool.or_true, Bool.false_or, Bool.or_false, Bool.not_true, Value.oneCell', true_and, and_true, and_self, ne_eq, not_false_eq_true, reduceCtorEq, Nat.reduceAdd, Nat.reduceMul, Nat.reduceLT, Nat.reduceLeDiff, Nat.reduceEqDiff, Nat.reduceSub, Nat.reduceMod, Nat.zero_add, List.mem_cons, List.not_mem_nil, or_false, false_or, Int.toNat_natCast, List.range_succ, List.range_zero, decide_true, decide_false, List.zipIdx_cons, List.zipIdx_nil, Nat.le_refl, List.drop_nil, List.take_nil, List.any_cons, List.any_nil, awpW_nil, awpW_one, wRun_is, wOp_is, keepK_is, stepK_is, contW_is, nextW_n, nextW_s, confs_nil, confs_cons, conf_is, meet_nil, meet_cons, opV_move, opV_load, opV_fieldAddr, opV_store, opV_indexAddr, opV_buildSlice, opV_builtin, tch_move, tch_load, tch_fieldAddr, tch_indexAddr, tch_buildSlice, tch_store, tch_app, rd_move, rd_load, rd_fieldAddr, rd_indexAddr, rd_buildSlice, rd_store, rd_app, namesV_c, namesV_nils, namesV_junk, namesV_sl, namesV_dptr, namesV_ptr, namesV_own, namesV_agg, namesL_nil, namesL_cons, namesH_nil, namesH_cons, namesB_var, namesB_row, namesB_none, killO_s, allLt_is, allIn_is, maskH_is, mergeH_is, setH_is, newL_is, refsT, refsH, refsV, refsL, Bool.or_self, Nat.reduceBEq, Ty.td3, Ty.td22, Ty.td50, List.getElem?_map, hxq, Int.toNat_natCast, List.length_map, show ((0 : Nat) : Int) + 1 = 1 by omega, wrap_in (x := (1 : Int)) (by omega) (by omega)]
      repeat refine ⟨by omega, ?_⟩
      refine ⟨by kernel_rfl, ?_⟩
      refine hK 1 _ hlt' (by omega) ?_ rfl (.weak (by simp [cpH]) (by simp [WeakH, cpH, hx1]) rfl rfl)
      simp only [slot_is, aev, cv, cvc, Weak, ↓reduceIte, Bool.and_true, Bool.and_self, and_true, and_self, reduceCtorEq, Nat.reduceEqDiff]; simp
    | succ k =>
      have hbt : List.take (k + 1) (List.map enc (gat xs (offs o ds ss (k + 1)))) = List.map enc (gat xs (offs o ds ss (k + 1))) := List.take_of_length_le (by simp [hlen])
      simp only [awp_skip, awp_reg, awp_seq, awp_block, seqQ_n, awpOps_nil, awpOps_one, awpOp_is, isCallV, callW_is, callV_is, putK_is, put_s, slot_is, pureOp, apureO, aev, cv, cvc, elO_s, loadA_d, Bool.false_eq_true, ↓reduceIte, List.getElem?_cons_zero, List.getElem?_cons_succ, List.map_cons, List.map_nil, List.append_nil, List.drop_succ_cons, List.drop_zero, Bool.true_and, true_and, ne_eq, not_false_eq_true, reduceCtorEq, Nat.reduceEqDiff, Ty.td22, Ty.td28, cpH]
      refine call_meets (hi) (by simp only [aev, cv, cvc, toD_c, toD_sl, consO_some, toDL_nil, toDL_cons]) ?_; simp only [awp_reg, awp_seq, seqQ_n, awpOps_nil, awpOps_one, awpOp_is, isCallV, callW_is, callV_is, putK_is, put_s, upd_s, slot_is, pureOp, apureO, killT, aev, cv, cvc, elO_s, loadA_d, flat_c, flat_tup, flat_sl, flatL_nil, flatL_cons, ownsV_c, ownsV_sl, ownsL_nil, ownsL_cons, Bool.false_eq_true, ↓reduceIte, List.getElem?_cons_zero, List.getElem?_cons_succ, List.length_cons, List.length_nil, List.map_cons, List.map_nil, List.append_nil, List.take_succ_cons, Bool.and_true, Bool.true_and, Bool.and_self, Bool.or_true, true_and, and_true, and_self, reduceCtorEq, Nat.reduceAdd, Nat.reduceEqDiff, Nat.zero_add, List.isEmpty_nil, Nat.le_refl, List.take_nil, Ty.td28]
      refine call_meets (hat) (by simp only [aev, cv, cvc, toD_c, toD_agg, toD_sl, consO_some, toDL_nil, toDL_cons, Option.map_some]) ?_; simp only [callV_yield, bodyY_is, zipT, lowT, awp_reg, awp_regD, awp_block, seqQ_n, awpOps_nil, awpOps_one, awpOp_is, isCallV, callW_is, shiftT, unshift, lastOnly_cons, putK_is, put_s, upd_s, slot_is, keepOp, pureOp, apureO, killT, aev, cv, cvc, flat_c, ownsV_c, ownsV_agg, ownsV_sl, ownsL_nil, ownsL_cons, Bool.false_eq_true, ↓reduceIte, List.length_cons, List.length_nil, List.map_cons, List.map_nil, List.cons_append, List.nil_append, List.append_nil, Bool.true_and, Bool.or_true, true_and, Nat.reduceAdd, Nat.reduceLT, Nat.reduceLeDiff, Nat.reduceEqDiff, Nat.reduceSub, Nat.zero_add, Nat.add_zero, List.isEmpty_nil, List.isEmpty_cons, List.size_toArray]
      refine drawS_wild ?_; simp (config := {maxSteps := 2000000}) only [roundQ_is, awp_skip, awp_reg, awp_cond, seqQ_n, loopQ_n, blkQ_n, awpOps_nil, awpOps_one, awpOp_is, isCallV, unshift, putK_is, put_s, slot_is, slot.eq_1, pureOp, apureO, astepO, bsEnd_is, appA_own, appV, killT, killB, killH, aev, cv, cvc, binK, elO_s, loadA_d, loadA_p, storeA, cellsA, cellOk, setAll, fillA, condA_f, elemsA, elemsN, rowE, chunk, isD_c, isDL_nil, isDL_cons, killV_c, killV_nils, killV_tup, killV_agg, killV_sl, killV_own, killV_dptr, killV_ptr, killL_nil, killL_cons, Int.natCast_nonneg, Bool.false_eq_true, ↓reduceIte, List.getElem?_cons_zero, List.getElem?_cons_succ, List.length_cons, List.length_nil, List.map_cons, List.map_nil, List.cons_append, List.nil_append, List.append_nil, List.set_cons_zero, List.set_cons_succ, Option.map_some, Option.map_none, Option.getD_some, List.take_succ_cons, List.drop_succ_cons, List.drop_zero, List.all_cons, List.all_nil, Bool.and_true, Bool.true_and, Bool.and_self, Bool.or_true, Bool.false_or, Bool.or_false, Bool.not_true, Value.oneCell', true_and, and_true, and_self, ne_eq, not_false_eq_true, reduceCtorEq, Nat.reduceAdd, Nat.reduceMul, Nat.reduceLT, Nat.reduceLeDiff, Nat.reduceEqDiff, Nat.reduceSub, Nat.reduceMod, Nat.zero_add, List.mem_cons, List.not_mem_nil, or_false, false_or, Int.toNat_natCast, List.range_succ, List.range_zero, decide_true, decide_false, List.zipIdx_cons, List.zipIdx_nil, Nat.le_refl, List.drop_nil, List.take_nil, List.any_cons, List.any_nil, List.getElem?_nil, awpW_nil, awpW_one, wRun_is, wOp_is, keepK_is, stepK_is, contW_is, nextW_n, nextW_s, confs_nil, confs_cons, conf_is, meet_nil, meet_cons, opV_move, opV_load, opV_fieldAddr, opV_store, opV_indexAddr, opV_buildSlice, opV_builtin, tch_move, tch_load, tch_fieldAddr, tch_indexAddr, tch_buildSlice, tch_store, tch_app, rd_move, rd_load, rd_fieldAddr, rd_indexAddr, rd_buildSlice, rd_store, rd_app, namesV_c, namesV_junk, namesV_sl, namesV_dptr, namesV_ptr, namesV_own, namesV_agg, namesL_nil, namesL_cons, namesH_nil, namesH_cons, namesB_var, namesB_row, namesB_none, killO_s, killO_n, allLt_is, allIn_is, maskH_is, mergeH_is, setH_is, newL_is, refsT, refsH, refsV, refsL, Bool.or_self, Nat.reduceBEq, List.getElem?_nil, Ty.td3, Ty.td22, Ty.td50, List.getElem?_map, hxq, Int.toNat_natCast, hbt, List.length_map, hlen, hk1]
      repeat refine ⟨by omega, ?_⟩
      refine ⟨by kernel_rfl, ?_⟩
      refine hK (k + 1 + 1) _ hlt' (by omega) ?_ rfl (.weak (by simp [cpH]) (by simp [WeakH, cpH, gs]) rfl rfl)
      simp only [slot_is, aev, cv, cvc, Weak, ↓reduceIte, Bool.and_true, Bool.and_self, and_true, and_self, reduceCtorEq, Nat.reduceEqDiff]; simp
  · have hk' : k = n := by omega
    subst hk'
    have hlen : (gat xs (offs o ds ss k)).length = k := by rw [gat_len, offs_len]
    cases k with
    | zero =>
      have c5 := Meets.nil (pre := [S e, ints ds]) (post := []) c4
      simp only [rangeQ_is, awp_reg, awp_seq, awp_exit, seqQ_n, seqQ_e, loopQ_e, blkQ_n, blkQ_e, awpOps_one, awpOp_is, isCallV, callW_is, callV_is, unshift, putK_is, put_s, slot_is, pureOp, apureO, aev, cv, cvc, elO_s, loadA_p, notExit, Bool.false_eq_true, ↓reduceIte, List.getElem?_cons_zero, List.getElem?_cons_succ, List.length_cons, List.length_nil, List.map_cons, List.map_nil, List.append_nil, List.drop_zero, Bool.true_and, true_and, ne_eq, not_false_eq_true, reduceCtorEq, Nat.reduceAdd, Nat.reduceLeDiff, Nat.reduceEqDiff, Nat.reduceSub, Nat.zero_add, Ty.td9, Ty.td22, Ty.td28, Ty.td50, cpH]
      refine call_meets (c5) (by simp only [aev, cv, cvc, toD_c, toD_nils, toD_sl, consO_some, toDL_nil, toDL_cons, List.cons_append, List.nil_append]) ?_; simp only [awp_ret, seqQ_n, awpOps_nil, awpOps_one, awpOp_is, isCallV, putK_is, updK_is, put_s, upd_n, upd_s, slot_is, retA_is, pureOp, apureO, astepO, killT, aev, cv, cvc, elO_s, loadA_p, storeA, cellsA, cellOk, setAll, flat_c, flat_tup, flat_agg, flat_sl, flatL_nil, flatL_cons, ownsV_c, ownsV_nils, ownsV_sl, ownsL_nil, ownsL_cons, toD_c, toD_tup, toD_agg, toD_sl, consO_some, toDL_nil, toDL_cons, notExit, resA_nil, resA_tmp, resA_cell, oneA_2, Bool.false_eq_true, ↓reduceIte, List.getElem?_cons_zero, List.getElem?_cons_succ, List.length_cons, List.length_nil, List.append_nil, List.set_cons_zero, List.set_cons_succ, Option.map_some, List.take_succ_cons, List.drop_zero, Bool.and_true, Bool.true_and, Bool.and_false, Bool.and_self, Bool.or_true, true_and, and_true, and_self, Nat.reduceAdd, Nat.reduceEqDiff, Nat.zero_add, List.isEmpty_nil, Nat.le_refl, List.take_nil, Ty.td50]
    | succ k =>
      have hbt : List.take (k + 1) (List.map enc (gat xs (offs o ds ss (k + 1)))) = List.map enc (gat xs (offs o ds ss (k + 1))) := List.take_of_length_le (by simp [hlen])
      simp only [rangeQ_is, awp_reg, awp_seq, awp_exit, seqQ_n, seqQ_e, loopQ_e, blkQ_n, blkQ_e, awpOps_one, awpOp_is, isCallV, callW_is, callV_is, unshift, putK_is, put_s, slot_is, pureOp, apureO, aev, cv, cvc, elO_s, loadA_p, notExit, Bool.false_eq_true, ↓reduceIte, List.getElem?_cons_zero, List.getElem?_cons_succ, List.length_cons, List.length_nil, List.map_cons, List.map_nil, List.append_nil, List.drop_zero, Bool.true_and, true_and, ne_eq, not_false_eq_true, reduceCtorEq, Nat.reduceAdd, Nat.reduceLeDiff, Nat.reduceEqDiff, Nat.reduceSub, Nat.zero_add, Ty.td9, Ty.td22, Ty.td28, Ty.td50, cpH]
      refine call_meets (c4) (by simp only [aev, cv, cvc, elemsA, toD_c, toD_sl, toD_own, consO_some, toDL_nil, toDL_cons, ↓reduceIte, List.getElem?_cons_zero, List.getElem?_cons_succ, Option.map_some, Bool.and_self, and_self, Nat.le_refl, hbt, List.length_map, hlen]) ?_; simp only [awp_ret, seqQ_n, awpOps_nil, awpOps_one, awpOp_is, isCallV, putK_is, updK_is, put_s, upd_n, upd_s, slot_is, retA_is, pureOp, apureO, astepO, killT, killB, killH, aev, cv, cvc, elO_s, loadA_p, storeA, cellsA, cellOk, setAll, elemsA, dropL, flat_c, flat_tup, flat_agg, flat_sl, flatL_nil, flatL_cons, ownsV_c, ownsV_sl, ownsV_own, ownsL_nil, ownsL_cons, toD_c, toD_tup, toD_agg, toD_sl, consO_some, toDL_nil, toDL_cons, killV_c, killV_nils, killV_sl, killV_own, killV_ptr, killL_nil, killL_cons, notExit, resA_nil, resA_tmp, resA_cell, oneA_2, Bool.false_eq_true, ↓reduceIte, List.getElem?_cons_zero, List.getElem?_cons_succ, List.length_cons, List.length_nil, List.map_cons, List.map_nil, List.nil_append, List.append_nil, List.set_cons_zero, List.set_cons_succ, Option.map_some, Option.map_none, List.take_succ_cons, List.drop_zero, Bool.and_true, Bool.true_and, Bool.and_false, Bool.and_self, Bool.or_false, true_and, and_true, and_self, reduceCtorEq, Nat.reduceAdd, Nat.reduceEqDiff, Nat.zero_add, List.isEmpty_cons, List.mem_cons, List.not_mem_nil, or_false, List.zipIdx_cons, List.zipIdx_nil, Nat.le_refl, List.take_nil, Ty.td50, hbt, List.length_map, hlen]

def rcV : Nat → AV
  | 0 => .nils
  | k + 1 => .own 4 1 (k + 1)
def rcH : Nat → Heap
  | 0 => [some (.var 50 [S e, ints dz, ints xs]), some (.var 24 [I o, ints ds, ints ss]), some (.var 50 [S ⟨#[]⟩, .nils, .nils])]
  | k + 1 => [some (.var 50 [S e, ints dz, ints xs]), some (.var 24 [I o, ints ds, ints ss]), some (.var 50 [S ⟨#[]⟩, .nils, .nils]), none, some (.row 3 1 ((gat xs (offs o ds ss (k + 1))).map enc))]

theorem ref_ok (hc : checkE e dz xs = 0) (hv : rvE xs.length o ds ss = true) (hk : vOk xs.length o ds ss) : Meets Try.prog 25 [arr e dz xs, vw o ds ss] (ofE e ds (gat xs (offsE o ds ss))) := by
  have c1 := refValid e dz xs hdz hx
  have c2 := rvalid xs.length o ds ss hd hs
  have c3 := refOffsets o ds ss hd hs
  rw [hv] at c2
  rw [hc, beq_self_eq_true] at c1
  obtain ⟨hl, n, hn⟩ := formed_ok hk.1
  have hnb : n ≤ 4096 := by have := sizeE_bound ds; rw [hn] at this; simp only at this; omega
  unfold offsE at c3 ⊢
  rw [if_pos hk.1, hn, Int.toNat_natCast] at c3 ⊢
  have c4 := refOf e ds (gat xs (offs o ds ss n)) hd (by rw [gat_len, offs_len]; omega)
  obtain ⟨e', d', x', z, hres, -, -⟩ := ofE_form e ds (gat xs (offs o ds ss n)) hd (by rw [gat_len, offs_len]; omega)
  rw [hres] at c4 ⊢
  have hL := offs_len o ds ss n
  have hLx : ∀ k, k < n → (offs o ds ss n)[k]? = some (dot (idxR ds (k : Int)).1 ss o) := fun k hk => by simp [offs, hk]
  refine meets_of (X := true) Ty.mixed Try.func25 (by kernel_rfl) rfl (by kernel_rfl) (by simp) ?_; rw [Try.ntmps25, Try.results25]
  simp only [awp_reg, awp_seq, seqQ_n, awpOps_nil, awpOps_one, awpOp_is, isCallV, callW_is, callV_is, putK_is, updK_is, put_s, upd_s, slot_is, pureOp, apureO, astepO, killT, aev, cv, cvc, elO_s, loadA_p, cellsA, cellOk, argT, Bool.false_eq_true, ↓reduceIte, List.getElem?_cons_zero, List.length_cons, List.length_nil, List.map_cons, List.map_nil, List.cons_append, List.nil_append, List.append_nil, List.take_succ_cons, List.drop_zero, List.all_cons, List.all_nil, Bool.true_and, Bool.and_self, Value.oneCell', true_and, and_self, reduceCtorEq, Nat.reduceAdd, Nat.reduceEqDiff, Nat.zero_add, Nat.le_refl, List.take_nil, Ty.td50]
  refine call_meets (c1) (by simp only [aev, cv, cvc, toD_c, toD_agg, toD_sl, consO_some, toDL_nil, toDL_cons, Option.map_some]) ?_; simp only [awpOps_one, awpOps_if, awpOp_is, isCallV, callW_is, callV_is, awpO_is, putK_is, put_s, upd_s, slot_is, pureOp, apureO, killT, aev, cv, cvc, elO_s, elO_none, lenA, lenK, loadA_p, yieldA, guardA_ff, flat_c, ownsV_c, ownsV_agg, ownsV_sl, ownsL_nil, ownsL_cons, Bool.false_eq_true, ↓reduceIte, List.getElem?_cons_zero, List.getElem?_cons_succ, List.length_cons, List.length_nil, List.map_cons, List.map_nil, List.append_nil, List.getElem?_toArray, Option.bind_some, List.take_succ_cons, List.drop_zero, Bool.true_and, Bool.or_true, Bool.not_true, true_and, ne_eq, not_false_eq_true, reduceCtorEq, Nat.reduceAdd, Nat.reduceEqDiff, Nat.zero_add, List.isEmpty_nil, Option.isSome_some, Nat.le_refl, List.take_nil, Ty.td22, Ty.td24, Ty.td50, List.length_map]
  refine call_meets (c2) (by simp only [aev, cv, cvc, toD_c, toD_agg, toD_sl, consO_some, toDL_nil, toDL_cons, Option.map_some]) ?_; simp only [awp_skip, awp_reg, awp_seq, awp_cond, seqQ_n, awpOps_nil, awpOps_one, awpOps_if, awpOp_is, isCallV, callW_is, callV_is, awpO_is, putK_is, put_s, upd_s, slot_is, pureOp, apureO, killT, aev, cv, cvc, elO_s, loadA_p, yieldA, guardA_ff, condA_f, pickA_f, flat_c, ownsV_c, ownsV_agg, ownsV_sl, ownsL_nil, ownsL_cons, Bool.false_eq_true, ↓reduceIte, List.getElem?_cons_zero, List.getElem?_cons_succ, List.length_cons, List.length_nil, List.map_cons, List.map_nil, List.append_nil, List.getElem?_toArray, Option.bind_some, List.take_succ_cons, List.drop_zero, Bool.true_and, Bool.or_true, Bool.not_true, true_and, Nat.reduceAdd, Nat.reduceEqDiff, Nat.zero_add, List.isEmpty_nil, Nat.le_refl, List.take_nil, Ty.td24]
  refine call_meets (c3) (by simp only [aev, cv, cvc, toD_c, toD_agg, toD_sl, consO_some, toDL_nil, toDL_cons, Option.map_some]) ?_; simp only [awp_reg, awp_seq, awp_block, awp_loop, seqQ_n, awpOps_nil, awpOps_one, awpOp_is, putK_is, put_s, upd_s, slot_is, pureOp, apureO, killT, aev, cv, cvc, flat_sl, ownsV_c, ownsV_agg, ownsV_sl, ownsL_nil, ownsL_cons, ↓reduceIte, List.append_nil, Bool.or_true, List.isEmpty_nil]
  refine loop_g (fun k : Nat => k ≤ n) (fun k => ⟨48, [(8, I k), (7, rcV k), (6, ints (offs o ds ss n)), (2, .ptr 0 0), (3, .ptr 1 0), (4, .ptr 2 0), (5, I 0)], rcH e dz xs o ds ss k⟩) (fun k => n - k) 0 (Nat.zero_le _) (by simp only [slot_is, aev, cv, cvc, Weak, ↓reduceIte, Bool.and_true, Bool.and_self, and_true, and_self, Nat.reduceEqDiff, rcV]; simp) rfl (.inl rfl) ?_
  intro k hk' K hK
  simp only at hK
  simp only [awp_reg, awp_seq, awp_cond, seqQ_n, awpOps_nil, awpOps_one, awpOp_is, putK_is, put_s, slot_is, pureOp, apureO, aev, cv, cvc, binK, elO_s, lenA, lenK, ↓reduceIte, Bool.true_and, true_and, Nat.reduceEqDiff, Option.isSome_some, Ty.td22, List.length_map, hL]
  refine condA_dec (fun hlt => ?_) (fun hge => ?_)
  · have hlt' : k + 1 ≤ n := by omega
    obtain ⟨q, hq, hqn⟩ := off_in' (k := k) (by omega) hk hn (by omega)
    have hqn : q < xs.length := by omega
    have hxq : xs[q]? = some xs[q] := List.getElem?_eq_getElem hqn
    have hstep := offs_step o ds ss k
    have hLk := hLx k (by omega)
    rw [hq] at hLk hstep
    have gs : gat xs (offs o ds ss (k + 1)) = gat xs (offs o ds ss k) ++ [xs[q]] := by rw [hstep]; exact gat_step xs _ q _ hxq
    generalize xs[q] = x at *
    have hk1 : IntKind.i64.wrap ((k : Int) + 1) = (k : Int) + 1 := wrap_in (by omega) (by omega)
    have hlen : (gat xs (offs o ds ss k)).length = k := by rw [gat_len, offs_len]
    cases k with
    | zero =>
      have hx1 : gat xs (offs o ds ss 1) = [x] := by rw [gs]; rfl
      simp only [awp_regX, awp_skip, awp_seq, awp_block, seqQ_n, aev, cv, cvc, rcH, rcV]
      refine drawS_wild ?_; simp (config := {maxSteps := 2000000}) only [awp_reg, seqQ_n, loopQ_n, blkQ_n, awpOps_nil, awpOps_one, awpOp_is, isCallV, putK_is, put_s, slot_is, slot.eq_1, pureOp, apureO, astepO, bsEnd_is, appA_own, appV, killT, killB, aev, cv, cvc, binK, elO_s, loadA_d, loadA_p, cellsA, cellOk, setAll, fillA, elemsA, elemsN, chunk, isD_c, isDL_nil, isDL_cons, killV_c, killV_nils, killV_sl, killL_nil, killL_cons, Int.natCast_nonneg, Bool.false_eq_true, ↓reduceIte, List.getElem?_cons_zero, List.getElem?_cons_succ, List.length_cons, List.length_nil, List.map_cons, List.map_nil, List.cons_append, List.nil_append, List.append_nil, List.set_cons_zero, Option.map_some, Option.getD_some, List.take_succ_cons, List.drop_succ_cons, List.drop_zero, List.all_cons, List.all_nil, Bool.and_true, Bool.true_and, Bool.and_self, Bool.or_true, Bool.false_or, Bool.or_false, Value.oneCell', true_and, and_true, and_self, ne_eq, not_false_eq_true, reduceCtorEq, Nat.reduceAdd, Nat.reduceMul, Nat.reduceLT, Nat.reduceLeDiff, Nat.reduceEqDiff, Nat.reduceMod, Nat.zero_add, List.mem_cons, List.not_mem_nil, or_false, false_or, Int.toNat_natCast, List.range_succ, List.range_zero, decide_true, decide_false, List.zipIdx_cons, List.zipIdx_nil, Nat.le_refl, List.drop_nil, List.take_nil, List.any_cons, List.any_nil, awpW_nil, awpW_one, wRun_is, wOp_is, keepK_is, stepK_is, contW_is, nextW_s, confs_nil, confs_cons, conf_is, meet_nil, meet_cons, opV_move, opV_assign, opV_load, opV_fieldAddr, opV_indexAddr, opV_buildSlice, opV_builtin, tch_move, tch_assign, tch_load, tch_fieldAddr, tch_indexAddr, tch_buildSlice, tch_app, rd_move, rd_assign, rd_load, rd_fieldAddr, rd_indexAddr, rd_buildSlice, rd_app, namesV_c, namesV_nils, namesV_sl, namesV_dptr, namesV_ptr, namesV_own, namesV_agg, namesL_nil, namesL_cons, namesH_nil, namesH_cons, namesB_var, namesB_row, namesB_none, killO_s, allLt_is, allIn_is, maskH_is, mergeH_is, setH_is, newL_is, refsT, refsH, refsV, refsL, Bool.or_self, Nat.reduceBEq, Ty.td3, Ty.td22, Ty.td50, List.getElem?_map, hLk, hxq, Int.toNat_natCast, List.length_map, show ((0 : Nat) : Int) + 1 = 1 by omega, wrap_in (x := (1 : Int)) (by omega) (by omega)]
      repeat refine ⟨by omega, ?_⟩
      refine ⟨by kernel_rfl, ?_⟩
      refine hK 1 _ hlt' (by omega) ?_ rfl (.weak (by simp [rcH]) (by simp [WeakH, rcH, hx1]) rfl rfl)
      simp only [slot_is, aev, cv, cvc, Weak, ↓reduceIte, Bool.and_true, Bool.and_self, and_true, and_self, Nat.reduceEqDiff, Nat.zero_add, rcV]; simp
    | succ k =>
      have hbt : List.take (k + 1) (List.map enc (gat xs (offs o ds ss (k + 1)))) = List.map enc (gat xs (offs o ds ss (k + 1))) := List.take_of_length_le (by simp [hlen])
      simp only [awp_regX, awp_skip, awp_seq, awp_block, seqQ_n, aev, cv, cvc, rcH, rcV]
      refine drawS_wild ?_; simp (config := {maxSteps := 2000000}) only [awp_reg, seqQ_n, loopQ_n, blkQ_n, awpOps_nil, awpOps_one, awpOp_is, isCallV, putK_is, put_s, slot_is, slot.eq_1, pureOp, apureO, astepO, bsEnd_is, appA_own, appV, killT, killB, killH, aev, cv, cvc, binK, elO_s, loadA_d, loadA_p, cellsA, cellOk, setAll, fillA, elemsA, elemsN, rowE, chunk, isD_c, isDL_nil, isDL_cons, killV_c, killV_nils, killV_sl, killV_own, killV_dptr, killV_ptr, killL_nil, killL_cons, Int.natCast_nonneg, Bool.false_eq_true, ↓reduceIte, List.getElem?_cons_zero, List.getElem?_cons_succ, List.length_cons, List.length_nil, List.map_cons, List.map_nil, List.cons_append, List.nil_append, List.append_nil, List.set_cons_zero, List.set_cons_succ, Option.map_some, Option.map_none, Option.getD_some, List.take_succ_cons, List.drop_succ_cons, List.drop_zero, List.all_cons, List.all_nil, Bool.and_true, Bool.true_and, Bool.and_self, Bool.or_true, Bool.false_or, Bool.or_false, Value.oneCell', true_and, and_true, and_self, ne_eq, not_false_eq_true, reduceCtorEq, Nat.reduceAdd, Nat.reduceMul, Nat.reduceLT, Nat.reduceLeDiff, Nat.reduceEqDiff, Nat.reduceMod, Nat.zero_add, List.mem_cons, List.not_mem_nil, or_false, false_or, Int.toNat_natCast, List.range_succ, List.range_zero, decide_true, decide_false, List.zipIdx_cons, List.zipIdx_nil, Nat.le_refl, List.drop_nil, List.take_nil, List.any_cons, List.any_nil, List.getElem?_nil, awpW_nil, awpW_one, wRun_is, wOp_is, keepK_is, stepK_is, contW_is, nextW_s, confs_nil, confs_cons, conf_is, meet_nil, meet_cons, opV_move, opV_assign, opV_load, opV_fieldAddr, opV_indexAddr, opV_buildSlice, opV_builtin, tch_move, tch_assign, tch_load, tch_fieldAddr, tch_indexAddr, tch_buildSlice, tch_app, rd_move, rd_assign, rd_load, rd_fieldAddr, rd_indexAddr, rd_buildSlice, rd_app, namesV_c, namesV_sl, namesV_dptr, namesV_ptr, namesV_own, namesV_agg, namesL_nil, namesL_cons, namesH_nil, namesH_cons, namesB_var, namesB_row, namesB_none, killO_s, killO_n, allLt_is, allIn_is, maskH_is, mergeH_is, setH_is, newL_is, refsT, refsH, refsV, refsL, Bool.or_self, Nat.reduceBEq, List.getElem?_nil, Ty.td3, Ty.td22, Ty.td50, List.getElem?_map, hLk, hxq, Int.toNat_natCast, hbt, List.length_map, hlen, hk1]
      repeat refine ⟨by omega, ?_⟩
      refine ⟨by kernel_rfl, ?_⟩
      refine hK (k + 1 + 1) _ hlt' (by omega) ?_ rfl (.weak (by simp [rcH]) (by simp [WeakH, rcH, gs]) rfl rfl)
      simp only [slot_is, aev, cv, cvc, Weak, ↓reduceIte, Bool.and_true, Bool.and_self, and_true, and_self, Nat.reduceEqDiff, rcV]; simp
  · have hk' : k = n := by omega
    subst hk'
    have hlen : (gat xs (offs o ds ss k)).length = k := by rw [gat_len, offs_len]
    cases k with
    | zero =>
      have c5 := Meets.nil (pre := [S e, ints ds]) (post := []) c4
      simp only [awp_reg, awp_seq, awp_exit, seqQ_n, seqQ_e, loopQ_e, blkQ_e, awpOps_one, awpOp_is, isCallV, callW_is, callV_is, putK_is, put_s, slot_is, pureOp, apureO, aev, cv, cvc, elO_s, loadA_p, Bool.false_eq_true, ↓reduceIte, List.getElem?_cons_zero, List.getElem?_cons_succ, List.length_cons, List.length_nil, List.map_cons, List.map_nil, List.append_nil, Bool.true_and, true_and, ne_eq, not_false_eq_true, reduceCtorEq, Nat.reduceAdd, Nat.reduceEqDiff, Nat.zero_add, Ty.td9, Ty.td22, Ty.td24, Ty.td50, rcH, rcV]
      refine call_meets (c5) (by simp only [aev, cv, cvc, toD_c, toD_nils, toD_sl, consO_some, toDL_nil, toDL_cons, List.cons_append, List.nil_append]) ?_; simp only [awp_ret, seqQ_n, awpOps_nil, awpOps_one, awpOp_is, isCallV, putK_is, updK_is, put_s, upd_n, upd_s, slot_is, retA_is, pureOp, apureO, astepO, killT, aev, cv, cvc, elO_s, loadA_p, storeA, cellsA, cellOk, setAll, flat_c, flat_tup, flat_agg, flat_sl, flatL_nil, flatL_cons, ownsV_c, ownsV_nils, ownsV_sl, ownsL_nil, ownsL_cons, toD_c, toD_tup, toD_agg, toD_sl, consO_some, toDL_nil, toDL_cons, notExit, resA_nil, resA_tmp, resA_cell, oneA_2, Bool.false_eq_true, ↓reduceIte, List.getElem?_cons_zero, List.getElem?_cons_succ, List.length_cons, List.length_nil, List.append_nil, List.set_cons_zero, List.set_cons_succ, Option.map_some, List.take_succ_cons, List.drop_zero, Bool.and_true, Bool.true_and, Bool.and_false, Bool.and_self, Bool.or_true, true_and, and_true, and_self, Nat.reduceAdd, Nat.reduceEqDiff, Nat.zero_add, List.isEmpty_nil, Nat.le_refl, List.take_nil, Ty.td50]
    | succ k =>
      have hbt : List.take (k + 1) (List.map enc (gat xs (offs o ds ss (k + 1)))) = List.map enc (gat xs (offs o ds ss (k + 1))) := List.take_of_length_le (by simp [hlen])
      simp only [awp_reg, awp_seq, awp_exit, seqQ_n, seqQ_e, loopQ_e, blkQ_e, awpOps_one, awpOp_is, isCallV, callW_is, callV_is, putK_is, put_s, slot_is, pureOp, apureO, aev, cv, cvc, elO_s, loadA_p, Bool.false_eq_true, ↓reduceIte, List.getElem?_cons_zero, List.getElem?_cons_succ, List.length_cons, List.length_nil, List.map_cons, List.map_nil, List.append_nil, Bool.true_and, true_and, ne_eq, not_false_eq_true, reduceCtorEq, Nat.reduceAdd, Nat.reduceEqDiff, Nat.zero_add, Ty.td9, Ty.td22, Ty.td24, Ty.td50, rcH, rcV]
      refine call_meets (c4) (by simp only [aev, cv, cvc, elemsA, toD_c, toD_sl, toD_own, consO_some, toDL_nil, toDL_cons, ↓reduceIte, List.getElem?_cons_zero, List.getElem?_cons_succ, Option.map_some, Bool.and_self, and_self, Nat.le_refl, hbt, List.length_map, hlen]) ?_; simp only [awp_ret, seqQ_n, awpOps_nil, awpOps_one, awpOp_is, isCallV, putK_is, updK_is, put_s, upd_n, upd_s, slot_is, retA_is, pureOp, apureO, astepO, killT, killB, killH, aev, cv, cvc, elO_s, loadA_p, storeA, cellsA, cellOk, setAll, elemsA, dropL, flat_c, flat_tup, flat_agg, flat_sl, flatL_nil, flatL_cons, ownsV_c, ownsV_sl, ownsV_own, ownsL_nil, ownsL_cons, toD_c, toD_tup, toD_agg, toD_sl, consO_some, toDL_nil, toDL_cons, killV_c, killV_nils, killV_sl, killV_own, killV_ptr, killL_nil, killL_cons, notExit, resA_nil, resA_tmp, resA_cell, oneA_2, Bool.false_eq_true, ↓reduceIte, List.getElem?_cons_zero, List.getElem?_cons_succ, List.length_cons, List.length_nil, List.map_cons, List.map_nil, List.nil_append, List.append_nil, List.set_cons_zero, List.set_cons_succ, Option.map_some, Option.map_none, List.take_succ_cons, List.drop_zero, Bool.and_true, Bool.true_and, Bool.and_false, Bool.and_self, Bool.or_false, true_and, and_true, and_self, reduceCtorEq, Nat.reduceAdd, Nat.reduceEqDiff, Nat.zero_add, List.isEmpty_cons, List.mem_cons, List.not_mem_nil, or_false, List.zipIdx_cons, List.zipIdx_nil, Nat.le_refl, List.take_nil, Ty.td50, hbt, List.length_map, hlen]
end

/-- The copy of the whole is the whole. -/
theorem gat_all {ds xs : List Int} (h : sizeE ds = ((xs.length : Int), 0)) : gat xs (offsE 0 ds (strd ds).1) = xs := by
  have hf : formed ds (strd ds).1 = true := by simp [formed, h, strd_len]
  unfold offsE
  rw [if_pos hf, h, Int.toNat_natCast]
  apply List.ext_getElem
  · rw [gat_len, offs_len]
  intro k h1 h2
  obtain ⟨p1, p2, p3, p4⟩ := places h (show (0 : Int) ≤ (k : Int) by omega) (by omega)
  obtain ⟨hfi, hp, _, hn4, _⟩ := size_fine h (by omega)
  have hd := dot_id ds _ 0 hfi (by omega) p2 (by omega) (by omega)
  rw [p3, Int.zero_add] at hd
  simp [gat, offs, hd, h2]

/-- What a copy gives, on both sides. -/
theorem both (e : ByteArray) (dz xs : List Int) (o : Int) (ds ss : List Int) (hdz : dz.length ≤ 1000000) (hx : xs.length ≤ 1000000) (hd : ds.length ≤ 1000000) (hs : ss.length ≤ 1000000) (ho : i64 o) (hss : ∀ s ∈ ss, i64 s) :
    ∃ (e' : ByteArray) (d' x' : List Int) (z : Int), Meets Try.prog 24 [arr e dz xs, vw o ds ss] (.tup [arr e' d' x', I z]) ∧ Meets Try.prog 25 [arr e dz xs, vw o ds ss] (.tup [arr e' d' x', I z]) ∧ d'.length ≤ 1000000 ∧ x'.length ≤ 1000000 := by
  have hn : i64 (xs.length : Int) := by simp only [i64]; omega
  have hsame := valid_same (n := xs.length) (ds := ds) hn ho hss
  by_cases h : checkE e dz xs = 0 ∧ vvE xs.length o ds ss = true
  · obtain ⟨h1, h2⟩ := h
    have hk := (vv_iff _ o ds ss hn ho hss).1 h2
    have b1 := copy_ok e dz xs o ds ss hdz hx hd hs h1 h2 hk
    have b2 := ref_ok e dz xs o ds ss hdz hx hd hs h1 (hsame ▸ h2) hk
    have hlo := offsE_len o ds ss
    obtain ⟨e', d', x', z, hres, k1, k2⟩ := ofE_form e ds (gat xs (offsE o ds ss)) hd (by rw [gat_len]; omega)
    rw [hres] at b1 b2
    exact ⟨e', d', x', z, b1, b2, k1, k2⟩
  · have h' : checkE e dz xs ≠ 0 ∨ vvE xs.length o ds ss = false := by
      by_cases h1 : checkE e dz xs = 0
      · right
        cases h2 : vvE xs.length o ds ss
        · rfl
        · exact absurd ⟨h1, h2⟩ h
      · exact Or.inl h1
    exact ⟨⟨#[]⟩, [], [], 1, copy_err e dz xs o ds ss hdz hx hd hs h', ref_err e dz xs o ds ss hdz hx hd hs (hsame ▸ h'), by simp, by simp⟩

theorem whole (e : ByteArray) (ds xs : List Int) (hd : ds.length ≤ 1000000) (hx : xs.length ≤ 1000000) (h : checkE e ds xs = 0) : ofV ds = ((0, ds, (strd ds).1), 0) ∧ Meets Try.prog 24 [arr e ds xs, vw 0 ds (strd ds).1] (.tup [arr e ds xs, I 0]) := by
  have hz : sizeE ds = ((xs.length : Int), 0) := by
    unfold checkE at h
    split at h
    · simp at h
    split at h
    · rename_i h1
      exact absurd h h1
    split at h
    · simp at h
    · rename_i h1 h2
      exact Prod.ext (Decidable.not_not.1 h2).symm (Decidable.not_not.1 h1)
  refine ⟨by unfold ofV; rw [if_neg (by simp [hz])], ?_⟩
  have hi := of_inv hz
  have hk : vOk xs.length 0 ds (strd ds).1 := ⟨hi.1, hi.2.2.2⟩
  have hn : i64 (xs.length : Int) := by simp only [i64]; omega
  have b := copy_ok e ds xs 0 ds (strd ds).1 hd hx hd (by rw [strd_len]; exact hd) h ((vv_iff _ 0 ds _ hn hi.2.1 hi.2.2.1).2 hk) hk
  rw [gat_all hz] at b
  rwa [show ofE e ds xs = .tup [arr e ds xs, I 0] by unfold ofE; rw [if_pos h]] at b
end Go.Proofs.Ytimagnkdgpfamaa.V16
