/- Views: the law ViewTwice. -/
import Derived.Test.YtimagnkdgpfamaaV5
namespace Go.Proofs.Ytimagnkdgpfamaa.V6
open Go Go.Proofs.Ytimagnkdgpfamaa.Eng Go.Proofs.Ytimagnkdgpfamaa Go.RowKit Go.Proofs.Ytimagnkdgpfamaa.A1 Go.Proofs.Ytimagnkdgpfamaa.A2 Go.Proofs.Ytimagnkdgpfamaa.A3 Go.Proofs.Ytimagnkdgpfamaa.A4 Go.Proofs.Ytimagnkdgpfamaa.A5 Go.Proofs.Ytimagnkdgpfamaa.A8 Go.Proofs.Ytimagnkdgpfamaa.A10 Go.Proofs.Ytimagnkdgpfamaa.V1 Go.Proofs.Ytimagnkdgpfamaa.V2 Go.Proofs.Ytimagnkdgpfamaa.V3 Go.Proofs.Ytimagnkdgpfamaa.V4 Go.Proofs.Ytimagnkdgpfamaa.V5
set_option linter.unusedSimpArgs false
set_option linter.unusedVariables false
set_option linter.unusedSectionVars false
set_option maxRecDepth 100000

theorem wW {x : Int} (h1 : -9223372036854775808 ≤ x) (h2 : x ≤ 9223372036854775807) : W x = x := wrap_in h1 h2
theorem prod_app : ∀ (xs ys : List Int), prod (xs ++ ys) = prod xs * prod ys
  | [], ys => by simp [prod]
  | x :: xs, ys => by rw [List.cons_append, prod, prod, prod_app xs ys, Int.mul_assoc]
theorem prodE_of : ∀ (ds : List Int) (m : Int), fine ds → 1 ≤ m → m * prod ds ≤ 4096 → prodE ds m = (m * prod ds, 0)
  | [], m, _, _, _ => by simp [prodE, prod]
  | d :: ds, m, hf, hm, h => by
    have hd := hf d (by simp)
    have hf' : fine ds := fun z hz => hf z (by simp [hz])
    have hp := prod_pos hf'
    rw [prod] at h ⊢
    have h1 : m * d * prod ds ≤ 4096 := by rw [Int.mul_assoc]; exact h
    have h2 : 1 ≤ m * d := by have := Int.mul_le_mul hm hd (by omega) (by omega); omega
    have h3 : m * d ≤ m * d * prod ds := by
      have := Int.mul_le_mul_of_nonneg_left hp (show 0 ≤ m * d by omega)
      omega
    rw [prodE, wrap_in (x := m * d) (by omega) (by omega), if_neg (by omega), prodE_of ds _ hf' h2 h1, Int.mul_assoc]
theorem dims_of {ds : List Int} {n : Int} (h : sizeE ds = (n, 0)) : ds.length ≤ 6 ∧ ∀ d ∈ ds, 0 ≤ d ∧ d ≤ 4096 := by
  unfold sizeE at h
  split at h
  · simp at h
  rename_i h6
  split at h
  · simp at h
  rename_i hb
  refine ⟨by omega, fun d hd => ?_⟩
  have := List.any_eq_false.1 (by simpa using hb) d hd
  simp [badDim] at this
  omega
/-- The size does not depend on the order. -/
theorem size_perm {ds es : List Int} {n : Int} (h : sizeE ds = (n, 0)) (hl : es.length = ds.length) (hm : ∀ d, d ∈ es ↔ d ∈ ds) (hp : prod es = prod ds) : sizeE es = (n, 0) := by
  obtain ⟨h6, hd⟩ := dims_of h
  have hb : es.any badDim = false := by
    rw [List.any_eq_false]
    intro d hx
    have := hd d ((hm d).1 hx)
    simp [badDim]
    omega
  have hz : es.any (fun x => 0 == x) = ds.any (fun x => 0 == x) := by
    rw [Bool.eq_iff_iff, List.any_eq_true, List.any_eq_true]
    exact ⟨fun ⟨x, h1, h2⟩ => ⟨x, (hm x).1 h1, h2⟩, fun ⟨x, h1, h2⟩ => ⟨x, (hm x).2 h1, h2⟩⟩
  have hbd : ds.any badDim = false := by
    rw [List.any_eq_false]
    intro d hx
    have := hd d hx
    simp [badDim]
    omega
  have h' := h
  unfold sizeE at h ⊢
  rw [if_neg (by omega), hbd, if_neg (by simp)] at h
  rw [if_neg (by omega), hb, if_neg (by simp), hz]
  split
  · rename_i h0
    rw [if_pos h0] at h; exact h
  · rename_i h0
    rw [if_neg h0] at h
    have hne : n ≠ 0 := fun h1 => by
      have hf : fine ds := fun d hx => by
        have h2 := List.any_eq_false.1 (Bool.eq_false_iff.2 h0) d hx
        have := hd d hx
        simp at h2
        omega
      have := prodE_prod hbd hf (by omega) (by omega) h
      have := prod_pos hf
      omega
    obtain ⟨hf, hn, _, hn4, _⟩ := size_fine h' hne
    rw [prodE_of es 1 (fun d hx => hf d ((hm d).1 hx)) (by omega) (by rw [hp]; omega), hp]
    simp [hn]

theorem split1 {l : List Int} (h : 1 ≤ l.length) : l.take (l.length - 1) ++ [lst l 1] = l := by
  rw [← lst1 h, List.take_append_drop]
theorem split2 {l : List Int} (h : 2 ≤ l.length) : l.take (l.length - 2) ++ [lst l 2, lst l 1] = l := by
  rw [← lst2 h, List.take_append_drop]
theorem lst_app1 (xs : List Int) (a : Int) : lst (xs ++ [a]) 1 = a := by simp [lst]
theorem lst_app2 (xs : List Int) (a b : Int) : lst (xs ++ [a, b]) 1 = b ∧ lst (xs ++ [a, b]) 2 = a := by simp [lst]
theorem lst_mem {l : List Int} {k : Nat} (h : 1 ≤ k) (h2 : k ≤ l.length) : lst l k ∈ l := by
  have : l.length - k < l.length := by omega
  rw [lst, List.getD_eq_getElem?_getD, List.getElem?_eq_getElem this]
  exact List.getElem_mem _

structure Ok (o : Int) (ds ss : List Int) : Prop where
  few : few19 o ds ss = true
  len : 2 ≤ ds.length
  same : ss.length = ds.length
  size : (sizeE ds).2 = 0

theorem rev_twice {o : Int} {ds ss : List Int} (h : Ok o ds ss) : ∃ o' ss', stepE o ds ss 1 (revC (lst ds 1) (lst ss 1)) = ((o', ds, ss'), 0) ∧ ss'.length = ss.length ∧ stepE o' ds ss' 1 (revC (lst ds 1) (lst ss' 1)) = ((o, ds, ss), 0) := by
  obtain ⟨hf, h2, hl, hs⟩ := h
  simp only [few19, Bool.and_eq_true, decide_eq_true_eq] at hf
  obtain ⟨⟨⟨⟨⟨f1, f2⟩, f3⟩, f4⟩, f5⟩, f6⟩ := hf
  have hsz : sizeE ds = ((sizeE ds).1, 0) := Prod.ext rfl hs
  obtain ⟨hd6, hdd⟩ := dims_of hsz
  have hn := hdd _ (lst_mem (l := ds) (k := 1) (by omega) (by omega))
  have hsb := List.all_eq_true.1 f5 _ (lst_mem (l := ss) (k := 1) (by omega) (by omega))
  simp only [Bool.and_eq_true, decide_eq_true_eq] at hsb
  have fo : formed ds ss = true := by simp [formed, hs, hl]
  generalize hnn : lst ds 1 = n at *
  generalize hss : lst ss 1 = s at *
  have hdsp : ds.take (ds.length - 1) ++ [n] = ds := by rw [← hnn]; exact split1 (by omega)
  have hssp : ss.take (ss.length - 1) ++ [s] = ss := by rw [← hss]; exact split1 (by omega)
  have hw1 : W (n - 1) = n - 1 := wrap_in (by omega) (by omega)
  have hw2 : W (0 - s) = 0 - s := wrap_in (by omega) (by omega)
  have hmx : 0 ≤ max (n - 1) 0 ∧ max (n - 1) 0 ≤ 4096 := by omega
  have hb1 : -4096000000 ≤ max (n - 1) 0 * s ∧ max (n - 1) 0 * s ≤ 4096000000 := by
    have h1 := Int.mul_le_mul_of_nonneg_left hsb.2 hmx.1
    have h2 := Int.mul_le_mul_of_nonneg_left hsb.1 hmx.1
    omega
  have hneg : max (n - 1) 0 * (0 - s) = - (max (n - 1) 0 * s) := by rw [Int.zero_sub, Int.mul_neg]
  generalize hp : max (n - 1) 0 * s = p at *
  have hr : revC n s = ((p, [n], [0 - s]), 0) := by
    unfold revC
    rw [hw1, hw2, hp]
    rw [show W p = p from wrap_in (by omega) (by omega)]
  refine ⟨W (o + p), ss.take (ss.length - 1) ++ [0 - s], ?_, by simp; omega, ?_⟩
  · unfold stepE
    rw [if_neg (by simp [fo]), if_neg (by omega), hr, if_neg (by simp), hdsp, if_neg (by simpa using hs), hl]
  · have fo' : formed ds (ss.take (ss.length - 1) ++ [0 - s]) = true := by
      simp only [formed, hs, List.length_append, List.length_take, List.length_singleton]
      simp; omega
    have hr' : revC n (0 - s) = ((-p, [n], [s]), 0) := by
      unfold revC
      rw [hw1, hneg, show W (0 - (0 - s)) = s from (wW (by omega) (by omega)).trans (by omega)]
      rw [show W (-p) = -p from wrap_in (by omega) (by omega)]
    unfold stepE
    rw [if_neg (by rw [fo']; simp), if_neg (by omega), lst_app1, hr', if_neg (by simp), hdsp, if_neg (by simpa using hs)]
    have e1 : W (W (o + p) + -p) = o := by
      rw [wW (x := o + p) (by omega) (by omega), wW (by omega) (by omega)]
      omega
    have e2 : List.take (ds.length - 1) (ss.take (ss.length - 1) ++ [0 - s]) = ss.take (ss.length - 1) := by
      rw [List.take_append_of_le_length (by simp; omega), List.take_take]
      congr 1
      omega
    simp only
    rw [e2, hssp]
    exact congrArg (fun x => ((x, ds, ss), (0 : Int))) e1

theorem tr_twice {o : Int} {ds ss : List Int} (h : Ok o ds ss) : ∃ ds' ss', stepE o ds ss 2 (trC (lst ds 2) (lst ds 1) (lst ss 2) (lst ss 1)) = ((o, ds', ss'), 0) ∧ ds'.length = ds.length ∧ ss'.length = ss.length ∧ stepE o ds' ss' 2 (trC (lst ds' 2) (lst ds' 1) (lst ss' 2) (lst ss' 1)) = ((o, ds, ss), 0) := by
  obtain ⟨hf, h2, hl, hs⟩ := h
  simp only [few19, Bool.and_eq_true, decide_eq_true_eq] at hf
  obtain ⟨⟨⟨⟨⟨f1, f2⟩, f3⟩, f4⟩, f5⟩, f6⟩ := hf
  have hsz : sizeE ds = ((sizeE ds).1, 0) := Prod.ext rfl hs
  have fo : formed ds ss = true := by simp [formed, hs, hl]
  have hdsp := split2 (l := ds) h2
  have hssp := split2 (l := ss) (by omega)
  generalize lst ds 1 = n at *
  generalize lst ds 2 = m at *
  generalize lst ss 1 = s at *
  generalize lst ss 2 = t at *
  have ho : W (o + 0) = o := by rw [Int.add_zero]; exact wrap_in (by omega) (by omega)
  have hsw : sizeE (ds.take (ds.length - 2) ++ [n, m]) = ((sizeE ds).1, 0) := by
    refine size_perm (ds := ds) hsz (by simp; omega) (fun d => ?_) ?_
    · rw [show (d ∈ ds) = (d ∈ ds.take (ds.length - 2) ++ [m, n]) by rw [hdsp]]
      simp only [List.mem_append, List.mem_cons, List.not_mem_nil, or_false]
      constructor <;> (rintro (h | h | h) <;> simp [h])
    · conv => rhs; rw [← hdsp]
      rw [prod_app, prod_app]
      simp only [prod, Int.mul_one]
      rw [Int.mul_comm n m]
  refine ⟨ds.take (ds.length - 2) ++ [n, m], ss.take (ss.length - 2) ++ [s, t], ?_, by simp; omega, by simp; omega, ?_⟩
  · unfold stepE trC
    rw [if_neg (by simp [fo]), if_neg (by omega), if_neg (by simp), if_neg (by simp only; rw [hsw]; simp)]
    simp only
    rw [hl]
    exact congrArg (fun x => ((x, ds.take (ds.length - 2) ++ [n, m], ss.take (ds.length - 2) ++ [s, t]), (0 : Int))) ho
  · have fo' : formed (ds.take (ds.length - 2) ++ [n, m]) (ss.take (ss.length - 2) ++ [s, t]) = true := by
      unfold formed
      rw [hsw]
      simp; omega
    have hlen : (ds.take (ds.length - 2) ++ [n, m]).length = ds.length := by simp; omega
    obtain ⟨q1, q2⟩ := lst_app2 (ds.take (ds.length - 2)) n m
    obtain ⟨q3, q4⟩ := lst_app2 (ss.take (ss.length - 2)) s t
    have e1 : List.take (ds.length - 2) (ds.take (ds.length - 2) ++ [n, m]) = ds.take (ds.length - 2) := by
      rw [List.take_append_of_le_length (by simp), List.take_take, Nat.min_self]
    have e2 : List.take (ds.length - 2) (ss.take (ss.length - 2) ++ [s, t]) = ss.take (ss.length - 2) := by
      rw [List.take_append_of_le_length (by simp; omega), List.take_take]
      congr 1
      omega
    unfold stepE trC
    rw [if_neg (by rw [fo']; simp), hlen, if_neg (by omega), q1, q2, q3, q4, if_neg (by simp)]
    simp only
    rw [e1, e2, hdsp, hssp, if_neg (fun h => h hs)]
    exact congrArg (fun x => ((x, ds, ss), (0 : Int))) ho

theorem law (o : Int) (ds ss : List Int) (hd : ds.length ≤ maxLen) (hs : ss.length ≤ maxLen) : Meets Try.prog 7 [vw o ds ss] (B true) := by
  have hd' : ds.length ≤ 9223372036854775807 := Nat.le_trans hd (by unfold maxLen; omega)
  have hs' : ss.length ≤ 9223372036854775807 := Nat.le_trans hs (by unfold maxLen; omega)
  have ha := awake
  have hfw := fewView o ds ss hd hs
  have hok := @Ok.mk o ds ss
  refine meets_of (X := false) Ty.mixed Try.func7 (by kernel_rfl) rfl (by kernel_rfl) (by simp) ?_; rw [Try.ntmps7, Try.results7]
  simp only [awp_reg, awp_seq, seqQ_n, awpOps_nil, awpOps_one, awpOp_is, isCallV, callW_is, callV_is, putK_is, updK_is, put_s, upd_s, slot_is, pureOp, apureO, astepO, killT, aev, cv, cvc, cellsA, cellOk, argT, Bool.false_eq_true, ↓reduceIte, List.length_nil, List.map_nil, List.nil_append, List.append_nil, Bool.true_and, true_and]
  refine call_meets (ha) (by simp only [aev, cv, cvc, toDL_nil] <;> rfl) ?_; simp only [awp_skip, awp_reg, awp_seq, awp_cond, seqQ_n, awpOps_nil, awpOps_one, awpOp_is, isCallV, callW_is, callV_is, putK_is, put_s, upd_s, slot_is, pureOp, apureO, killT, aev, cv, cvc, elO_s, loadA_p, condA_f, flat_c, ownsL_nil, Bool.false_eq_true, ↓reduceIte, List.getElem?_cons_zero, List.length_cons, List.length_nil, List.map_cons, List.map_nil, List.append_nil, List.take_succ_cons, List.drop_zero, Bool.true_and, Bool.or_true, Bool.not_true, true_and, Nat.reduceAdd, Nat.reduceEqDiff, Nat.zero_add, List.isEmpty_nil, Nat.le_refl, List.take_nil, Ty.td24]
  cases hq : few19 o ds ss with
  | false =>
    rw [hq] at hfw
    refine call_meets (hfw) (by simp only [aev, cv, cvc, toD_c, toD_agg, toD_sl, consO_some, toDL_nil, toDL_cons, Option.map_some] <;> rfl) ?_; simp only [awp_reg, awp_seq, awp_cond, awp_ret, seqQ_n, seqQ_r, awpOps_nil, awpOps_one, awpOps_if, awpOp_is, putK_is, put_s, upd_s, slot_is, retA_is, pureOp, apureO, killT, aev, cv, cvc, yieldA, guardA_ft, condA_t, pickA_t, flat_c, ownsV_c, ownsV_agg, ownsV_sl, ownsL_nil, ownsL_cons, toD_c, notExit, resA_nil, resA_tmp, oneA_1, ↓reduceIte, List.getElem?_cons_zero, List.getElem?_cons_succ, List.append_nil, List.getElem?_toArray, Option.bind_some, Bool.and_self, Bool.or_true, Bool.not_false, and_self, Nat.reduceEqDiff, List.isEmpty_nil]
  | true =>
  rw [hq] at hfw
  have hb := hq
  simp only [few19, Bool.and_eq_true, decide_eq_true_eq] at hb
  obtain ⟨⟨⟨⟨⟨f1, f2⟩, f3⟩, f4⟩, f5⟩, f6⟩ := hb
  by_cases h2 : (ds.length : Int) < 2
  · refine call_meets (hfw) (by simp only [aev, cv, cvc, toD_c, toD_agg, toD_sl, consO_some, toDL_nil, toDL_cons, Option.map_some, h2] <;> rfl) ?_; simp only [awp_reg, awp_seq, awp_cond, awp_ret, seqQ_n, seqQ_r, awpOps_nil, awpOps_one, awpOps_if, awpOp_is, awpO_is, putK_is, put_s, upd_s, slot_is, retA_is, pureOp, apureO, killT, aev, cv, cvc, binK, elO_s, elO_none, lenA, lenK, loadA_p, yieldA, guardA_ft, guardA_ff, condA_t, pickA_t, pickA_f, flat_c, ownsV_c, ownsV_agg, ownsV_sl, ownsL_nil, ownsL_cons, toD_c, notExit, resA_nil, resA_tmp, oneA_1, Bool.false_eq_true, ↓reduceIte, List.getElem?_cons_zero, List.getElem?_cons_succ, List.length_cons, List.length_nil, List.append_nil, List.getElem?_toArray, Option.bind_some, Bool.and_true, Bool.true_and, Bool.and_self, Bool.or_true, Bool.not_true, true_and, and_true, and_self, ne_eq, not_false_eq_true, reduceCtorEq, Nat.reduceAdd, Nat.reduceEqDiff, Nat.zero_add, List.isEmpty_nil, Option.isSome_some, decide_true, Ty.td22, Ty.td24, List.length_map, h2]
  by_cases hl : (ss.length : Int) = ds.length
  case neg => refine call_meets (hfw) (by simp only [aev, cv, cvc, toD_c, toD_agg, toD_sl, consO_some, toDL_nil, toDL_cons, Option.map_some, h2, show ((ss.length : Int) != ds.length) = true by simpa using hl] <;> rfl) ?_; simp only [awp_reg, awp_seq, awp_cond, awp_ret, seqQ_n, seqQ_r, awpOps_nil, awpOps_one, awpOps_if, awpOp_is, awpO_is, putK_is, put_s, upd_s, slot_is, retA_is, pureOp, apureO, killT, aev, cv, cvc, binK, elO_s, elO_none, lenA, lenK, loadA_p, yieldA, guardA_ff, condA_t, pickA_f, flat_c, ownsV_c, ownsV_agg, ownsV_sl, ownsL_nil, ownsL_cons, toD_c, notExit, resA_nil, resA_tmp, oneA_1, Bool.false_eq_true, ↓reduceIte, List.getElem?_cons_zero, List.getElem?_cons_succ, List.length_cons, List.length_nil, List.append_nil, List.getElem?_toArray, Option.bind_some, Bool.and_true, Bool.true_and, Bool.and_self, Bool.or_true, Bool.not_true, true_and, and_true, and_self, ne_eq, not_false_eq_true, reduceCtorEq, Nat.reduceAdd, Nat.reduceEqDiff, Nat.zero_add, List.isEmpty_nil, Option.isSome_some, decide_false, Ty.td22, Ty.td24, List.length_map, h2, show ((ss.length : Int) != ds.length) = true by simpa using hl]
  have hz := refSize ds (by omega)
  by_cases hz0 : (sizeE ds).2 = 0
  case neg =>
    generalize sizeE ds = z at *
    refine call_meets (hfw) (by simp only [aev, cv, cvc, toD_c, toD_agg, toD_sl, consO_some, toDL_nil, toDL_cons, Option.map_some, h2, show ((ss.length : Int) != ds.length) = false by simpa using hl] <;> rfl) ?_; simp only [awp_skip, awp_reg, awp_seq, awp_cond, seqQ_n, awpOps_nil, awpOps_one, awpOps_if, awpOp_is, isCallV, callW_is, callV_is, awpO_is, putK_is, put_s, upd_s, slot_is, pureOp, apureO, killT, aev, cv, cvc, binK, elO_s, elO_none, lenA, lenK, loadA_p, yieldA, guardA_ff, condA_f, pickA_f, flat_c, ownsV_c, ownsV_agg, ownsV_sl, ownsL_nil, ownsL_cons, Bool.false_eq_true, ↓reduceIte, List.getElem?_cons_zero, List.getElem?_cons_succ, List.length_cons, List.length_nil, List.map_cons, List.map_nil, List.append_nil, List.getElem?_toArray, Option.bind_some, Bool.true_and, Bool.or_true, Bool.not_true, true_and, ne_eq, not_false_eq_true, reduceCtorEq, Nat.reduceAdd, Nat.reduceEqDiff, Nat.zero_add, List.isEmpty_nil, Option.isSome_some, decide_false, Ty.td22, Ty.td24, List.length_map, h2, show ((ss.length : Int) != ds.length) = false by simpa using hl]
    refine call_meets (hz) (by simp only [aev, cv, cvc, toD_sl, consO_some, toDL_nil, toDL_cons, show (z.2 != 0) = true by simpa using hz0] <;> rfl) ?_; simp only [awp_reg, awp_seq, awp_cond, awp_ret, seqQ_n, seqQ_r, awpOps_nil, awpOps_one, awpOp_is, putK_is, put_s, upd_s, slot_is, retA_is, pureOp, apureO, killT, aev, cv, cvc, binK, elO_s, condA_t, flat_c, flat_tup, flatL_nil, flatL_cons, ownsV_sl, ownsL_nil, ownsL_cons, toD_c, notExit, resA_nil, resA_tmp, oneA_1, ↓reduceIte, List.getElem?_cons_zero, List.getElem?_cons_succ, List.append_nil, Bool.and_self, Bool.or_true, and_self, Nat.reduceEqDiff, List.isEmpty_nil, show (z.2 != 0) = true by simpa using hz0]
  have hO := hok hq (by omega) (by omega) hz0
  obtain ⟨o', ss', r1, r2, r3⟩ := rev_twice hO
  obtain ⟨ds2, ss2, t1, t2, t3, t4⟩ := tr_twice hO
  have c1 := vrev o ds ss (by omega) (by omega)
  have c2 := vrev o' ds ss' (by omega) (by omega)
  have c3 := vtr o ds ss (by omega) (by omega)
  have c4 := vtr o ds2 ss2 (by omega) (by omega)
  rw [r1] at c1
  rw [r3] at c2
  rw [t1] at c3
  rw [t4] at c4
  have c5 := offsets o ds ss (by omega) (by omega)
  have hol := offsE_len o ds ss
  generalize offsE o ds ss = L at *
  have c6 := ints19 L L (by omega) (by omega)
  have c7 := ints19 ds ds (by omega) (by omega)
  rw [beq_self_eq_true] at c6 c7
  have c8 := same19 o ds ss o ds ss (by omega) (by omega) (by omega) (by omega)
  rw [show sameV o ds ss o ds ss = true by simp [sameV]] at c8
  generalize sizeE ds = z at *
  refine call_meets (hfw) (by simp only [aev, cv, cvc, toD_c, toD_agg, toD_sl, consO_some, toDL_nil, toDL_cons, Option.map_some, h2, show ((ss.length : Int) != ds.length) = false by simpa using hl] <;> rfl) ?_; simp only [awp_skip, awp_reg, awp_seq, awp_cond, seqQ_n, awpOps_nil, awpOps_one, awpOps_if, awpOp_is, isCallV, callW_is, callV_is, awpO_is, putK_is, put_s, upd_s, slot_is, pureOp, apureO, killT, aev, cv, cvc, binK, elO_s, elO_none, lenA, lenK, loadA_p, yieldA, guardA_ff, condA_f, pickA_f, flat_c, ownsV_c, ownsV_agg, ownsV_sl, ownsL_nil, ownsL_cons, Bool.false_eq_true, ↓reduceIte, List.getElem?_cons_zero, List.getElem?_cons_succ, List.length_cons, List.length_nil, List.map_cons, List.map_nil, List.append_nil, List.getElem?_toArray, Option.bind_some, Bool.true_and, Bool.or_true, Bool.not_true, true_and, ne_eq, not_false_eq_true, reduceCtorEq, Nat.reduceAdd, Nat.reduceEqDiff, Nat.zero_add, List.isEmpty_nil, Option.isSome_some, decide_false, Ty.td22, Ty.td24, List.length_map, h2, show ((ss.length : Int) != ds.length) = false by simpa using hl]
  refine call_meets (hz) (by simp only [aev, cv, cvc, toD_sl, consO_some, toDL_nil, toDL_cons, show (z.2 != 0) = false by simpa using hz0] <;> rfl) ?_; simp only [awp_skip, awp_reg, awp_seq, awp_cond, seqQ_n, awpOps_nil, awpOps_one, awpOp_is, isCallV, callW_is, callV_is, putK_is, put_s, upd_s, slot_is, pureOp, apureO, killT, aev, cv, cvc, binK, elO_s, loadA_p, condA_f, flat_c, flat_tup, flatL_nil, flatL_cons, ownsV_sl, ownsL_nil, ownsL_cons, Bool.false_eq_true, ↓reduceIte, List.getElem?_cons_zero, List.getElem?_cons_succ, List.length_cons, List.length_nil, List.map_cons, List.map_nil, List.append_nil, List.take_succ_cons, List.drop_zero, Bool.true_and, Bool.and_self, Bool.or_true, true_and, and_self, Nat.reduceAdd, Nat.reduceEqDiff, Nat.zero_add, List.isEmpty_nil, Nat.le_refl, List.take_nil, Ty.td24, show (z.2 != 0) = false by simpa using hz0]
  refine call_meets (c1) (by simp only [aev, cv, cvc, toD_c, toD_agg, toD_sl, consO_some, toDL_nil, toDL_cons, Option.map_some] <;> rfl) ?_; simp only [awp_reg, awp_seq, seqQ_n, awpOps_nil, awpOps_one, awpOp_is, isCallV, callW_is, callV_is, putK_is, updK_is, put_s, upd_n, upd_s, slot_is, pureOp, apureO, astepO, killT, aev, cv, cvc, elO_s, loadA_p, storeA, cellsA, cellOk, setAll, flat_c, flat_tup, flat_agg, flat_sl, flatL_nil, flatL_cons, ownsV_c, ownsV_agg, ownsV_sl, ownsL_nil, ownsL_cons, Bool.false_eq_true, ↓reduceIte, List.getElem?_cons_zero, List.getElem?_cons_succ, List.length_cons, List.length_nil, List.map_cons, List.map_nil, List.cons_append, List.nil_append, List.append_nil, List.set_cons_zero, List.set_cons_succ, List.take_succ_cons, List.drop_zero, List.all_cons, List.all_nil, Bool.and_true, Bool.true_and, Bool.and_false, Bool.and_self, Bool.or_true, Value.oneCell', true_and, and_true, and_self, Nat.reduceAdd, Nat.reduceEqDiff, Nat.zero_add, List.isEmpty_nil, Nat.le_refl, List.take_nil, Ty.td28]
  refine call_meets (c2) (by simp only [aev, cv, cvc, toD_c, toD_agg, toD_sl, consO_some, toDL_nil, toDL_cons, Option.map_some] <;> rfl) ?_; simp only [awp_reg, awp_seq, seqQ_n, awpOps_nil, awpOps_one, awpOp_is, isCallV, callW_is, callV_is, putK_is, updK_is, put_s, upd_n, upd_s, slot_is, pureOp, apureO, astepO, killT, aev, cv, cvc, elO_s, loadA_p, storeA, cellsA, cellOk, setAll, flat_c, flat_tup, flat_agg, flat_sl, flatL_nil, flatL_cons, ownsV_c, ownsV_agg, ownsV_sl, ownsL_nil, ownsL_cons, Bool.false_eq_true, ↓reduceIte, List.getElem?_cons_zero, List.getElem?_cons_succ, List.length_cons, List.length_nil, List.map_cons, List.map_nil, List.cons_append, List.nil_append, List.append_nil, List.set_cons_zero, List.set_cons_succ, List.take_succ_cons, List.drop_zero, List.all_cons, List.all_nil, Bool.and_true, Bool.true_and, Bool.and_false, Bool.and_self, Bool.or_true, Value.oneCell', true_and, and_true, and_self, Nat.reduceAdd, Nat.reduceEqDiff, Nat.zero_add, List.isEmpty_nil, Nat.le_refl, List.take_nil, Ty.td24, Ty.td28]
  refine call_meets (c3) (by simp only [aev, cv, cvc, toD_c, toD_agg, toD_sl, consO_some, toDL_nil, toDL_cons, Option.map_some] <;> rfl) ?_; simp only [awp_reg, awp_seq, seqQ_n, awpOps_nil, awpOps_one, awpOp_is, isCallV, callW_is, callV_is, putK_is, updK_is, put_s, upd_n, upd_s, slot_is, pureOp, apureO, astepO, killT, aev, cv, cvc, elO_s, loadA_p, storeA, cellsA, cellOk, setAll, flat_c, flat_tup, flat_agg, flat_sl, flatL_nil, flatL_cons, ownsV_c, ownsV_agg, ownsV_sl, ownsL_nil, ownsL_cons, Bool.false_eq_true, ↓reduceIte, List.getElem?_cons_zero, List.getElem?_cons_succ, List.length_cons, List.length_nil, List.map_cons, List.map_nil, List.cons_append, List.nil_append, List.append_nil, List.set_cons_zero, List.set_cons_succ, List.take_succ_cons, List.drop_zero, List.all_cons, List.all_nil, Bool.and_true, Bool.true_and, Bool.and_false, Bool.and_self, Bool.or_true, Value.oneCell', true_and, and_true, and_self, Nat.reduceAdd, Nat.reduceEqDiff, Nat.zero_add, List.isEmpty_nil, Nat.le_refl, List.take_nil, Ty.td28]
  refine call_meets (c4) (by simp only [aev, cv, cvc, toD_c, toD_agg, toD_sl, consO_some, toDL_nil, toDL_cons, Option.map_some] <;> rfl) ?_; simp only [awp_reg, awp_seq, seqQ_n, awpOps_nil, awpOps_one, awpOp_is, isCallV, callW_is, callV_is, putK_is, updK_is, put_s, upd_n, upd_s, slot_is, pureOp, apureO, astepO, killT, aev, cv, cvc, elO_s, loadA_p, storeA, cellsA, cellOk, setAll, flat_c, flat_tup, flat_agg, flat_sl, flatL_nil, flatL_cons, ownsV_c, ownsV_agg, ownsV_sl, ownsL_nil, ownsL_cons, Bool.false_eq_true, ↓reduceIte, List.getElem?_cons_zero, List.getElem?_cons_succ, List.length_cons, List.length_nil, List.map_cons, List.map_nil, List.cons_append, List.nil_append, List.append_nil, List.set_cons_zero, List.set_cons_succ, List.take_succ_cons, List.drop_zero, List.all_cons, List.all_nil, Bool.and_true, Bool.true_and, Bool.and_false, Bool.and_self, Bool.or_true, Value.oneCell', true_and, and_true, and_self, Nat.reduceAdd, Nat.reduceEqDiff, Nat.zero_add, List.isEmpty_nil, Nat.le_refl, List.take_nil, Ty.td24, Ty.td28]
  refine call_meets (c5) (by simp only [aev, cv, cvc, toD_c, toD_agg, toD_sl, consO_some, toDL_nil, toDL_cons, Option.map_some] <;> rfl) ?_; simp only [awp_reg, awp_seq, seqQ_n, awpOps_nil, awpOps_one, awpOps_if, awpOp_is, isCallV, callW_is, callV_is, awpO_is, putK_is, put_s, upd_s, slot_is, pureOp, apureO, killT, aev, cv, cvc, binK, elO_s, loadA_p, yieldA, guardA_tt, pickA_t, flat_sl, ownsV_c, ownsV_agg, ownsV_sl, ownsL_nil, ownsL_cons, Bool.false_eq_true, ↓reduceIte, List.getElem?_cons_zero, List.getElem?_cons_succ, List.length_cons, List.length_nil, List.map_cons, List.map_nil, List.append_nil, List.getElem?_toArray, Option.bind_some, List.take_succ_cons, List.drop_zero, Bool.true_and, Bool.or_true, true_and, Nat.reduceAdd, Nat.reduceEqDiff, Nat.zero_add, List.isEmpty_nil, Nat.le_refl, List.take_nil, Ty.td28, beq_self_eq_true]
  refine call_meets (c5) (by simp only [aev, cv, cvc, toD_c, toD_agg, toD_sl, consO_some, toDL_nil, toDL_cons, Option.map_some] <;> rfl) ?_; simp only [awpOps_if, awpOp_is, isCallV, callW_is, callV_is, awpO_is, putK_is, put_s, upd_s, slot_is, pureOp, apureO, killT, aev, cv, cvc, yieldA, guardA_tt, flat_sl, ownsV_c, ownsV_agg, ownsV_sl, ownsL_nil, ownsL_cons, Bool.false_eq_true, ↓reduceIte, List.getElem?_cons_zero, List.getElem?_cons_succ, List.map_cons, List.map_nil, List.append_nil, List.getElem?_toArray, Option.bind_some, Bool.or_true, Nat.reduceEqDiff, List.isEmpty_nil]
  refine call_meets (c6) (by simp only [aev, cv, cvc, toD_sl, consO_some, toDL_nil, toDL_cons] <;> rfl) ?_; simp only [awpOps_one, awpOps_if, awpOp_is, isCallV, callW_is, callV_is, awpO_is, putK_is, put_s, upd_s, slot_is, pureOp, apureO, killT, aev, cv, cvc, elO_s, loadA_p, yieldA, guardA_tt, pickA_t, flat_c, ownsV_sl, ownsL_nil, ownsL_cons, Bool.false_eq_true, ↓reduceIte, List.getElem?_cons_zero, List.getElem?_cons_succ, List.length_cons, List.length_nil, List.map_cons, List.map_nil, List.append_nil, List.getElem?_toArray, Option.bind_some, List.take_succ_cons, List.drop_zero, Bool.true_and, Bool.or_true, true_and, Nat.reduceAdd, Nat.reduceEqDiff, Nat.zero_add, List.isEmpty_nil, Nat.le_refl, List.take_nil, Ty.td28]
  refine call_meets (c5) (by simp only [aev, cv, cvc, toD_c, toD_agg, toD_sl, consO_some, toDL_nil, toDL_cons, Option.map_some] <;> rfl) ?_; simp only [awpOps_if, awpOp_is, isCallV, callW_is, callV_is, awpO_is, putK_is, put_s, upd_s, slot_is, pureOp, apureO, killT, aev, cv, cvc, yieldA, guardA_tt, flat_sl, ownsV_c, ownsV_agg, ownsV_sl, ownsL_nil, ownsL_cons, Bool.false_eq_true, ↓reduceIte, List.getElem?_cons_zero, List.getElem?_cons_succ, List.map_cons, List.map_nil, List.append_nil, List.getElem?_toArray, Option.bind_some, Bool.or_true, Nat.reduceEqDiff, List.isEmpty_nil]
  refine call_meets (c6) (by simp only [aev, cv, cvc, toD_sl, consO_some, toDL_nil, toDL_cons] <;> rfl) ?_; simp only [awpOps_one, awpOps_if, awpOp_is, isCallV, callW_is, callV_is, awpO_is, putK_is, put_s, upd_s, slot_is, pureOp, apureO, killT, aev, cv, cvc, elO_s, loadA_p, yieldA, guardA_tt, pickA_t, flat_c, ownsV_sl, ownsL_nil, ownsL_cons, Bool.false_eq_true, ↓reduceIte, List.getElem?_cons_zero, List.getElem?_cons_succ, List.length_cons, List.length_nil, List.map_cons, List.map_nil, List.append_nil, List.getElem?_toArray, Option.bind_some, Bool.true_and, Bool.or_true, true_and, ne_eq, not_false_eq_true, reduceCtorEq, Nat.reduceAdd, Nat.reduceEqDiff, Nat.zero_add, List.isEmpty_nil, Ty.td22, Ty.td24, Ty.td28]
  refine call_meets (c7) (by simp only [aev, cv, cvc, toD_sl, consO_some, toDL_nil, toDL_cons] <;> rfl) ?_; simp only [awpOps_one, awpOps_if, awpOp_is, isCallV, callW_is, callV_is, awpO_is, putK_is, put_s, upd_s, slot_is, pureOp, apureO, killT, aev, cv, cvc, elO_s, loadA_p, yieldA, guardA_tt, pickA_t, flat_c, ownsV_sl, ownsL_nil, ownsL_cons, Bool.false_eq_true, ↓reduceIte, List.getElem?_cons_zero, List.getElem?_cons_succ, List.length_cons, List.length_nil, List.map_cons, List.map_nil, List.append_nil, List.getElem?_toArray, Option.bind_some, List.take_succ_cons, List.drop_zero, Bool.true_and, Bool.or_true, true_and, Nat.reduceAdd, Nat.reduceEqDiff, Nat.zero_add, List.isEmpty_nil, Nat.le_refl, List.take_nil, Ty.td24, Ty.td28]
  refine call_meets (c8) (by simp only [aev, cv, cvc, toD_c, toD_agg, toD_sl, consO_some, toDL_nil, toDL_cons, Option.map_some] <;> rfl) ?_; simp only [awp_ret, seqQ_n, awpOps_nil, awpOps_one, awpOp_is, putK_is, put_s, upd_s, slot_is, retA_is, pureOp, apureO, killT, aev, cv, cvc, pickA_t, flat_c, ownsV_c, ownsV_agg, ownsV_sl, ownsL_nil, ownsL_cons, toD_c, notExit, resA_nil, resA_tmp, oneA_1, ↓reduceIte, List.append_nil, Bool.and_self, Bool.or_true, and_self, Nat.reduceEqDiff, List.isEmpty_nil]

theorem end_ (W : World) {v0 : Value} (o : Int) (xs ys : List Int) (h0 : RepD (fun b => b < W.heap.size) W (vw o xs ys) v0) (hx : xs.length ≤ maxLen) (hy : ys.length ≤ maxLen) :
    Calls Try.prog 7 #[v0] W fun e w' => e = .returned (.bool true) ∧ Below W.heap.size W w' :=
  law_of (law o xs ys hx hy) (vs := [v0]) ⟨_, _, rfl, h0, rfl⟩
end Go.Proofs.Ytimagnkdgpfamaa.V6
