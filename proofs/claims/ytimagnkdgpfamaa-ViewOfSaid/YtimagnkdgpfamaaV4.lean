/- Views: what the steps of the program make. -/
import Derived.Test.YtimagnkdgpfamaaV3
namespace Go.Proofs.Ytimagnkdgpfamaa.V4
open Go Go.Proofs.Ytimagnkdgpfamaa.Eng Go.Proofs.Ytimagnkdgpfamaa Go.RowKit Go.Proofs.Ytimagnkdgpfamaa.A1 Go.Proofs.Ytimagnkdgpfamaa.A2 Go.Proofs.Ytimagnkdgpfamaa.A3 Go.Proofs.Ytimagnkdgpfamaa.A4 Go.Proofs.Ytimagnkdgpfamaa.A5 Go.Proofs.Ytimagnkdgpfamaa.A8 Go.Proofs.Ytimagnkdgpfamaa.A10 Go.Proofs.Ytimagnkdgpfamaa.V1 Go.Proofs.Ytimagnkdgpfamaa.V2 Go.Proofs.Ytimagnkdgpfamaa.V3
set_option linter.unusedSimpArgs false
set_option linter.unusedVariables false
set_option linter.unusedSectionVars false
set_option maxRecDepth 100000

/-- The last number of a list but k - 1. -/
def lst (l : List Int) (k : Nat) : Int := l.getD (l.length - k) 0
theorem lst1 {l : List Int} (h : 1 ≤ l.length) : l.drop (l.length - 1) = [lst l 1] := by
  have h1 : l.length - 1 < l.length := by omega
  rw [List.drop_eq_getElem_cons h1, show l.length - 1 + 1 = l.length by omega, List.drop_length, lst, List.getD_eq_getElem?_getD, List.getElem?_eq_getElem h1]
  rfl
theorem lst2 {l : List Int} (h : 2 ≤ l.length) : l.drop (l.length - 2) = [lst l 2, lst l 1] := by
  have h1 : l.length - 2 < l.length := by omega
  have e2 : lst l 2 = l[l.length - 2] := by
    rw [lst, List.getD_eq_getElem?_getD, List.getElem?_eq_getElem h1]
    rfl
  rw [List.drop_eq_getElem_cons h1, show l.length - 2 + 1 = l.length - 1 by omega, lst1 (by omega), e2]

def stp (k : Int) (n : Int) (o : Int) (ds ss : List Int) : Vw × Int :=
  if k = 1 then stepE o ds ss 1 (takeC (lst ds 1) (lst ss 1) n)
  else if k = 2 then stepE o ds ss 1 (dropC (lst ds 1) (lst ss 1) n)
  else if k = 3 then stepE o ds ss 1 (revC (lst ds 1) (lst ss 1))
  else if k = 4 then stepE o ds ss 2 (trC (lst ds 2) (lst ds 1) (lst ss 2) (lst ss 1))
  else if k = 5 then stepE o ds ss 2 (diaC (lst ds 2) (lst ds 1) (lst ss 2) (lst ss 1))
  else if k = 6 then stepE o ds ss 1 (winC (lst ds 1) (lst ss 1) n)
  else stepE o ds ss 1 (chuC (lst ds 1) (lst ss 1) n)

theorem takeC_len (n s k : Int) : (takeC n s k).1.2.1.length ≤ 2 ∧ (takeC n s k).1.2.2.length ≤ 2 := by
  unfold takeC noC
  split <;> simp
theorem dropC_len (n s k : Int) : (dropC n s k).1.2.1.length ≤ 2 ∧ (dropC n s k).1.2.2.length ≤ 2 := by
  unfold dropC noC
  split
  · simp
  split <;> simp
theorem diaC_len (n m s k : Int) : (diaC n m s k).1.2.1.length ≤ 2 ∧ (diaC n m s k).1.2.2.length ≤ 2 := by
  unfold diaC noC
  split <;> simp
theorem winC_len (n s k : Int) : (winC n s k).1.2.1.length ≤ 2 ∧ (winC n s k).1.2.2.length ≤ 2 := by
  unfold winC noC
  split <;> simp
theorem chuC_len (n s k : Int) : (chuC n s k).1.2.1.length ≤ 2 ∧ (chuC n s k).1.2.2.length ≤ 2 := by
  unfold chuC noC
  split
  · simp
  split <;> simp

section
variable (o : Int) (ds ss : List Int) (hd : ds.length ≤ 1000) (hs : ss.length ≤ 1000)
include hd hs
theorem one_ (g : FuncId) (cap : List AV) (c : Vw × Int) (hc : ∀ h, toDL h cap = some cap) (hc2 : ownsL cap = []) (hcn : namesL cap = []) (hcb : c.1.2.1.length ≤ 2 ∧ c.1.2.2.length ≤ 2) (hg : Meets Try.prog g (ints [lst ds 1] :: ints [lst ss 1] :: cap) (tupV c)) : Meets Try.prog 56 [vw o ds ss, I 1, .fn g cap] (tupV (stepE o ds ss 1 c)) := by
  refine V3.step o ds ss 1 g cap c hd hs (by omega) hc hc2 hcn (by omega) fun hf hl => ?_
  have := (formed_ok hf).1
  rw [lst1 hl, this, lst1 (by omega)]
  exact hg
theorem two_ (g : FuncId) (cap : List AV) (c : Vw × Int) (hc : ∀ h, toDL h cap = some cap) (hc2 : ownsL cap = []) (hcn : namesL cap = []) (hcb : c.1.2.1.length ≤ 2 ∧ c.1.2.2.length ≤ 2) (hg : Meets Try.prog g (ints [lst ds 2, lst ds 1] :: ints [lst ss 2, lst ss 1] :: cap) (tupV c)) : Meets Try.prog 56 [vw o ds ss, I 2, .fn g cap] (tupV (stepE o ds ss 2 c)) := by
  refine V3.step o ds ss 2 g cap c hd hs (by omega) hc hc2 hcn (by omega) fun hf hl => ?_
  have := (formed_ok hf).1
  rw [lst2 hl, this, lst2 (by omega)]
  exact hg

theorem vtake (k : Int) : Meets Try.prog 31 [vw o ds ss, I k] (tupV (stepE o ds ss 1 (takeC (lst ds 1) (lst ss 1) k))) := by
  have h := one_ o ds ss hd hs 59 [.dptr [I k]] _ (fun _ => rfl) rfl rfl (takeC_len _ _ _) (take1 (lst ds 1) (lst ss 1) k)
  generalize stepE o ds ss 1 (takeC (lst ds 1) (lst ss 1) k) = r at *
  refine meets_of (X := false) Ty.mixed Try.func31 (by kernel_rfl) rfl (by kernel_rfl) (by simp) ?_; rw [Try.ntmps31, Try.results31]
  simp only [awp_reg, awp_seq, seqQ_n, awpOps_nil, awpOps_one, awpOp_is, isCallV, callW_is, callV_is, putK_is, updK_is, put_s, upd_s, slot_is, pureOp, apureO, astepO, killT, aev, cv, cvc, elO_s, loadA_p, cellsA, cellOk, argT, Bool.false_eq_true, ↓reduceIte, List.getElem?_cons_zero, List.length_cons, List.length_nil, List.map_cons, List.map_nil, List.cons_append, List.nil_append, List.append_nil, List.take_succ_cons, List.drop_zero, List.all_cons, List.all_nil, Bool.true_and, Bool.and_self, Value.oneCell', true_and, and_self, reduceCtorEq, Nat.reduceAdd, Nat.reduceEqDiff, Nat.zero_add, Nat.le_refl, List.take_nil, List.size_toArray, Ty.td28]
  refine call_meets (h) (by simp only [aev, cv, cvc, isD_c, isDL_nil, isDL_cons, toD_c, toD_agg, toD_sl, toD_fn, toD_ptr, consO_some, toDL_nil, toDL_cons, ↓reduceIte, List.getElem?_cons_zero, List.getElem?_cons_succ, Option.map_some, List.drop_zero, Bool.and_self, and_self] <;> rfl) ?_; simp only [awp_ret, seqQ_n, awpOps_nil, awpOps_one, awpOp_is, isCallV, putK_is, updK_is, put_s, upd_n, upd_s, slot_is, retA_is, pureOp, apureO, astepO, ptrD_is, killT, killB, killH, aev, cv, cvc, elO_s, loadA_p, storeA, cellsA, cellOk, setAll, dropL, flat_c, flat_tup, flat_agg, flat_sl, flatL_nil, flatL_cons, isD_c, isDL_nil, isDL_cons, ownsV_c, ownsV_agg, ownsV_sl, ownsV_fn, ownsV_ptr, ownsL_nil, ownsL_cons, toD_c, toD_tup, toD_agg, toD_sl, consO_some, toDL_nil, toDL_cons, killV_c, killV_nils, killV_agg, killV_sl, killV_fn, killV_ptr, killL_nil, killL_cons, notExit, resA_nil, resA_tmp, resA_cell, oneA_2, Bool.false_eq_true, ↓reduceIte, List.getElem?_cons_zero, List.getElem?_cons_succ, List.length_cons, List.length_nil, List.map_cons, List.map_nil, List.nil_append, List.append_nil, List.set_cons_zero, List.set_cons_succ, Option.map_some, Option.map_none, List.take_succ_cons, List.drop_zero, Bool.and_true, Bool.true_and, Bool.and_false, Bool.and_self, Bool.or_false, true_and, and_true, and_self, reduceCtorEq, Nat.reduceAdd, Nat.reduceEqDiff, Nat.zero_add, List.isEmpty_cons, List.mem_cons, List.not_mem_nil, or_false, List.zipIdx_cons, List.zipIdx_nil, Nat.le_refl, List.take_nil, Ty.td28]
theorem vdrop (k : Int) : Meets Try.prog 32 [vw o ds ss, I k] (tupV (stepE o ds ss 1 (dropC (lst ds 1) (lst ss 1) k))) := by
  have h := one_ o ds ss hd hs 60 [.dptr [I k]] _ (fun _ => rfl) rfl rfl (dropC_len _ _ _) (drop1 (lst ds 1) (lst ss 1) k)
  generalize stepE o ds ss 1 (dropC (lst ds 1) (lst ss 1) k) = r at *
  refine meets_of (X := false) Ty.mixed Try.func32 (by kernel_rfl) rfl (by kernel_rfl) (by simp) ?_; rw [Try.ntmps32, Try.results32]
  simp only [awp_reg, awp_seq, seqQ_n, awpOps_nil, awpOps_one, awpOp_is, isCallV, callW_is, callV_is, putK_is, updK_is, put_s, upd_s, slot_is, pureOp, apureO, astepO, killT, aev, cv, cvc, elO_s, loadA_p, cellsA, cellOk, argT, Bool.false_eq_true, ↓reduceIte, List.getElem?_cons_zero, List.length_cons, List.length_nil, List.map_cons, List.map_nil, List.cons_append, List.nil_append, List.append_nil, List.take_succ_cons, List.drop_zero, List.all_cons, List.all_nil, Bool.true_and, Bool.and_self, Value.oneCell', true_and, and_self, reduceCtorEq, Nat.reduceAdd, Nat.reduceEqDiff, Nat.zero_add, Nat.le_refl, List.take_nil, List.size_toArray, Ty.td28]
  refine call_meets (h) (by simp only [aev, cv, cvc, isD_c, isDL_nil, isDL_cons, toD_c, toD_agg, toD_sl, toD_fn, toD_ptr, consO_some, toDL_nil, toDL_cons, ↓reduceIte, List.getElem?_cons_zero, List.getElem?_cons_succ, Option.map_some, List.drop_zero, Bool.and_self, and_self] <;> rfl) ?_; simp only [awp_ret, seqQ_n, awpOps_nil, awpOps_one, awpOp_is, isCallV, putK_is, updK_is, put_s, upd_n, upd_s, slot_is, retA_is, pureOp, apureO, astepO, ptrD_is, killT, killB, killH, aev, cv, cvc, elO_s, loadA_p, storeA, cellsA, cellOk, setAll, dropL, flat_c, flat_tup, flat_agg, flat_sl, flatL_nil, flatL_cons, isD_c, isDL_nil, isDL_cons, ownsV_c, ownsV_agg, ownsV_sl, ownsV_fn, ownsV_ptr, ownsL_nil, ownsL_cons, toD_c, toD_tup, toD_agg, toD_sl, consO_some, toDL_nil, toDL_cons, killV_c, killV_nils, killV_agg, killV_sl, killV_fn, killV_ptr, killL_nil, killL_cons, notExit, resA_nil, resA_tmp, resA_cell, oneA_2, Bool.false_eq_true, ↓reduceIte, List.getElem?_cons_zero, List.getElem?_cons_succ, List.length_cons, List.length_nil, List.map_cons, List.map_nil, List.nil_append, List.append_nil, List.set_cons_zero, List.set_cons_succ, Option.map_some, Option.map_none, List.take_succ_cons, List.drop_zero, Bool.and_true, Bool.true_and, Bool.and_false, Bool.and_self, Bool.or_false, true_and, and_true, and_self, reduceCtorEq, Nat.reduceAdd, Nat.reduceEqDiff, Nat.zero_add, List.isEmpty_cons, List.mem_cons, List.not_mem_nil, or_false, List.zipIdx_cons, List.zipIdx_nil, Nat.le_refl, List.take_nil, Ty.td28]
theorem vrev : Meets Try.prog 29 [vw o ds ss] (tupV (stepE o ds ss 1 (revC (lst ds 1) (lst ss 1)))) := by
  have h := one_ o ds ss hd hs 57 [] _ (fun _ => rfl) rfl rfl (by simp [revC]) (rev1 (lst ds 1) (lst ss 1))
  generalize stepE o ds ss 1 (revC (lst ds 1) (lst ss 1)) = r at *
  refine meets_of (X := false) Ty.mixed Try.func29 (by kernel_rfl) rfl (by kernel_rfl) (by simp) ?_; rw [Try.ntmps29, Try.results29]
  simp only [awp_reg, awp_seq, seqQ_n, awpOps_nil, awpOps_one, awpOp_is, isCallV, callW_is, callV_is, putK_is, updK_is, put_s, upd_s, slot_is, pureOp, apureO, astepO, killT, aev, cv, cvc, elO_s, loadA_p, cellsA, cellOk, argT, Bool.false_eq_true, ↓reduceIte, List.getElem?_cons_zero, List.length_cons, List.length_nil, List.map_cons, List.map_nil, List.cons_append, List.nil_append, List.append_nil, List.take_succ_cons, List.drop_zero, List.all_cons, List.all_nil, Bool.true_and, Bool.and_self, Value.oneCell', true_and, and_self, Nat.reduceAdd, Nat.reduceEqDiff, Nat.zero_add, Nat.le_refl, List.take_nil, Ty.td28]
  refine call_meets (h) (by simp only [aev, cv, cvc, toD_c, toD_agg, toD_sl, toD_fn, consO_some, toDL_nil, toDL_cons, Option.map_some] <;> rfl) ?_; simp only [awp_ret, seqQ_n, awpOps_nil, awpOps_one, awpOp_is, isCallV, putK_is, updK_is, put_s, upd_n, upd_s, slot_is, retA_is, pureOp, apureO, astepO, killT, aev, cv, cvc, elO_s, loadA_p, storeA, cellsA, cellOk, setAll, flat_c, flat_tup, flat_agg, flat_sl, flatL_nil, flatL_cons, ownsV_c, ownsV_agg, ownsV_sl, ownsV_fn, ownsL_nil, ownsL_cons, toD_c, toD_tup, toD_agg, toD_sl, consO_some, toDL_nil, toDL_cons, notExit, resA_nil, resA_tmp, resA_cell, oneA_2, Bool.false_eq_true, ↓reduceIte, List.getElem?_cons_zero, List.getElem?_cons_succ, List.length_cons, List.length_nil, List.append_nil, List.set_cons_zero, List.set_cons_succ, Option.map_some, List.take_succ_cons, List.drop_zero, Bool.and_true, Bool.true_and, Bool.and_false, Bool.and_self, Bool.or_true, true_and, and_true, and_self, Nat.reduceAdd, Nat.reduceEqDiff, Nat.zero_add, List.isEmpty_nil, Nat.le_refl, List.take_nil, Ty.td28]
theorem vtr : Meets Try.prog 30 [vw o ds ss] (tupV (stepE o ds ss 2 (trC (lst ds 2) (lst ds 1) (lst ss 2) (lst ss 1)))) := by
  have h := two_ o ds ss hd hs 58 [] _ (fun _ => rfl) rfl rfl (by simp [trC]) (tr1 (lst ds 2) (lst ds 1) (lst ss 2) (lst ss 1))
  generalize stepE o ds ss 2 (trC (lst ds 2) (lst ds 1) (lst ss 2) (lst ss 1)) = r at *
  refine meets_of (X := false) Ty.mixed Try.func30 (by kernel_rfl) rfl (by kernel_rfl) (by simp) ?_; rw [Try.ntmps30, Try.results30]
  simp only [awp_reg, awp_seq, seqQ_n, awpOps_nil, awpOps_one, awpOp_is, isCallV, callW_is, callV_is, putK_is, updK_is, put_s, upd_s, slot_is, pureOp, apureO, astepO, killT, aev, cv, cvc, elO_s, loadA_p, cellsA, cellOk, argT, Bool.false_eq_true, ↓reduceIte, List.getElem?_cons_zero, List.length_cons, List.length_nil, List.map_cons, List.map_nil, List.cons_append, List.nil_append, List.append_nil, List.take_succ_cons, List.drop_zero, List.all_cons, List.all_nil, Bool.true_and, Bool.and_self, Value.oneCell', true_and, and_self, Nat.reduceAdd, Nat.reduceEqDiff, Nat.zero_add, Nat.le_refl, List.take_nil, Ty.td28]
  refine call_meets (h) (by simp only [aev, cv, cvc, toD_c, toD_agg, toD_sl, toD_fn, consO_some, toDL_nil, toDL_cons, Option.map_some] <;> rfl) ?_; simp only [awp_ret, seqQ_n, awpOps_nil, awpOps_one, awpOp_is, isCallV, putK_is, updK_is, put_s, upd_n, upd_s, slot_is, retA_is, pureOp, apureO, astepO, killT, aev, cv, cvc, elO_s, loadA_p, storeA, cellsA, cellOk, setAll, flat_c, flat_tup, flat_agg, flat_sl, flatL_nil, flatL_cons, ownsV_c, ownsV_agg, ownsV_sl, ownsV_fn, ownsL_nil, ownsL_cons, toD_c, toD_tup, toD_agg, toD_sl, consO_some, toDL_nil, toDL_cons, notExit, resA_nil, resA_tmp, resA_cell, oneA_2, Bool.false_eq_true, ↓reduceIte, List.getElem?_cons_zero, List.getElem?_cons_succ, List.length_cons, List.length_nil, List.append_nil, List.set_cons_zero, List.set_cons_succ, Option.map_some, List.take_succ_cons, List.drop_zero, Bool.and_true, Bool.true_and, Bool.and_false, Bool.and_self, Bool.or_true, true_and, and_true, and_self, Nat.reduceAdd, Nat.reduceEqDiff, Nat.zero_add, List.isEmpty_nil, Nat.le_refl, List.take_nil, Ty.td28]
theorem vdia : Meets Try.prog 36 [vw o ds ss] (tupV (stepE o ds ss 2 (diaC (lst ds 2) (lst ds 1) (lst ss 2) (lst ss 1)))) := by
  have h := two_ o ds ss hd hs 63 [] _ (fun _ => rfl) rfl rfl (diaC_len _ _ _ _) (dia1 (lst ds 2) (lst ds 1) (lst ss 2) (lst ss 1))
  generalize stepE o ds ss 2 (diaC (lst ds 2) (lst ds 1) (lst ss 2) (lst ss 1)) = r at *
  refine meets_of (X := false) Ty.mixed Try.func36 (by kernel_rfl) rfl (by kernel_rfl) (by simp) ?_; rw [Try.ntmps36, Try.results36]
  simp only [awp_reg, awp_seq, seqQ_n, awpOps_nil, awpOps_one, awpOp_is, isCallV, callW_is, callV_is, putK_is, updK_is, put_s, upd_s, slot_is, pureOp, apureO, astepO, killT, aev, cv, cvc, elO_s, loadA_p, cellsA, cellOk, argT, Bool.false_eq_true, ↓reduceIte, List.getElem?_cons_zero, List.length_cons, List.length_nil, List.map_cons, List.map_nil, List.cons_append, List.nil_append, List.append_nil, List.take_succ_cons, List.drop_zero, List.all_cons, List.all_nil, Bool.true_and, Bool.and_self, Value.oneCell', true_and, and_self, Nat.reduceAdd, Nat.reduceEqDiff, Nat.zero_add, Nat.le_refl, List.take_nil, Ty.td28]
  refine call_meets (h) (by simp only [aev, cv, cvc, toD_c, toD_agg, toD_sl, toD_fn, consO_some, toDL_nil, toDL_cons, Option.map_some] <;> rfl) ?_; simp only [awp_ret, seqQ_n, awpOps_nil, awpOps_one, awpOp_is, isCallV, putK_is, updK_is, put_s, upd_n, upd_s, slot_is, retA_is, pureOp, apureO, astepO, killT, aev, cv, cvc, elO_s, loadA_p, storeA, cellsA, cellOk, setAll, flat_c, flat_tup, flat_agg, flat_sl, flatL_nil, flatL_cons, ownsV_c, ownsV_agg, ownsV_sl, ownsV_fn, ownsL_nil, ownsL_cons, toD_c, toD_tup, toD_agg, toD_sl, consO_some, toDL_nil, toDL_cons, notExit, resA_nil, resA_tmp, resA_cell, oneA_2, Bool.false_eq_true, ↓reduceIte, List.getElem?_cons_zero, List.getElem?_cons_succ, List.length_cons, List.length_nil, List.append_nil, List.set_cons_zero, List.set_cons_succ, Option.map_some, List.take_succ_cons, List.drop_zero, Bool.and_true, Bool.true_and, Bool.and_false, Bool.and_self, Bool.or_true, true_and, and_true, and_self, Nat.reduceAdd, Nat.reduceEqDiff, Nat.zero_add, List.isEmpty_nil, Nat.le_refl, List.take_nil, Ty.td28]
theorem vwin (k : Int) : Meets Try.prog 33 [vw o ds ss, I k] (tupV (stepE o ds ss 1 (winC (lst ds 1) (lst ss 1) k))) := by
  have h := one_ o ds ss hd hs 61 [.dptr [I k]] _ (fun _ => rfl) rfl rfl (winC_len _ _ _) (win1 (lst ds 1) (lst ss 1) k)
  generalize stepE o ds ss 1 (winC (lst ds 1) (lst ss 1) k) = r at *
  refine meets_of (X := false) Ty.mixed Try.func33 (by kernel_rfl) rfl (by kernel_rfl) (by simp) ?_; rw [Try.ntmps33, Try.results33]
  simp only [awp_reg, awp_seq, seqQ_n, awpOps_nil, awpOps_one, awpOp_is, isCallV, callW_is, callV_is, putK_is, updK_is, put_s, upd_s, slot_is, pureOp, apureO, astepO, killT, aev, cv, cvc, elO_s, loadA_p, cellsA, cellOk, argT, Bool.false_eq_true, ↓reduceIte, List.getElem?_cons_zero, List.length_cons, List.length_nil, List.map_cons, List.map_nil, List.cons_append, List.nil_append, List.append_nil, List.take_succ_cons, List.drop_zero, List.all_cons, List.all_nil, Bool.true_and, Bool.and_self, Value.oneCell', true_and, and_self, reduceCtorEq, Nat.reduceAdd, Nat.reduceEqDiff, Nat.zero_add, Nat.le_refl, List.take_nil, List.size_toArray, Ty.td28]
  refine call_meets (h) (by simp only [aev, cv, cvc, isD_c, isDL_nil, isDL_cons, toD_c, toD_agg, toD_sl, toD_fn, toD_ptr, consO_some, toDL_nil, toDL_cons, ↓reduceIte, List.getElem?_cons_zero, List.getElem?_cons_succ, Option.map_some, List.drop_zero, Bool.and_self, and_self] <;> rfl) ?_; simp only [awp_ret, seqQ_n, awpOps_nil, awpOps_one, awpOp_is, isCallV, putK_is, updK_is, put_s, upd_n, upd_s, slot_is, retA_is, pureOp, apureO, astepO, ptrD_is, killT, killB, killH, aev, cv, cvc, elO_s, loadA_p, storeA, cellsA, cellOk, setAll, dropL, flat_c, flat_tup, flat_agg, flat_sl, flatL_nil, flatL_cons, isD_c, isDL_nil, isDL_cons, ownsV_c, ownsV_agg, ownsV_sl, ownsV_fn, ownsV_ptr, ownsL_nil, ownsL_cons, toD_c, toD_tup, toD_agg, toD_sl, consO_some, toDL_nil, toDL_cons, killV_c, killV_nils, killV_agg, killV_sl, killV_fn, killV_ptr, killL_nil, killL_cons, notExit, resA_nil, resA_tmp, resA_cell, oneA_2, Bool.false_eq_true, ↓reduceIte, List.getElem?_cons_zero, List.getElem?_cons_succ, List.length_cons, List.length_nil, List.map_cons, List.map_nil, List.nil_append, List.append_nil, List.set_cons_zero, List.set_cons_succ, Option.map_some, Option.map_none, List.take_succ_cons, List.drop_zero, Bool.and_true, Bool.true_and, Bool.and_false, Bool.and_self, Bool.or_false, true_and, and_true, and_self, reduceCtorEq, Nat.reduceAdd, Nat.reduceEqDiff, Nat.zero_add, List.isEmpty_cons, List.mem_cons, List.not_mem_nil, or_false, List.zipIdx_cons, List.zipIdx_nil, Nat.le_refl, List.take_nil, Ty.td28]
theorem vchu (k : Int) : Meets Try.prog 35 [vw o ds ss, I k] (tupV (stepE o ds ss 1 (chuC (lst ds 1) (lst ss 1) k))) := by
  have h := one_ o ds ss hd hs 62 [.dptr [I k]] _ (fun _ => rfl) rfl rfl (chuC_len _ _ _) (chu1 (lst ds 1) (lst ss 1) k)
  generalize stepE o ds ss 1 (chuC (lst ds 1) (lst ss 1) k) = r at *
  refine meets_of (X := false) Ty.mixed Try.func35 (by kernel_rfl) rfl (by kernel_rfl) (by simp) ?_; rw [Try.ntmps35, Try.results35]
  simp only [awp_reg, awp_seq, seqQ_n, awpOps_nil, awpOps_one, awpOp_is, isCallV, callW_is, callV_is, putK_is, updK_is, put_s, upd_s, slot_is, pureOp, apureO, astepO, killT, aev, cv, cvc, elO_s, loadA_p, cellsA, cellOk, argT, Bool.false_eq_true, ↓reduceIte, List.getElem?_cons_zero, List.length_cons, List.length_nil, List.map_cons, List.map_nil, List.cons_append, List.nil_append, List.append_nil, List.take_succ_cons, List.drop_zero, List.all_cons, List.all_nil, Bool.true_and, Bool.and_self, Value.oneCell', true_and, and_self, reduceCtorEq, Nat.reduceAdd, Nat.reduceEqDiff, Nat.zero_add, Nat.le_refl, List.take_nil, List.size_toArray, Ty.td28]
  refine call_meets (h) (by simp only [aev, cv, cvc, isD_c, isDL_nil, isDL_cons, toD_c, toD_agg, toD_sl, toD_fn, toD_ptr, consO_some, toDL_nil, toDL_cons, ↓reduceIte, List.getElem?_cons_zero, List.getElem?_cons_succ, Option.map_some, List.drop_zero, Bool.and_self, and_self] <;> rfl) ?_; simp only [awp_ret, seqQ_n, awpOps_nil, awpOps_one, awpOp_is, isCallV, putK_is, updK_is, put_s, upd_n, upd_s, slot_is, retA_is, pureOp, apureO, astepO, ptrD_is, killT, killB, killH, aev, cv, cvc, elO_s, loadA_p, storeA, cellsA, cellOk, setAll, dropL, flat_c, flat_tup, flat_agg, flat_sl, flatL_nil, flatL_cons, isD_c, isDL_nil, isDL_cons, ownsV_c, ownsV_agg, ownsV_sl, ownsV_fn, ownsV_ptr, ownsL_nil, ownsL_cons, toD_c, toD_tup, toD_agg, toD_sl, consO_some, toDL_nil, toDL_cons, killV_c, killV_nils, killV_agg, killV_sl, killV_fn, killV_ptr, killL_nil, killL_cons, notExit, resA_nil, resA_tmp, resA_cell, oneA_2, Bool.false_eq_true, ↓reduceIte, List.getElem?_cons_zero, List.getElem?_cons_succ, List.length_cons, List.length_nil, List.map_cons, List.map_nil, List.nil_append, List.append_nil, List.set_cons_zero, List.set_cons_succ, Option.map_some, Option.map_none, List.take_succ_cons, List.drop_zero, Bool.and_true, Bool.true_and, Bool.and_false, Bool.and_self, Bool.or_false, true_and, and_true, and_self, reduceCtorEq, Nat.reduceAdd, Nat.reduceEqDiff, Nat.zero_add, List.isEmpty_cons, List.mem_cons, List.not_mem_nil, or_false, List.zipIdx_cons, List.zipIdx_nil, Nat.le_refl, List.take_nil, Ty.td28]
end

/-! The view of dimensions. -/
def strd : List Int → List Int × Int
  | [] => ([], 1)
  | d :: ds => ((strd ds).2 :: (strd ds).1, IntKind.i64.wrap ((strd ds).2 * d))
theorem strd_len : ∀ ds : List Int, (strd ds).1.length = ds.length
  | [] => rfl
  | d :: ds => by simp [strd, strd_len ds]
def ofV (ds : List Int) : Vw × Int := if (sizeE ds).2 ≠ 0 then noC (sizeE ds).2 else ((0, ds, (strd ds).1), 0)
def strdAt (ds : List Int) (j : Nat) : List Int := List.replicate j 0 ++ (strd (ds.drop j)).1
theorem strdAt_len {ds : List Int} {j : Nat} (h : j ≤ ds.length) : (strdAt ds j).length = ds.length := by
  rw [strdAt, List.length_append, List.length_replicate, strd_len, List.length_drop]; omega
theorem strdAt_step {ds : List Int} {i : Nat} (h : i < ds.length) : (strdAt ds (i + 1)).set i (strd (ds.drop (i + 1))).2 = strdAt ds i ∧ (strd (ds.drop i)).2 = IntKind.i64.wrap ((strd (ds.drop (i + 1))).2 * ds[i]) := by
  rw [strdAt, strdAt, List.drop_eq_getElem_cons h, strd]
  refine ⟨?_, rfl⟩
  rw [List.replicate_succ', List.append_assoc, List.set_append_right _ _ (by simp), List.length_replicate, Nat.sub_self]
  rfl

theorem vof (ds : List Int) (hd : ds.length ≤ 1000000) : Meets Try.prog 11 [ints ds] (tupV (ofV ds)) := by
  have hz := size ds hd
  have hcl := cloneInts ds hd
  unfold ofV
  generalize sizeE ds = z at *
  obtain ⟨n, z⟩ := z
  simp only
  by_cases hz0 : z = 0
  case neg =>
    rw [if_pos hz0]
    refine Meets.weak (r0 := zeroW z) ?_ zero_vw
    refine meets_of (X := false) Ty.mixed Try.func11 (by kernel_rfl) rfl (by kernel_rfl) (by simp) ?_; rw [Try.ntmps11, Try.results11]
    simp only [awp_reg, awp_seq, seqQ_n, awpOps_nil, awpOps_one, awpOp_is, isCallV, callW_is, callV_is, putK_is, updK_is, put_s, upd_s, slot_is, pureOp, apureO, astepO, killT, aev, cv, cvc, elO_s, argT, Bool.false_eq_true, ↓reduceIte, List.length_nil, List.map_cons, List.map_nil, List.nil_append, List.append_nil, List.all_cons, List.all_nil, Bool.true_and, Bool.and_self, Value.oneCell', true_and, and_self, reduceCtorEq, Ty.td28]
    refine call_meets (hz) (by simp only [aev, cv, cvc, toD_sl, consO_some, toDL_nil, toDL_cons, show (z != 0) = true by simpa using hz0] <;> rfl) ?_; simp only [awp_reg, awp_seq, awp_cond, awp_ret, seqQ_n, seqQ_r, awpOps_nil, awpOps_one, awpOp_is, isCallV, putK_is, updK_is, put_s, upd_n, upd_s, slot_is, slot.eq_1, retA_is, pureOp, apureO, astepO, killT, aev, cv, cvc, binK, elO_s, loadA_p, storeA, cellsA, cellOk, setAll, fillA, placeT, placesA, condA_t, flat_c, flat_tup, flatL_nil, flatL_cons, ownsV_sl, ownsL_nil, ownsL_cons, toD_c, toD_nils, toD_tup, toD_agg, consO_some, toDL_nil, toDL_cons, notExit, resA_nil, resA_tmp, resA_cell, oneA_2, Bool.false_eq_true, ↓reduceIte, List.getElem?_cons_zero, List.getElem?_cons_succ, List.length_cons, List.length_nil, List.map_cons, List.map_nil, List.append_nil, List.set_cons_zero, List.set_cons_succ, Option.map_some, List.take_succ_cons, List.drop_zero, List.all_cons, List.all_nil, Bool.true_and, Bool.and_self, Bool.or_true, Value.oneCell', true_and, and_self, ne_eq, not_false_eq_true, reduceCtorEq, Nat.reduceAdd, Nat.reduceEqDiff, Nat.zero_add, List.isEmpty_nil, Nat.le_refl, List.take_nil, Ty.td3, Ty.td22, Ty.td28, show (z != 0) = true by simpa using hz0]
  subst hz0
  rw [if_neg (by simp)]
  refine meets_of (X := false) Ty.mixed Try.func11 (by kernel_rfl) rfl (by kernel_rfl) (by simp) ?_; rw [Try.ntmps11, Try.results11]
  simp only [awp_reg, awp_seq, seqQ_n, awpOps_nil, awpOps_one, awpOp_is, isCallV, callW_is, callV_is, putK_is, updK_is, put_s, upd_s, slot_is, pureOp, apureO, astepO, killT, aev, cv, cvc, elO_s, argT, Bool.false_eq_true, ↓reduceIte, List.length_nil, List.map_cons, List.map_nil, List.nil_append, List.append_nil, List.all_cons, List.all_nil, Bool.true_and, Bool.and_self, Value.oneCell', true_and, and_self, reduceCtorEq, Ty.td28]
  refine call_meets (hz) (by simp only [aev, cv, cvc, toD_sl, consO_some, toDL_nil, toDL_cons] <;> rfl) ?_; simp only [awp_skip, awp_reg, awp_regD, awp_seq, awp_cond, seqQ_n, awpOps_nil, awpOps_one, awpOp_is, lastOnly_cons, putK_is, put_s, upd_s, slot_is, keepOp, pureOp, apureO, killT, aev, cv, cvc, binK, elO_s, condA_f, flat_c, flat_tup, flatL_nil, flatL_cons, ownsV_sl, ownsL_nil, ownsL_cons, Bool.false_eq_true, ↓reduceIte, List.getElem?_cons_zero, List.getElem?_cons_succ, List.append_nil, Bool.true_and, Bool.and_self, Bool.or_true, true_and, and_self, Nat.reduceEqDiff, List.isEmpty_nil, List.isEmpty_cons, bne_self_eq_false]
  refine drawS_wild ?_; simp (config := {maxSteps := 2000000}) only [isCallV, slot_is, pureOp, apureO, killT, killB, aev, cv, cvc, killV_c, killV_nils, killL_nil, killL_cons, Bool.false_eq_true, ↓reduceIte, List.getElem?_cons_zero, List.length_cons, List.length_nil, List.map_cons, List.map_nil, List.nil_append, List.append_nil, List.drop_succ_cons, List.all_nil, Bool.true_and, Bool.and_self, Bool.false_or, true_and, and_self, reduceCtorEq, Nat.reduceLT, Nat.reduceLeDiff, Nat.zero_add, List.not_mem_nil, false_or, List.range_succ, List.range_zero, decide_true, List.zipIdx_cons, List.zipIdx_nil, Nat.le_refl, List.drop_nil, awpW_one, wRun_is, wOp_is, callXW_is, callXV_is, keepK_is, contW_is, nextW_s, confs_nil, opV_move, opV_call, tch_move, rd_move, rd_callv, namesV_sl, namesV_fn, namesL_nil, namesL_cons, namesH_nil, namesH_cons, namesB_none, killO_s, allLt_is, maskH_is, mergeH_is, setH_is, newL_is, refsT, refsH, refsV, refsL]
  refine callx_meets (hcl) (by simp (config := {maxSteps := 2000000}) only [aev, cv, cvc, toD_sl, consO_some, toDL_nil, toDL_cons] <;> rfl) (by simp (config := {maxSteps := 2000000}) only [aev, cv, cvc, flat_sl, ownsV_sl, ownsL_nil, ownsL_cons, List.append_nil, Bool.or_true, List.isEmpty_nil]) ?_; simp (config := {maxSteps := 2000000}) only [awp_reg, awp_seq, awp_block, awp_loop, seqQ_n, awpOps_nil, awpOps_one, awpOp_is, isCallV, putK_is, put_s, slot_is, slot.eq_1, pureOp, apureO, astepO, killT, killB, aev, cv, cvc, binK, elO_s, lenA, lenK, storeA, cellsA, cellOk, setAll, fillA, placeT, placesA, killV_c, killV_nils, killL_nil, killL_cons, Int.natCast_nonneg, Bool.false_eq_true, ↓reduceIte, List.getElem?_cons_zero, List.getElem?_cons_succ, List.length_cons, List.length_nil, List.map_cons, List.map_nil, List.cons_append, List.nil_append, List.append_nil, List.set_cons_zero, List.set_cons_succ, List.drop_succ_cons, List.drop_zero, List.all_cons, List.all_nil, Bool.true_and, Bool.and_self, Bool.or_true, Bool.true_or, Bool.false_or, Bool.or_false, Value.oneCell', true_and, and_self, ne_eq, not_false_eq_true, reduceCtorEq, Nat.reduceAdd, Nat.reduceLT, Nat.reduceLeDiff, Nat.reduceEqDiff, Nat.zero_add, List.mem_cons, List.not_mem_nil, or_false, false_or, Int.toNat_natCast, List.range_succ, List.range_zero, Option.isSome_some, decide_true, List.zipIdx_cons, List.zipIdx_nil, Nat.le_refl, List.drop_nil, Int.le_refl, List.any_cons, List.any_nil, true_or, awpW_nil, awpW_one, wRun_is, wOp_is, keepK_is, stepK_is, contW_is, nextW_n, nextW_s, confs_nil, confs_cons, conf_is, meet_nil, meet_cons, opV_move, opV_alloc, opV_store, opV_makeSlice, opV_build, opV_call, opV_builtin, tch_move, tch_alloc, tch_makeSlice, tch_build, tch_callv, tch_len, tch_store, rd_move, rd_alloc, rd_makeSlice, rd_build, rd_callv, rd_len, rd_store, namesV_c, namesV_nils, namesV_junk, namesV_sl, namesV_ptr, namesV_own, namesV_agg, namesV_fn, namesL_nil, namesL_cons, namesH_nil, namesH_cons, namesB_var, namesB_row, namesB_none, killO_s, allLt_is, maskH_is, mergeH_is, setH_is, newL_is, Bool.or_self, true_or, Nat.reduceBEq, Ty.td3, Ty.td22, Ty.td28, List.length_map]
  refine ⟨by omega, by omega, by kernel_rfl, ?_⟩
  have e0 : (strdAt ds ds.length).map enc = List.replicate ds.length [.c (.int .i64 0)] := by rw [strdAt, List.drop_length, strd, List.append_nil, List.map_replicate]
  have e1 : (strd (ds.drop ds.length)).2 = 1 := by rw [List.drop_length, strd]
  refine loop_k (fun j : Nat => j ≤ ds.length) (fun j => ⟨43, [(8, I ((j : Int) - 1)), (7, I (strd (ds.drop j)).2), (0, ints ds), (6, .ptr 2 0), (2, .ptr 0 0)], [some (.var 28 [I 0, .nils, .nils]), some (.row 3 1 ((strdAt ds j).map enc)), some (.var 28 [I 0, ints ds, .own 1 1 ds.length])]⟩) (fun j => j) ds.length (Nat.le_refl _) (by simp only [slot_is, aev, cv, cvc, Weak, ↓reduceIte, Bool.and_self, and_self, reduceCtorEq, Nat.reduceEqDiff, e1, wrap_in (x := (ds.length : Int) - 1) (by omega) (by omega)]) rfl (by simp only [e0]) ?_
  intro j hj K hK
  simp only at hK
  cases j with
  | zero =>
    have ht : List.take ds.length (List.map enc (strd ds).1) = List.map enc (strd ds).1 := List.take_of_length_le (by rw [List.length_map, strd_len]; exact Nat.le_refl _)
    simp only [awp_reg, awp_seq, awp_cond, awp_exit, awp_ret, seqQ_n, seqQ_e, loopQ_e, blkQ_e, awpOps_nil, awpOps_one, awpOp_is, isCallV, putK_is, updK_is, put_s, upd_n, slot_is, retA_is, pureOp, apureO, astepO, killT, aev, cv, cvc, binK, elO_s, loadA_p, storeA, cellsA, cellOk, setAll, condA_f, elemsA, toD_c, toD_nils, toD_tup, toD_agg, toD_sl, toD_own, consO_some, toDL_nil, toDL_cons, notExit, resA_nil, resA_tmp, resA_cell, oneA_2, Bool.false_eq_true, ↓reduceIte, List.getElem?_cons_zero, List.getElem?_cons_succ, List.length_cons, List.length_nil, List.set_cons_zero, List.set_cons_succ, Option.map_some, List.take_succ_cons, List.drop_zero, Bool.true_and, Bool.and_self, Value.oneCell', true_and, and_self, reduceCtorEq, Nat.reduceAdd, Nat.reduceLeDiff, Nat.reduceEqDiff, Nat.zero_add, Nat.le_refl, List.take_nil, Ty.td28, show ((0 : Nat) : Int) - 1 = -1 by omega, show decide ((0 : Int) ≤ -1) = false by decide, List.length_map, strd_len ds, ht, show strdAt ds 0 = (strd ds).1 from rfl]
  | succ i =>
    have hlt : i < ds.length := by omega
    have hx : ds[i]? = some ds[i] := List.getElem?_eq_getElem hlt
    obtain ⟨s1, s2⟩ := strdAt_step hlt
    have hsl := strdAt_len (show i + 1 ≤ ds.length by omega)
    have hg : (strdAt ds (i + 1))[i]? = some (strdAt ds (i + 1))[i] := List.getElem?_eq_getElem (by omega)
    have hset : (List.map enc (strdAt ds (i + 1))).set i [I (strd (ds.drop (i + 1))).2] = List.map enc (strdAt ds i) := by rw [← s1, List.map_set]
    generalize (strdAt ds (i + 1))[i] = old at *
    generalize ds[i] = d at *
    simp only [awp_skip, awp_reg, awp_seq, awp_cond, awp_block, seqQ_n, loopQ_n, blkQ_n, awpOps_nil, awpOps_one, awpOp_is, isCallV, putK_is, updK_is, put_s, upd_n, slot_is, pureOp, apureO, astepO, killT, aev, cv, cvc, binK, elO_s, loadA_d, loadA_p, storeA, cellsA, cellOk, setAll, condA_t, isD_c, isDL_nil, isDL_cons, Int.natCast_nonneg, Bool.false_eq_true, ↓reduceIte, List.getElem?_cons_zero, List.getElem?_cons_succ, List.length_cons, List.length_nil, List.set_cons_zero, List.set_cons_succ, Option.map_some, Bool.true_and, Bool.and_self, Value.oneCell', true_and, and_self, ne_eq, not_false_eq_true, reduceCtorEq, Nat.reduceAdd, Nat.reduceEqDiff, Nat.zero_add, Int.toNat_natCast, decide_true, Nat.le_refl, Ty.td3, Ty.td22, Ty.td28, show ((i + 1 : Nat) : Int) - 1 = (i : Int) by omega, show decide ((0 : Int) ≤ (i : Int)) = true by simp, Int.toNat_natCast, List.getElem?_map, hx, hg, hsl, Nat.mul_one, Nat.mod_one, Nat.div_one, hset, wrap_in (x := (i : Int) - 1) (by omega) (by omega)]
    refine ⟨hlt, ?_⟩
    refine hK i _ (by omega) (by omega) ?_ rfl rfl
    simp only [slot_is, aev, cv, cvc, Weak, ↓reduceIte, Bool.and_self, and_self, reduceCtorEq, Nat.reduceEqDiff, s2]
end Go.Proofs.Ytimagnkdgpfamaa.V4
