/- Linear expressions: the examples of the document. -/
import Derived.Test.YtjgaebomcdkohaaGreatDoorL12
import Derived.Test.YtjgaebomcdkohaaGreatDoorL13
import Derived.Test.YtjgaebomcdkohaaGreatDoorL14
namespace Go.Proofs.YtjgaebomcdkohaaGreatDoor.L15
open Go Go.Proofs.YtjgaebomcdkohaaGreatDoor.Eng Go.Proofs.YtjgaebomcdkohaaGreatDoor Go.RowKit Go.Proofs.YtjgaebomcdkohaaGreatDoor.L1 Go.Proofs.YtjgaebomcdkohaaGreatDoor.L2 Go.Proofs.YtjgaebomcdkohaaGreatDoor.L3 Go.Proofs.YtjgaebomcdkohaaGreatDoor.L4 Go.Proofs.YtjgaebomcdkohaaGreatDoor.L5 Go.Proofs.YtjgaebomcdkohaaGreatDoor.L6 Go.Proofs.YtjgaebomcdkohaaGreatDoor.L7 Go.Proofs.YtjgaebomcdkohaaGreatDoor.L8 Go.Proofs.YtjgaebomcdkohaaGreatDoor.L9 Go.Proofs.YtjgaebomcdkohaaGreatDoor.L10 Go.Proofs.YtjgaebomcdkohaaGreatDoor.L11 Go.Proofs.YtjgaebomcdkohaaGreatDoor.L12 Go.Proofs.YtjgaebomcdkohaaGreatDoor.L13 Go.Proofs.YtjgaebomcdkohaaGreatDoor.L14
set_option linter.unusedSimpArgs false
set_option linter.unusedVariables false
set_option linter.unusedSectionVars false
set_option maxRecDepth 100000

/-! The same, for the kernel. -/
def termsK : Option (List UInt8) → List Tm → Bool
  | _, [] => true
  | p, t :: r => !decide (t.2 = 0) && (fitsI t.2 && (nameE t.1 && ((match p with | none => true | some q => Op.bytesLess q (bs t.1)) && termsK (some (bs t.1)) r)))
theorem termsK_is : ∀ (ts : List Tm) (p : Option ByteArray), termsE p ts = termsK (p.map bs) ts
  | [], p => by cases p <;> rfl
  | t :: r, p => by
    rw [termsE_cons, termsK_is r]
    cases p with
    | none => rfl
    | some q => simp only [termsK, ltS, ByteArray.toList_eq]; rfl
def validK (c : Int) (ts : List Tm) : Bool := fitsI c && (decide (ts.length ≤ 12) && termsK none ts)
theorem validK_is (c : Int) (ts : List Tm) : validE c ts = validK c ts := by unfold validE validK; rw [termsK_is]; rfl
def linTK (cs : List Tm) : List Tm := ((isort (cs.map fun t => bs t.1)).map ofL).filterMap fun v => if aget v cs = 0 then none else some (v, aget v cs)
def linearK (c : Int) (cs : List Tm) : (Int × List Tm) × Int := if validK c (linTK cs) = true then ((c, linTK cs), 0) else ((0, []), 3)
theorem linearK_is (c : Int) (cs : List Tm) : linearE c cs = linearK c cs := by
  unfold linearE linearK linT linTK
  rw [sortK_is, validK_is]
def parseK (s : List UInt8) : (Int × List Tm) × Int :=
  match parseL (s.length + 1) true (trimE s) (0, []) with
  | none => ((0, []), 6)
  | some st => linearK st.1 st.2
theorem parseK_is (s : List UInt8) : parseE s = parseK s := by
  unfold parseE parseK
  cases parseL (s.length + 1) true (trimE s) (0, []) with
  | none => rfl
  | some st => exact linearK_is st.1 st.2

theorem pe1 : parseK [50, 110] = ((0, cn2), 0) := by kernel_rfl
theorem pe2 : parseK [109, 32, 45, 32, 49] = ((-1, [(⟨#[109]⟩, 1)]), 0) := by kernel_rfl
theorem pe3 : parseK [51, 32, 42, 32, 110, 32, 45, 32, 110, 43, 32, 50] = ((2, cn2), 0) := by kernel_rfl
theorem pe4 : parseK [110, 43, 109] = ((0, [(⟨#[109]⟩, 1), (⟨#[110]⟩, 1)]), 0) := by kernel_rfl
theorem pe5 : parseK [109, 43, 49] = ((1, [(⟨#[109]⟩, 1)]), 0) := by kernel_rfl
theorem parse_of {l : List UInt8} {r : (Int × List Tm) × Int} (h : parseK l = r) (hl : l.length ≤ 10000) : Meets Tryz.prog 28 [SL l] (linR r) := by
  have := parse ksP atoiOk l hl
  rwa [parseK_is, h] at this

theorem addK : addE (0, cn2) (-1, [(⟨#[109]⟩, 1)]) = ((-1, cm), 0) := by
  unfold addE combineE
  rw [linearK_is, validK_is, validK_is]
  kernel_rfl
theorem m1 : mid cn2 := ⟨by simp, by simp; decide⟩
theorem m2 : mid [((⟨#[109]⟩ : ByteArray), (1 : Int))] := ⟨by simp, by simp; decide⟩
theorem m3 : mid cm := ⟨by simp, by simp; decide⟩
theorem add1 : Meets Tryz.prog 12 [ln 0 cn2, ln (-1) [(⟨#[109]⟩, 1)]] (linR ((-1, cm), 0)) := by
  have := addP ksP 0 cn2 (-1) [(⟨#[109]⟩, 1)] m1 m2
  rwa [addK] at this

theorem bd_imp {ok : Nat → Prop} {w : World} {u : Value} {k : Int} {v : ByteArray} {c : Int} {ts : List Tm} (h : RepD ok w (.sl false 7 [[I k, S v, I c, tms ts, S ⟨#[]⟩, .nils, S ⟨#[]⟩]]) u) : RepD ok w (bds [⟨k, v, c, ts, ⟨#[]⟩, [], ⟨#[]⟩⟩]) u := by
  unfold RepD at h ⊢
  obtain ⟨A, cap, rfl, h1, h2⟩ := h
  refine ⟨A, cap, rfl, h1, fun h => ?_⟩
  obtain ⟨b, o, hA, hok, hE⟩ := h2 h
  refine ⟨b, o, hA, hok, ?_⟩
  simp only [RepEs, RepCs, List.map_cons, List.map_nil] at hE ⊢
  obtain ⟨_, ⟨c0, c1, c2, c3, c4, ⟨u, hu, h1, hn⟩, c6, _⟩, _⟩ := hE
  exact ⟨rfl, ⟨c0, c1, c2, c3, c4, ⟨u, hu, h1, nil_imp hn⟩, c6, trivial⟩, trivial⟩
abbrev b1 : Bd := ⟨1, ⟨#[110]⟩, 1, [(⟨#[109]⟩, 1)], ⟨#[]⟩, [], ⟨#[]⟩⟩
theorem substK : substE 0 [(⟨#[109]⟩, 1), (⟨#[110]⟩, 1)] [b1] = ((1, cm2), 0) := by
  have h : subL [b1] [(⟨#[109]⟩, 1), (⟨#[110]⟩, 1)] (0, []) = some (1, cm2) := by
    simp only [subL, validK_is, byE, List.find?, hitB, ByteArray.toList_eq]
    kernel_rfl
  unfold substE
  rw [h]
  show (if validE 0 [(⟨#[109]⟩, 1), (⟨#[110]⟩, 1)] = true then linearE 1 cm2 else ((0, []), 1)) = _
  rw [validK_is, linearK_is]
  kernel_rfl
theorem okb1 : okB [b1] := ⟨by simp, fun b hb => by simp at hb; subst hb; exact ⟨by simp, by simp; decide⟩⟩
theorem subst1 : Meets Tryz.prog 21 [ln 0 [(⟨#[109]⟩, 1), (⟨#[110]⟩, 1)], .sl false 7 [[I 1, S ⟨#[110]⟩, I 1, tms [(⟨#[109]⟩, 1)], S ⟨#[]⟩, .nils, S ⟨#[]⟩]]] (linR ((1, cm2), 0)) := by
  have := subst ksP 0 [(⟨#[109]⟩, 1), (⟨#[110]⟩, 1)] [b1] okb1 (by simp) (by simp; decide)
  rw [substK] at this
  exact this.args fun ok w vs h => cons_imp (fun _ h => h) (fun us h => cons_imp (fun _ h => bd_imp h) (fun _ h => h) h) h

theorem awake : Meets Tryz.prog 10 [] (B true) := by
  refine meets_of (X := false) Ty.mixed Tryz.func10 (by kernel_rfl) rfl (by kernel_rfl) (by simp) ?_; rw [Tryz.ntmps10, Tryz.results10]
  simp only [awp_reg, awp_seq, seqQ_n, awpOps_nil, awpOps_one, awpOp_is, isCallV, callW_is, callV_is, putK_is, put_s, pureOp, apureO, aev, cv, cvc, argT, isC, bsD, Bool.false_eq_true, ↓reduceIte, List.map_cons, List.map_nil, List.append_nil]
  refine call_meets (parse_of pe1 (by decide)) (by simp only [aev, cv, cvc, toD_c, consO_some, toDL_nil, toDL_cons, isC, bsD] <;> rfl) ?_; simp only [awp_reg, awp_seq, seqQ_n, awpOps_nil, awpOps_one, awpOp_is, isCallV, callW_is, callV_is, putK_is, updK_is, put_s, upd_n, upd_s, slot_is, pureOp, apureO, astepO, killT, aev, cv, cvc, elO_s, storeA, cellsA, cellOk, setAll, flat_c, flat_tup, flat_agg, flat_sl, flatL_nil, flatL_cons, ownsV_c, ownsL_nil, ownsL_cons, isC, bsD, Bool.false_eq_true, ↓reduceIte, List.getElem?_cons_zero, List.getElem?_cons_succ, List.length_cons, List.length_nil, List.map_cons, List.map_nil, List.nil_append, List.append_nil, List.set_cons_zero, List.set_cons_succ, List.all_cons, List.all_nil, Bool.and_true, Bool.true_and, Bool.and_false, Bool.and_self, Bool.or_true, Value.oneCell', true_and, and_true, and_self, Nat.reduceAdd, Nat.reduceEqDiff, Nat.zero_add, List.isEmpty_nil, Nat.le_refl, Ty.td24]
  refine call_meets (parse_of pe2 (by decide)) (by simp only [aev, cv, cvc, toD_c, consO_some, toDL_nil, toDL_cons, isC, bsD] <;> rfl) ?_; simp only [awp_reg, awp_seq, seqQ_n, awpOps_nil, awpOps_one, awpOp_is, isCallV, callW_is, callV_is, putK_is, updK_is, put_s, upd_n, upd_s, slot_is, pureOp, apureO, astepO, killT, aev, cv, cvc, elO_s, loadA_p, storeA, cellsA, cellOk, setAll, flat_c, flat_tup, flat_agg, flat_sl, flatL_nil, flatL_cons, ownsV_c, ownsL_nil, ownsL_cons, isC, bsD, Bool.false_eq_true, ↓reduceIte, List.getElem?_cons_zero, List.getElem?_cons_succ, List.length_cons, List.length_nil, List.map_cons, List.map_nil, List.cons_append, List.nil_append, List.append_nil, List.set_cons_zero, List.set_cons_succ, List.take_succ_cons, List.drop_zero, List.all_cons, List.all_nil, Bool.and_true, Bool.true_and, Bool.and_false, Bool.and_self, Bool.or_true, Value.oneCell', true_and, and_true, and_self, Nat.reduceAdd, Nat.reduceEqDiff, Nat.zero_add, List.isEmpty_nil, Nat.le_refl, List.take_nil, Ty.td24]
  refine call_meets (add1) (by simp only [aev, cv, cvc, toD_c, toD_agg, toD_sl, consO_some, toDL_nil, toDL_cons, isC, bsD, List.map_cons, List.map_nil, Option.map_some] <;> rfl) ?_; simp only [awp_reg, awp_seq, seqQ_n, awpOps_nil, awpOps_one, awpOp_is, isCallV, callW_is, callV_is, putK_is, updK_is, put_s, upd_n, upd_s, slot_is, pureOp, apureO, astepO, killT, aev, cv, cvc, elO_s, storeA, cellsA, cellOk, setAll, flat_c, flat_tup, flat_agg, flat_sl, flatL_nil, flatL_cons, ownsV_c, ownsV_agg, ownsV_sl, ownsL_nil, ownsL_cons, isC, bsD, Bool.false_eq_true, ↓reduceIte, List.getElem?_cons_zero, List.getElem?_cons_succ, List.length_cons, List.length_nil, List.map_cons, List.map_nil, List.cons_append, List.nil_append, List.append_nil, List.set_cons_zero, List.set_cons_succ, List.all_cons, List.all_nil, Bool.and_true, Bool.true_and, Bool.and_false, Bool.and_self, Bool.or_true, Value.oneCell', true_and, and_true, and_self, Nat.reduceAdd, Nat.reduceEqDiff, Nat.zero_add, List.isEmpty_nil, Nat.le_refl, Ty.td24]
  refine call_meets (parse_of pe3 (by decide)) (by simp only [aev, cv, cvc, toD_c, consO_some, toDL_nil, toDL_cons, isC, bsD] <;> rfl) ?_; simp only [awp_reg, awp_seq, seqQ_n, awpOps_nil, awpOps_one, awpOp_is, isCallV, callW_is, callV_is, putK_is, updK_is, put_s, upd_n, upd_s, slot_is, pureOp, apureO, astepO, killT, aev, cv, cvc, elO_s, storeA, cellsA, cellOk, setAll, flat_c, flat_tup, flat_agg, flat_sl, flatL_nil, flatL_cons, ownsV_c, ownsL_nil, ownsL_cons, isC, bsD, Bool.false_eq_true, ↓reduceIte, List.getElem?_cons_zero, List.getElem?_cons_succ, List.length_cons, List.length_nil, List.map_cons, List.map_nil, List.cons_append, List.nil_append, List.append_nil, List.set_cons_zero, List.set_cons_succ, List.all_cons, List.all_nil, Bool.and_true, Bool.true_and, Bool.and_false, Bool.and_self, Bool.or_true, Value.oneCell', true_and, and_true, and_self, Nat.reduceAdd, Nat.reduceEqDiff, Nat.zero_add, List.isEmpty_nil, Nat.le_refl, Ty.td24]
  refine call_meets (parse_of pe4 (by decide)) (by simp only [aev, cv, cvc, toD_c, consO_some, toDL_nil, toDL_cons, isC, bsD] <;> rfl) ?_; simp only [awp_reg, awp_seq, seqQ_n, awpOps_nil, awpOps_one, awpOp_is, isCallV, callW_is, callV_is, putK_is, updK_is, put_s, upd_n, upd_s, slot_is, pureOp, apureO, astepO, killT, aev, cv, cvc, elO_s, storeA, cellsA, cellOk, setAll, flat_c, flat_tup, flat_agg, flat_sl, flatL_nil, flatL_cons, ownsV_c, ownsL_nil, ownsL_cons, isC, bsD, Bool.false_eq_true, ↓reduceIte, List.getElem?_cons_zero, List.getElem?_cons_succ, List.length_cons, List.length_nil, List.map_cons, List.map_nil, List.cons_append, List.nil_append, List.append_nil, List.set_cons_zero, List.set_cons_succ, List.all_cons, List.all_nil, Bool.and_true, Bool.true_and, Bool.and_false, Bool.and_self, Bool.or_true, Value.oneCell', true_and, and_true, and_self, Nat.reduceAdd, Nat.reduceEqDiff, Nat.zero_add, List.isEmpty_nil, Nat.le_refl, Ty.td24]
  refine call_meets (parse_of pe5 (by decide)) (by simp only [aev, cv, cvc, toD_c, consO_some, toDL_nil, toDL_cons, isC, bsD] <;> rfl) ?_; simp only [awp_reg, awp_seq, seqQ_n, awpOps_nil, awpOps_one, awpOp_is, isCallV, callW_is, callV_is, putK_is, updK_is, put_s, upd_n, upd_s, slot_is, slot.eq_1, pureOp, apureO, astepO, bsEnd_is, killT, aev, cv, cvc, elO_s, loadA_p, storeA, cellsA, cellOk, setAll, fillA, placeT, placesA, chunk, flat_c, flat_tup, flat_agg, flat_sl, flatL_nil, flatL_cons, isD_c, isD_nils, isD_sl, isDL_nil, isDL_cons, ownsV_c, ownsL_nil, ownsL_cons, isC, bsD, Bool.false_eq_true, ↓reduceIte, List.getElem?_cons_zero, List.getElem?_cons_succ, List.length_cons, List.length_nil, List.map_cons, List.map_nil, List.cons_append, List.nil_append, List.append_nil, List.set_cons_zero, List.set_cons_succ, Option.getD_some, List.take_succ_cons, List.drop_zero, List.all_cons, List.all_nil, Bool.and_true, Bool.true_and, Bool.and_false, Bool.and_self, Bool.or_true, Value.oneCell', true_and, and_true, and_self, ne_eq, not_false_eq_true, reduceCtorEq, Nat.reduceAdd, Nat.reduceMul, Nat.reduceLT, Nat.reduceLeDiff, Nat.reduceEqDiff, Nat.reduceMod, Nat.zero_add, List.isEmpty_nil, List.range_succ, List.range_zero, Nat.le_refl, List.take_nil, Ty.td3, Ty.td9, Ty.td24, Ty.td32, Ty.td47, Ty.td49]
  refine call_meets (subst1) (by simp only [aev, cv, cvc, elemsA, toD_c, toD_agg, toD_sl, toD_own, consO_some, toDL_nil, toDL_cons, isC, bsD, ↓reduceIte, List.getElem?_cons_zero, List.getElem?_cons_succ, List.length_cons, List.length_nil, List.map_cons, List.map_nil, Option.map_some, List.take_succ_cons, Bool.and_self, and_self, Nat.zero_add, Nat.le_refl, List.take_nil] <;> rfl) ?_; simp only [awp_reg, awp_seq, seqQ_n, awpOps_nil, awpOps_one, awpOps_if, awpOp_is, isCallV, callW_is, callV_is, awpO_is, putK_is, updK_is, put_s, upd_n, upd_s, slot_is, pureOp, apureO, astepO, killT, killB, killH, aev, cv, cvc, binK, elO_s, loadA_p, storeA, cellsA, cellOk, setAll, yieldA, guardA_tt, pickA_t, elemsA, dropL, flat_c, flat_tup, flat_agg, flat_sl, flatL_nil, flatL_cons, ownsV_c, ownsV_agg, ownsV_sl, ownsV_own, ownsL_nil, ownsL_cons, killV_c, killV_nils, killV_tup, killV_agg, killV_sl, killV_own, killV_ptr, killL_nil, killL_cons, isC, bsD, Bool.false_eq_true, ↓reduceIte, List.getElem?_cons_zero, List.getElem?_cons_succ, List.length_cons, List.length_nil, List.map_cons, List.map_nil, List.cons_append, List.nil_append, List.append_nil, List.set_cons_zero, List.set_cons_succ, List.getElem?_toArray, Option.bind_some, Option.map_some, Option.map_none, List.take_succ_cons, List.drop_zero, List.all_cons, List.all_nil, Bool.and_true, Bool.true_and, Bool.and_false, Bool.and_self, Bool.or_false, Value.oneCell', true_and, and_true, and_self, reduceCtorEq, Nat.reduceAdd, Nat.reduceEqDiff, Nat.zero_add, List.isEmpty_cons, List.mem_cons, List.not_mem_nil, or_false, List.zipIdx_cons, List.zipIdx_nil, Nat.le_refl, List.take_nil, Ty.td24, beq_self_eq_true]
  refine call_meets (print1) (by simp only [aev, cv, cvc, toD_c, toD_agg, toD_sl, consO_some, toDL_nil, toDL_cons, isC, bsD, Option.map_some] <;> rfl) ?_; simp only [awpOps_one, awpOps_if, awpOp_is, isCallV, callW_is, callV_is, awpO_is, putK_is, put_s, upd_s, slot_is, pureOp, apureO, killT, aev, cv, cvc, binK, elO_s, loadA_p, yieldA, guardA_tt, pickA_t, flat_c, ownsV_c, ownsV_agg, ownsV_sl, ownsL_nil, ownsL_cons, isC, bsD, Bool.false_eq_true, ↓reduceIte, List.getElem?_cons_zero, List.getElem?_cons_succ, List.length_cons, List.length_nil, List.map_cons, List.map_nil, List.append_nil, List.getElem?_toArray, Option.bind_some, List.take_succ_cons, List.drop_zero, Bool.true_and, Bool.or_true, true_and, Nat.reduceAdd, Nat.reduceEqDiff, Nat.zero_add, List.isEmpty_nil, Nat.le_refl, List.take_nil, Ty.td24, beq_self_eq_true]
  refine call_meets (print2) (by simp only [aev, cv, cvc, toD_c, toD_agg, toD_sl, consO_some, toDL_nil, toDL_cons, isC, bsD, Option.map_some] <;> rfl) ?_; simp only [awpOps_one, awpOps_if, awpOp_is, isCallV, callW_is, callV_is, awpO_is, putK_is, put_s, upd_s, slot_is, pureOp, apureO, killT, aev, cv, cvc, binK, elO_s, loadA_p, yieldA, guardA_tt, pickA_t, flat_c, ownsV_c, ownsV_agg, ownsV_sl, ownsL_nil, ownsL_cons, isC, bsD, Bool.false_eq_true, ↓reduceIte, List.getElem?_cons_zero, List.getElem?_cons_succ, List.length_cons, List.length_nil, List.map_cons, List.map_nil, List.append_nil, List.getElem?_toArray, Option.bind_some, List.take_succ_cons, List.drop_zero, Bool.true_and, Bool.or_true, true_and, Nat.reduceAdd, Nat.reduceEqDiff, Nat.zero_add, List.isEmpty_nil, Nat.le_refl, List.take_nil, Ty.td24, beq_self_eq_true]
  refine call_meets (print3) (by simp only [aev, cv, cvc, toD_c, toD_agg, toD_sl, consO_some, toDL_nil, toDL_cons, isC, bsD, List.map_cons, List.map_nil, Option.map_some] <;> rfl) ?_; simp only [awpOps_one, awpOps_if, awpOp_is, isCallV, callW_is, callV_is, awpO_is, putK_is, put_s, upd_s, slot_is, pureOp, apureO, killT, aev, cv, cvc, binK, elO_s, loadA_p, yieldA, guardA_tt, pickA_t, flat_c, ownsV_c, ownsV_agg, ownsV_sl, ownsL_nil, ownsL_cons, isC, bsD, Bool.false_eq_true, ↓reduceIte, List.getElem?_cons_zero, List.getElem?_cons_succ, List.length_cons, List.length_nil, List.map_cons, List.map_nil, List.append_nil, List.getElem?_toArray, Option.bind_some, List.take_succ_cons, List.drop_zero, Bool.true_and, Bool.or_true, true_and, Nat.reduceAdd, Nat.reduceEqDiff, Nat.zero_add, List.isEmpty_nil, Nat.le_refl, List.take_nil, Ty.td24, beq_self_eq_true]
  refine call_meets (valid (-1) cm cm_small) (by simp only [aev, cv, cvc, toD_c, toD_agg, toD_sl, consO_some, toDL_nil, toDL_cons, isC, bsD, Option.map_some] <;> rfl) ?_; simp only [awpOps_one, awpOps_if, awpOp_is, isCallV, callW_is, callV_is, awpO_is, putK_is, put_s, upd_s, slot_is, pureOp, apureO, killT, aev, cv, cvc, elO_s, loadA_p, yieldA, guardA_tt, pickA_t, flat_c, ownsV_c, ownsV_agg, ownsV_sl, ownsL_nil, ownsL_cons, isC, bsD, Bool.false_eq_true, ↓reduceIte, List.getElem?_cons_zero, List.getElem?_cons_succ, List.length_cons, List.length_nil, List.map_cons, List.map_nil, List.append_nil, List.getElem?_toArray, Option.bind_some, List.take_succ_cons, List.drop_zero, Bool.true_and, Bool.or_true, true_and, Nat.reduceAdd, Nat.reduceEqDiff, Nat.zero_add, List.isEmpty_nil, Nat.le_refl, List.take_nil, Ty.td24, cm_valid]
  refine call_meets (equal (-1) cm (-1) cm (by simp) (by simp)) (by simp only [aev, cv, cvc, toD_c, toD_agg, toD_sl, consO_some, toDL_nil, toDL_cons, isC, bsD, Option.map_some] <;> rfl) ?_; simp only [awp_ret, seqQ_n, awpOps_nil, awpOps_one, awpOp_is, putK_is, put_s, upd_s, slot_is, retA_is, pureOp, apureO, killT, aev, cv, cvc, pickA_t, flat_c, ownsV_c, ownsV_agg, ownsV_sl, ownsL_nil, ownsL_cons, toD_c, notExit, resA_nil, resA_tmp, oneA_1, isC, bsD, ↓reduceIte, List.append_nil, Bool.true_and, Bool.or_true, true_and, Nat.reduceEqDiff, List.isEmpty_nil]
  rw [show eqE (-1, cm) (-1, cm) = true by simp [eqE, eqT]]

end Go.Proofs.YtjgaebomcdkohaaGreatDoor.L15
