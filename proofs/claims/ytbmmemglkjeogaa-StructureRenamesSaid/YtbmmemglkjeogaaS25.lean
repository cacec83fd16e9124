/- Structure: opposites of elements. -/
import Derived.Test.YtbmmemglkjeogaaS20
namespace Go.Proofs.Ytbmmemglkjeogaa.S25
open Go Go.Proofs.Ytbmmemglkjeogaa.Eng Go.Proofs.Ytbmmemglkjeogaa Go.RowKit Go.Proofs.Ytbmmemglkjeogaa.A1 Go.Proofs.Ytbmmemglkjeogaa.A2 Go.Proofs.Ytbmmemglkjeogaa.A3 Go.Proofs.Ytbmmemglkjeogaa.A4 Go.Proofs.Ytbmmemglkjeogaa.A5 Go.Proofs.Ytbmmemglkjeogaa.S1 Go.Proofs.Ytbmmemglkjeogaa.S2 Go.Proofs.Ytbmmemglkjeogaa.S3 Go.Proofs.Ytbmmemglkjeogaa.S4 Go.Proofs.Ytbmmemglkjeogaa.S5 Go.Proofs.Ytbmmemglkjeogaa.S6 Go.Proofs.Ytbmmemglkjeogaa.S7 Go.Proofs.Ytbmmemglkjeogaa.S8 Go.Proofs.Ytbmmemglkjeogaa.S9 Go.Proofs.Ytbmmemglkjeogaa.S10 Go.Proofs.Ytbmmemglkjeogaa.S11 Go.Proofs.Ytbmmemglkjeogaa.S12 Go.Proofs.Ytbmmemglkjeogaa.S13 Go.Proofs.Ytbmmemglkjeogaa.S14 Go.Proofs.Ytbmmemglkjeogaa.S15 Go.Proofs.Ytbmmemglkjeogaa.S18 Go.Proofs.Ytbmmemglkjeogaa.S19 Go.Proofs.Ytbmmemglkjeogaa.S20
set_option linter.unusedSimpArgs false
set_option linter.unusedVariables false
set_option linter.unusedSectionVars false
set_option maxRecDepth 100000

abbrev n_neg : ByteArray := ⟨#[110, 101, 103]⟩
theorem types_neg : Meets Try.prog 85 [S n_neg] (.tup [.sl false 1 [[S intB]], S intB, B true]) := by
  have h1 : (n_neg.toList == ByteArray.toList ⟨#[97, 100, 100]⟩) = false := by kernel_rfl
  have h2 : (n_neg.toList == ByteArray.toList ⟨#[115, 117, 98]⟩) = false := by kernel_rfl
  have h3 : (n_neg.toList == ByteArray.toList ⟨#[109, 117, 108]⟩) = false := by kernel_rfl
  have h4 : (n_neg.toList == ByteArray.toList ⟨#[100, 105, 118]⟩) = false := by kernel_rfl
  have h5 : (n_neg.toList == ByteArray.toList ⟨#[109, 111, 100]⟩) = false := by kernel_rfl
  have h6 : (n_neg.toList == ByteArray.toList ⟨#[109, 105, 110]⟩) = false := by kernel_rfl
  have h7 : (n_neg.toList == ByteArray.toList ⟨#[109, 97, 120]⟩) = false := by kernel_rfl
  refine meets_of (X := false) Ty.mixed Try.func85 (by kernel_rfl) rfl (by kernel_rfl) (by simp) ?_; rw [Try.ntmps85, Try.results85]
  simp only [awp_skip, awp_reg, awp_seq, awp_cond, awp_block, awp_ret, seqQ_n, seqQ_r, blkQ_r, awpOps_nil, awpOps_one, awpOp_is, isCallV, putK_is, updK_is, put_s, upd_s, slot_is, slot.eq_1, retA_is, pureOp, apureO, astepO, bsEnd_is, killT, aev, cv, cvc, binK, elO_s, cellsA, cellOk, setAll, fillA, condA_t, condA_f, elemsA, chunk, isD_c, isDL_nil, isDL_cons, toD_c, toD_tup, toD_own, consO_some, toDL_nil, toDL_cons, notExit, resA_nil, resA_tmp, oneA_2, argT, Bool.false_eq_true, ↓reduceIte, List.getElem?_cons_zero, List.length_cons, List.length_nil, List.map_cons, List.map_nil, List.nil_append, List.set_cons_zero, Option.map_some, List.take_succ_cons, List.drop_zero, List.all_cons, List.all_nil, Bool.and_true, Bool.true_and, Bool.and_self, Value.oneCell', true_and, and_true, and_self, reduceCtorEq, Nat.reduceMul, Nat.reduceLT, Nat.reduceLeDiff, Nat.reduceEqDiff, Nat.reduceMod, Nat.zero_add, List.range_succ, List.range_zero, Nat.le_refl, List.take_nil, Ty.td9, Ty.td34, h1, h2, h3, h4, h5, h6, h7, beq_self_eq_true]
  try rfl

def ng (z : Int) : Int := IntKind.i64.wrap (IntKind.i32.wrap (IntKind.i64.wrap (0 - z)))
theorem wrap_m (z : Int) : Meets Try.prog 94 [I z] (I (IntKind.i64.wrap (IntKind.i32.wrap z))) := by
  refine meets_of (X := false) Ty.mixed Try.func94 (by kernel_rfl) rfl (by kernel_rfl) (by simp) ?_; rw [Try.ntmps94, Try.results94]
  simp only [awp_reg, awp_seq, awp_ret, seqQ_n, awpOps_nil, awpOps_one, awpOp_is, isCallV, putK_is, updK_is, put_s, upd_s, slot_is, retA_is, pureOp, apureO, astepO, convA_c, killT, aev, cv, cvc, elO_s, toD_c, notExit, resA_nil, resA_tmp, oneA_1, argT, Bool.false_eq_true, ↓reduceIte, Bool.true_and, true_and, reduceCtorEq, Ty.td3, Ty.td21]
theorem one_neg (z : Int) : Meets Try.prog 86 [S n_neg, I z] (I (ng z)) := by
  have h := wrap_m (IntKind.i64.wrap (0 - z))
  refine meets_of (X := false) Ty.mixed Try.func86 (by kernel_rfl) rfl (by kernel_rfl) (by simp) ?_; rw [Try.ntmps86, Try.results86]
  simp only [awp_reg, awp_seq, awp_cond, awp_block, seqQ_n, awpOps_nil, awpOps_one, awpOp_is, isCallV, callW_is, callV_is, putK_is, put_s, slot_is, pureOp, apureO, aev, cv, cvc, binK, condA_t, argT, Bool.false_eq_true, ↓reduceIte, List.map_cons, List.map_nil, List.append_nil, reduceCtorEq, Nat.reduceEqDiff, Nat.zero_add, beq_self_eq_true]
  refine call_meets (h) (by simp only [aev, cv, cvc, toD_c, consO_some, toDL_nil, toDL_cons] <;> rfl) ?_; simp only [awp_ret, seqQ_n, seqQ_r, blkQ_r, awpOps_nil, awpOps_one, awpOp_is, putK_is, put_s, upd_s, slot_is, retA_is, pureOp, apureO, killT, aev, cv, cvc, flat_c, ownsV_c, ownsL_nil, ownsL_cons, toD_c, notExit, resA_nil, resA_tmp, oneA_1, ↓reduceIte, List.append_nil, Bool.true_and, Bool.or_true, true_and, List.isEmpty_nil]
  try rfl
theorem i32_wrap (x : Int) : -2147483648 ≤ IntKind.i32.wrap x ∧ IntKind.i32.wrap x ≤ 2147483647 := by
  rw [IntKind.wrap_i32]
  omega
theorem ng_range (z : Int) : -2147483648 ≤ ng z ∧ ng z ≤ 2147483647 := by
  unfold ng
  have := i32_wrap (IntKind.i64.wrap (0 - z))
  rw [wrap_in (by omega) (by omega)]
  exact this
theorem ng_valid (z : Int) : validE intB (ng z) = true := valid_int (ng_range z).1 (ng_range z).2
theorem ng_zero : ng 0 = 0 := by kernel_rfl

theorem apply_neg {z : Int} (hz : validE intB z = true) : Meets Try.prog 52 [S n_neg, ints [z]] (.tup [I (ng z), B true]) := by
  have ht := types_neg
  have hv := refValid17 intB z
  rw [hz] at hv
  have ho := one_neg z
  have hb : (intB.toList == ByteArray.toList ⟨#[98, 111, 111, 108]⟩) = false := by kernel_rfl
  refine meets_of (X := false) Ty.mixed Try.func52 (by kernel_rfl) rfl (by kernel_rfl) (by simp) ?_; rw [Try.ntmps52, Try.results52]
  simp only [awp_reg, awp_seq, seqQ_n, awpOps_nil, awpOps_one, awpOp_is, isCallV, callW_is, callV_is, putK_is, put_s, slot_is, pureOp, apureO, aev, cv, cvc, argT, Bool.false_eq_true, ↓reduceIte, List.map_cons, List.map_nil, List.append_nil, reduceCtorEq, Nat.zero_add]
  refine call_meets (ht) (by simp only [aev, cv, cvc, toD_c, consO_some, toDL_nil, toDL_cons] <;> rfl) ?_; simp only [awp_skip, awp_reg, awp_seq, awp_cond, awp_block, awp_loop, seqQ_n, awpOps_nil, awpOps_one, awpOps_if, awpOp_is, awpO_is, putK_is, put_s, upd_s, slot_is, pureOp, apureO, killT, aev, cv, cvc, binK, elO_s, lenA, lenK, yieldA, guardA_ff, condA_f, pickA_f, flat_c, flat_tup, flat_sl, flatL_nil, flatL_cons, ownsV_c, ownsL_nil, ownsL_cons, ↓reduceIte, List.getElem?_cons_zero, List.getElem?_cons_succ, List.length_cons, List.length_nil, List.map_cons, List.map_nil, List.append_nil, List.getElem?_toArray, Option.bind_some, Bool.and_true, Bool.true_and, Bool.and_self, Bool.or_true, Bool.not_true, true_and, and_true, and_self, reduceCtorEq, Nat.reduceEqDiff, Nat.zero_add, List.isEmpty_nil, Option.isSome_some, Ty.td22, Ty.td34, bne_self_eq_false]
  refine loop_k (fun k : Nat => k ≤ 1) (fun k => ⟨73, [(9, I k), (1, ints [z]), (0, S n_neg), (6, .sl false 1 [[S intB]])], []⟩) (fun k => 1 - k) 0 (by omega) (by simp only [slot_is, aev, cv, cvc, Weak, ↓reduceIte, Bool.and_true, Bool.and_self, and_true, and_self, reduceCtorEq, Nat.reduceEqDiff] <;> simp) rfl rfl ?_
  intro k hk K hK
  simp only at hK
  have : k = 0 ∨ k = 1 := by omega
  rcases this with rfl | rfl
  · simp only [awp_skip, awp_reg, awp_seq, awp_cond, awp_block, seqQ_n, awpOps_nil, awpOps_one, awpOp_is, isCallV, callW_is, callV_is, putK_is, put_s, slot_is, pureOp, apureO, aev, cv, cvc, binK, elO_s, lenA, lenK, loadA_d, condA_t, condA_f, Int.natCast_nonneg, Bool.false_eq_true, ↓reduceIte, List.getElem?_cons_zero, List.length_cons, List.length_nil, List.map_cons, List.map_nil, List.append_nil, Bool.true_and, true_and, reduceCtorEq, Nat.reduceEqDiff, Nat.zero_add, Int.toNat_natCast, Option.isSome_some, Ty.td3, Ty.td9, Ty.td22, Ty.td34, show decide (((0 : Nat) : Int) < ((1 : Nat) : Int)) = true from rfl, hb]
    repeat refine ⟨by omega, ?_⟩
    refine call_meets (hv) (by simp only [aev, cv, cvc, toD_c, consO_some, toDL_nil, toDL_cons, wrap_in (x := ((0 : Nat) : Int) + 1) (by omega) (by omega)] <;> rfl) ?_; simp only [awp_skip, awp_reg, awp_cond, seqQ_n, loopQ_n, blkQ_n, awpOps_nil, awpOps_one, awpOp_is, putK_is, put_s, upd_s, slot_is, pureOp, apureO, killT, aev, cv, cvc, binK, condA_f, flat_c, ownsV_c, ownsL_nil, ownsL_cons, ↓reduceIte, List.append_nil, Bool.true_and, Bool.or_true, Bool.not_true, true_and, Nat.reduceEqDiff, List.isEmpty_nil, wrap_in (x := ((0 : Nat) : Int) + 1) (by omega) (by omega)]
    refine hK 1 _ (by omega) (by omega) ?_ rfl rfl
    simp only [slot_is, aev, cv, cvc, Weak, ↓reduceIte, Bool.and_true, Bool.and_self, and_true, and_self, reduceCtorEq, Nat.reduceEqDiff]
    simp
  · simp only [awp_reg, awp_seq, awp_cond, awp_block, awp_exit, seqQ_n, seqQ_e, loopQ_e, blkQ_e, awpOps_nil, awpOps_one, awpOp_is, isCallV, callW_is, callV_is, putK_is, put_s, slot_is, pureOp, apureO, aev, cv, cvc, binK, elO_s, lenA, lenK, loadA_d, condA_t, condA_f, Bool.false_eq_true, ↓reduceIte, List.getElem?_cons_zero, List.length_cons, List.length_nil, List.map_cons, List.map_nil, List.append_nil, Bool.true_and, true_and, reduceCtorEq, Nat.reduceEqDiff, Nat.zero_add, Int.reduceToNat, Option.isSome_some, Int.le_refl, Ty.td3, Ty.td22, show decide (((1 : Nat) : Int) < ((1 : Nat) : Int)) = false from rfl, show (((1 : Nat) : Int) == 1) = true from rfl]
    refine call_meets (ho) (by simp only [aev, cv, cvc, toD_c, consO_some, toDL_nil, toDL_cons] <;> rfl) ?_; simp only [awp_ret, seqQ_n, seqQ_r, blkQ_r, awpOps_nil, awpOps_one, awpOp_is, putK_is, put_s, upd_s, slot_is, retA_is, pureOp, apureO, killT, aev, cv, cvc, flat_c, ownsV_c, ownsL_nil, ownsL_cons, toD_c, toD_tup, consO_some, toDL_nil, toDL_cons, notExit, resA_nil, resA_tmp, oneA_2, ↓reduceIte, List.append_nil, Option.map_some, Bool.and_self, Bool.or_true, and_self, Nat.reduceEqDiff, List.isEmpty_nil]

def opA (a : Ar) : Ar := (a.1, a.2.1, a.2.2.map ng)
def oV (k : Nat) : AV := match k with | 0 => .nils | _ + 1 => .own 5 1 k
def oH (e : ByteArray) (ds xs ys : List Int) (k : Nat) : Heap := match k with
  | 0 => [some (.var 29 [S e, ints ds, ints xs]), some (.var 29 [.c (.string ⟨#[]⟩), .nils, .nils]), some (.var 29 [S e, ints ds, .nils])]
  | k + 1 => [some (.var 29 [S e, ints ds, ints xs]), some (.var 29 [.c (.string ⟨#[]⟩), .nils, .nils]), some (.var 29 [S e, ints ds, .own 5 1 (k + 1)]), none, none, some (.row 3 1 (ys.map enc))]
abbrev oR (e : ByteArray) (ds : List Int) (ys : List Int) : AV := .agg [S e, ints ds, match ys with | [] => .nils | _ :: _ => ints ys]
theorem oR_imp {e : ByteArray} {ds ys : List Int} (ok : Nat → Prop) (w : World) (v : Value) (h : RepD ok w (oR e ds ys) v) : RepD ok w (.agg [S e, ints ds, ints ys]) v := by
  cases ys with
  | nil => exact agg_imp (fun _ => cons_imp (fun _ h => h) fun _ => cons_imp (fun _ h => h) fun _ => cons_imp (fun _ => nil_imp) fun _ h => h) h
  | cons y ys => exact h

theorem opposite_ (e : ByteArray) (ds xs : List Int) (hx : xs.length ≤ 100000) (hv : ∀ z ∈ xs, validE intB z = true) : Meets Try.prog 32 [.agg [S e, ints ds, ints xs]] (.agg [S e, ints ds, ints (xs.map ng)]) := by
  refine Meets.weak (r0 := oR e ds (xs.map ng)) ?_ oR_imp
  refine meets_of (X := true) Ty.mixed Try.func32 (by kernel_rfl) rfl (by kernel_rfl) (by simp) ?_; rw [Try.ntmps32, Try.results32]
  simp only [awp_reg, awp_seq, awp_block, awp_loop, seqQ_n, awpOps_nil, awpOps_one, awpOp_is, isCallV, putK_is, updK_is, put_s, upd_n, upd_s, slot_is, slot.eq_1, pureOp, apureO, astepO, killT, aev, cv, cvc, elO_s, elO_none, lenA, lenK, loadA_p, storeA, cellsA, cellOk, setAll, fillA, placeT, placesA, argT, Bool.false_eq_true, ↓reduceIte, List.getElem?_cons_zero, List.getElem?_cons_succ, List.length_cons, List.length_nil, List.map_cons, List.map_nil, List.cons_append, List.nil_append, List.set_cons_zero, List.set_cons_succ, List.all_cons, List.all_nil, Bool.and_true, Bool.true_and, Bool.and_self, Value.oneCell', true_and, and_true, and_self, ne_eq, not_false_eq_true, reduceCtorEq, Nat.reduceAdd, Nat.reduceLeDiff, Nat.reduceEqDiff, Nat.zero_add, Option.isSome_some, Nat.le_refl, Ty.td9, Ty.td22, Ty.td29, List.length_map]
  refine loop_g (fun k : Nat => k ≤ xs.length) (fun k => ⟨34, [(16, I k), (15, I xs.length), (14, ints xs), (1, .ptr 0 0), (2, .ptr 1 0), (3, .ptr 2 0)], oH e ds xs ((xs.take k).map ng) k⟩) (fun k => xs.length - k) 0 (Nat.zero_le _) (by simp only [slot_is, aev, cv, cvc, Weak, ↓reduceIte, Bool.and_true, Bool.and_self, and_true, and_self, Nat.reduceEqDiff] <;> simp) rfl (.inl (by simp [oH])) ?_
  intro k hk K hK
  simp only at hK
  simp only [awp_reg, awp_seq, awp_cond, seqQ_n, awpOps_nil, awpOps_one, awpOp_is, putK_is, put_s, slot_is, pureOp, apureO, aev, cv, cvc, binK, ↓reduceIte, Bool.true_and, true_and, Nat.reduceEqDiff]
  refine condA_dec (fun hlt => ?_) (fun hge => ?_)
  · have hlt' : k < xs.length := by omega
    have hxk : xs[k]? = some xs[k] := List.getElem?_eq_getElem hlt'
    have hnx := hK (k + 1)
    rw [List.take_succ_eq_append_getElem hlt', List.map_append] at hnx
    have hz := hv xs[k] (List.getElem_mem _)
    have hyl : ((xs.take k).map ng).length = k := by simp; omega
    generalize xs[k] = z at *
    generalize (xs.take k).map ng = ys at *
    have hm := apply_neg hz
    simp only [ints, List.map_cons, List.map_nil] at hm hnx
    cases k with
    | zero =>
      obtain rfl := List.eq_nil_of_length_eq_zero hyl
      simp only [awp_skip, awp_reg, awp_seq, awp_block, seqQ_n, awpOps_nil, awpOps_one, awpOp_is, isCallV, callW_is, callV_is, putK_is, updK_is, put_s, upd_s, slot_is, slot.eq_1, pureOp, apureO, astepO, bsEnd_is, killT, aev, cv, cvc, elO_s, loadA_d, cellsA, cellOk, setAll, fillA, chunk, isD_c, isDL_nil, isDL_cons, Int.natCast_nonneg, Bool.false_eq_true, ↓reduceIte, List.getElem?_cons_zero, List.length_cons, List.length_nil, List.map_cons, List.map_nil, List.cons_append, List.nil_append, List.append_nil, List.set_cons_zero, Option.map_some, Option.getD_some, List.take_succ_cons, List.drop_zero, List.all_cons, List.all_nil, Bool.and_true, Bool.true_and, Bool.and_self, Value.oneCell', true_and, and_true, and_self, Nat.reduceAdd, Nat.reduceMul, Nat.reduceLT, Nat.reduceLeDiff, Nat.reduceEqDiff, Nat.reduceMod, Nat.zero_add, Int.toNat_natCast, List.range_succ, List.range_zero, Nat.le_refl, List.take_nil, Ty.td3, Ty.td22, oH, List.getElem?_map, hxk]
      refine call_meets (hm) (by simp only [aev, cv, cvc, elemsA, toD_c, toD_own, consO_some, toDL_nil, toDL_cons, ↓reduceIte, List.getElem?_cons_zero, List.getElem?_cons_succ, List.length_cons, List.length_nil, Option.map_some, List.take_succ_cons, Bool.and_self, and_self, Nat.zero_add, Nat.le_refl, List.take_nil, wrap_in (x := ((0 : Nat) : Int) + 1) (by omega) (by omega)] <;> rfl) ?_; simp only [awp_reg, seqQ_n, loopQ_n, blkQ_n, awpOps_nil, awpOps_one, awpOp_is, isCallV, putK_is, updK_is, put_s, upd_n, upd_s, slot_is, slot.eq_1, pureOp, apureO, astepO, bsEnd_is, appA_own, appV, killT, aev, cv, cvc, binK, elO_s, loadA_p, storeA, cellsA, cellOk, setAll, fillA, elemsA, elemsN, chunk, flat_c, flat_tup, flatL_nil, flatL_cons, isD_c, isDL_nil, isDL_cons, ownsV_c, ownsV_own, ownsL_nil, ownsL_cons, Bool.false_eq_true, ↓reduceIte, List.getElem?_cons_zero, List.getElem?_cons_succ, List.length_cons, List.length_nil, List.map_cons, List.map_nil, List.cons_append, List.nil_append, List.append_nil, List.set_cons_zero, List.set_cons_succ, List.take_succ_cons, List.drop_zero, List.all_cons, List.all_nil, Bool.true_and, Bool.and_self, Bool.or_false, Value.oneCell', true_and, and_self, ne_eq, not_false_eq_true, reduceCtorEq, Nat.reduceAdd, Nat.reduceMul, Nat.reduceLT, Nat.reduceLeDiff, Nat.reduceEqDiff, Nat.reduceMod, Nat.zero_add, List.isEmpty_cons, or_false, List.range_succ, List.range_zero, Nat.le_refl, List.take_nil, Ty.td3, Ty.td22, Ty.td29, wrap_in (x := ((0 : Nat) : Int) + 1) (by omega) (by omega)]
      refine hnx _ (by omega) (by omega) ?_ rfl (.weak (by simp [oH]) (by simp [WeakH, oH]) rfl rfl)
      simp only [slot_is, aev, cv, cvc, Weak, ↓reduceIte, Bool.and_true, Bool.and_self, and_true, and_self, Nat.reduceEqDiff, Nat.zero_add]
      simp
    | succ k =>
      have hbt : List.take (k + 1) (List.map enc ys) = List.map enc ys := List.take_of_length_le (by simp; omega)
      simp only [awp_skip, awp_reg, awp_seq, awp_block, seqQ_n, awpOps_nil, awpOps_one, awpOp_is, isCallV, callW_is, callV_is, putK_is, updK_is, put_s, upd_s, slot_is, slot.eq_1, pureOp, apureO, astepO, bsEnd_is, killT, aev, cv, cvc, elO_s, loadA_d, cellsA, cellOk, setAll, fillA, chunk, isD_c, isDL_nil, isDL_cons, Int.natCast_nonneg, Bool.false_eq_true, ↓reduceIte, List.getElem?_cons_zero, List.length_cons, List.length_nil, List.map_cons, List.map_nil, List.cons_append, List.nil_append, List.append_nil, List.set_cons_zero, Option.map_some, Option.getD_some, List.take_succ_cons, List.drop_zero, List.all_cons, List.all_nil, Bool.and_true, Bool.true_and, Bool.and_self, Value.oneCell', true_and, and_true, and_self, Nat.reduceAdd, Nat.reduceMul, Nat.reduceLT, Nat.reduceLeDiff, Nat.reduceEqDiff, Nat.reduceMod, Nat.zero_add, Int.toNat_natCast, List.range_succ, List.range_zero, Nat.le_refl, List.take_nil, Ty.td3, Ty.td22, oH, List.getElem?_map, hxk]
      refine call_meets (hm) (by simp only [aev, cv, cvc, elemsA, toD_c, toD_own, consO_some, toDL_nil, toDL_cons, ↓reduceIte, List.getElem?_cons_zero, List.getElem?_cons_succ, List.length_cons, List.length_nil, Option.map_some, List.take_succ_cons, Bool.and_self, and_self, Nat.zero_add, Nat.le_refl, List.take_nil, wrap_in (x := ((k + 1 : Nat) : Int) + 1) (by omega) (by omega), hyl, hbt] <;> rfl) ?_; simp only [awp_reg, seqQ_n, loopQ_n, blkQ_n, awpOps_nil, awpOps_one, awpOp_is, isCallV, putK_is, updK_is, put_s, upd_n, upd_s, slot_is, slot.eq_1, pureOp, apureO, astepO, bsEnd_is, appA_own, appV, killT, killB, killH, aev, cv, cvc, binK, elO_s, loadA_p, storeA, cellsA, cellOk, setAll, fillA, elemsA, elemsN, rowE, chunk, flat_c, flat_tup, flatL_nil, flatL_cons, isD_c, isDL_nil, isDL_cons, ownsV_c, ownsV_own, ownsL_nil, ownsL_cons, killV_c, killV_nils, killV_tup, killV_sl, killV_own, killV_dptr, killV_ptr, killL_nil, killL_cons, Bool.false_eq_true, ↓reduceIte, List.getElem?_cons_zero, List.getElem?_cons_succ, List.length_cons, List.length_nil, List.map_cons, List.map_nil, List.cons_append, List.nil_append, List.append_nil, List.set_cons_zero, List.set_cons_succ, Option.map_some, Option.map_none, List.take_succ_cons, List.drop_zero, List.all_cons, List.all_nil, Bool.true_and, Bool.and_self, Bool.or_false, Value.oneCell', true_and, and_self, ne_eq, not_false_eq_true, reduceCtorEq, Nat.reduceAdd, Nat.reduceMul, Nat.reduceLT, Nat.reduceLeDiff, Nat.reduceEqDiff, Nat.reduceMod, Nat.zero_add, List.isEmpty_cons, List.mem_cons, List.not_mem_nil, or_false, List.range_succ, List.range_zero, Nat.le_refl, List.take_nil, List.getElem?_nil, Ty.td3, Ty.td22, Ty.td29, wrap_in (x := ((k + 1 : Nat) : Int) + 1) (by omega) (by omega), List.length_map, hyl, hbt]
      repeat refine ⟨by omega, ?_⟩
      refine hnx _ (by omega) (by omega) ?_ rfl (.weak (by simp [oH]) (by simp [WeakH, oH]) rfl rfl)
      simp only [slot_is, aev, cv, cvc, Weak, ↓reduceIte, Bool.and_true, Bool.and_self, and_true, and_self, Nat.reduceEqDiff]
      simp
  · have hk' : k = xs.length := by omega
    subst hk'
    rw [List.take_length] at *
    have hyl : (xs.map ng).length = xs.length := by simp
    generalize xs.map ng = ys at *
    cases hl : xs.length with
    | zero =>
      obtain rfl := List.eq_nil_of_length_eq_zero (hyl.trans hl)
      simp only [awp_reg, awp_seq, awp_exit, awp_ret, seqQ_n, seqQ_e, loopQ_e, blkQ_e, awpOps_nil, awpOps_one, awpOp_is, isCallV, putK_is, updK_is, put_s, upd_n, slot_is, retA_is, pureOp, apureO, astepO, killT, aev, cv, cvc, elO_s, loadA_p, storeA, cellsA, cellOk, setAll, toD_c, toD_nils, toD_agg, toD_sl, consO_some, toDL_nil, toDL_cons, notExit, resA_nil, resA_cell, oneA_1, Bool.false_eq_true, ↓reduceIte, List.getElem?_cons_zero, List.getElem?_cons_succ, List.length_cons, List.length_nil, List.set_cons_zero, List.set_cons_succ, Option.map_some, List.take_succ_cons, List.drop_zero, Bool.true_and, Bool.and_self, Value.oneCell', true_and, and_self, Nat.reduceAdd, Nat.reduceLeDiff, Nat.reduceEqDiff, Nat.zero_add, Nat.le_refl, List.take_nil, Ty.td29, oH, hl]
      try rfl
    | succ k =>
      have hbt : List.take (k + 1) (List.map enc ys) = List.map enc ys := List.take_of_length_le (by simp; omega)
      obtain ⟨y, ys', rfl⟩ : ∃ y ys', ys = y :: ys' := by
        cases ys with
        | nil => simp at hyl; omega
        | cons y ys' => exact ⟨y, ys', rfl⟩
      have hyk : ys'.length = k := by
        simp only [List.length_cons] at hyl
        omega
      have hb2 : List.take k (List.map enc ys') = List.map enc ys' := List.take_of_length_le (by simp; omega)
      simp only [awp_reg, awp_seq, awp_exit, awp_ret, seqQ_n, seqQ_e, loopQ_e, blkQ_e, awpOps_nil, awpOps_one, awpOp_is, isCallV, putK_is, updK_is, put_s, upd_n, slot_is, retA_is, pureOp, apureO, astepO, killT, aev, cv, cvc, elO_s, loadA_p, storeA, cellsA, cellOk, setAll, elemsA, toD_c, toD_nils, toD_agg, toD_sl, toD_own, consO_some, toDL_nil, toDL_cons, notExit, resA_nil, resA_cell, oneA_1, Bool.false_eq_true, ↓reduceIte, List.getElem?_cons_zero, List.getElem?_cons_succ, List.length_cons, List.length_nil, List.map_cons, List.set_cons_zero, List.set_cons_succ, Option.map_some, List.take_succ_cons, List.drop_zero, Bool.true_and, Bool.and_self, Value.oneCell', true_and, and_self, Nat.reduceAdd, Nat.reduceLeDiff, Nat.reduceEqDiff, Nat.zero_add, Nat.le_refl, List.take_nil, Ty.td29, oH, hl, List.length_map, hyk, hb2]
      rfl
end Go.Proofs.Ytbmmemglkjeogaa.S25
