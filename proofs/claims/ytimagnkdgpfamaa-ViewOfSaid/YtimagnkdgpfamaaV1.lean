/- Views: whether they are formed, offsets of an index, equality. -/
import Derived.Test.YtimagnkdgpfamaaA5
import Derived.Test.YtimagnkdgpfamaaA8
namespace Go.Proofs.Ytimagnkdgpfamaa.V1
open Go Go.Proofs.Ytimagnkdgpfamaa.Eng Go.Proofs.Ytimagnkdgpfamaa Go.RowKit Go.Proofs.Ytimagnkdgpfamaa.A1 Go.Proofs.Ytimagnkdgpfamaa.A2 Go.Proofs.Ytimagnkdgpfamaa.A3 Go.Proofs.Ytimagnkdgpfamaa.A4 Go.Proofs.Ytimagnkdgpfamaa.A5 Go.Proofs.Ytimagnkdgpfamaa.A8
set_option linter.unusedSimpArgs false
set_option linter.unusedVariables false
set_option linter.unusedSectionVars false
set_option maxRecDepth 100000

abbrev vw (o : Int) (ds ss : List Int) : AV := .agg [I o, ints ds, ints ss]
def formed (ds ss : List Int) : Bool := ((sizeE ds).2 == 0) && ((ds.length : Int) == ss.length)

section
variable (o : Int) (ds ss : List Int) (hd : ds.length ≤ 1000000) (hs : ss.length ≤ 1000000)
include hd hs
theorem isFormed : Meets Try.prog 40 [vw o ds ss] (B (formed ds ss)) := by
  have hz := size ds hd
  unfold formed
  generalize sizeE ds = z at *
  obtain ⟨n, z⟩ := z
  simp only
  refine meets_of (X := false) Ty.mixed Try.func40 (by kernel_rfl) rfl (by kernel_rfl) (by simp) ?_; rw [Try.ntmps40, Try.results40]
  simp only [awp_reg, awp_seq, seqQ_n, awpOps_nil, awpOps_one, awpOp_is, isCallV, callW_is, callV_is, putK_is, updK_is, put_s, upd_s, slot_is, pureOp, apureO, astepO, killT, aev, cv, cvc, elO_s, loadA_p, cellsA, cellOk, argT, Bool.false_eq_true, ↓reduceIte, List.getElem?_cons_zero, List.getElem?_cons_succ, List.length_cons, List.length_nil, List.map_cons, List.map_nil, List.nil_append, List.append_nil, Bool.true_and, true_and, ne_eq, not_false_eq_true, reduceCtorEq, Nat.reduceAdd, Nat.reduceEqDiff, Nat.zero_add, Ty.td22, Ty.td28]
  cases hz0 : z == 0
  · refine call_meets (hz) (by simp only [aev, cv, cvc, toD_sl, consO_some, toDL_nil, toDL_cons, hz0] <;> rfl) ?_; simp only [awp_reg, awp_seq, awp_ret, seqQ_n, awpOps_nil, awpOps_one, awpOps_if, awpOp_is, putK_is, put_s, upd_s, slot_is, retA_is, pureOp, apureO, killT, aev, cv, cvc, binK, elO_s, yieldA, guardA_tf, pickA_f, flat_c, flat_tup, flatL_nil, flatL_cons, ownsV_sl, ownsL_nil, ownsL_cons, toD_c, notExit, resA_nil, resA_tmp, oneA_1, ↓reduceIte, List.getElem?_cons_zero, List.getElem?_cons_succ, List.append_nil, List.getElem?_toArray, Option.bind_some, Bool.false_and, Bool.and_self, Bool.or_true, and_self, Nat.reduceEqDiff, List.isEmpty_nil, hz0]
  · refine call_meets (hz) (by simp only [aev, cv, cvc, toD_sl, consO_some, toDL_nil, toDL_cons, hz0] <;> rfl) ?_; simp only [awp_reg, awp_seq, awp_ret, seqQ_n, awpOps_nil, awpOps_one, awpOps_if, awpOp_is, awpO_is, putK_is, put_s, upd_s, slot_is, retA_is, pureOp, apureO, killT, aev, cv, cvc, binK, elO_s, elO_none, lenA, lenK, loadA_p, yieldA, guardA_tt, pickA_t, flat_c, flat_tup, flatL_nil, flatL_cons, ownsV_sl, ownsL_nil, ownsL_cons, toD_c, notExit, resA_nil, resA_tmp, oneA_1, Bool.false_eq_true, ↓reduceIte, List.getElem?_cons_zero, List.getElem?_cons_succ, List.length_cons, List.length_nil, List.append_nil, List.getElem?_toArray, Option.bind_some, Bool.and_true, Bool.true_and, Bool.and_self, Bool.or_true, true_and, and_true, and_self, ne_eq, not_false_eq_true, reduceCtorEq, Nat.reduceAdd, Nat.reduceEqDiff, Nat.zero_add, List.isEmpty_nil, Option.isSome_some, Ty.td22, Ty.td28, hz0, List.length_map]

theorem refForm : Meets Try.prog 43 [vw o ds ss] (I (if formed ds ss then 0 else 1)) := by
  have hz := refSize ds hd
  unfold formed
  generalize sizeE ds = z at *
  obtain ⟨n, z⟩ := z
  simp only
  refine meets_of (X := false) Ty.mixed Try.func43 (by kernel_rfl) rfl (by kernel_rfl) (by simp) ?_; rw [Try.ntmps43, Try.results43]
  simp only [awp_reg, awp_seq, seqQ_n, awpOps_nil, awpOps_one, awpOp_is, isCallV, callW_is, callV_is, putK_is, updK_is, put_s, upd_s, slot_is, pureOp, apureO, astepO, killT, aev, cv, cvc, elO_s, loadA_p, cellsA, cellOk, argT, Bool.false_eq_true, ↓reduceIte, List.getElem?_cons_zero, List.getElem?_cons_succ, List.length_cons, List.length_nil, List.map_cons, List.map_nil, List.nil_append, List.append_nil, Bool.true_and, true_and, ne_eq, not_false_eq_true, reduceCtorEq, Nat.reduceAdd, Nat.reduceEqDiff, Nat.zero_add, Ty.td22, Ty.td24]
  by_cases hz0 : z = 0
  case neg =>
    rw [show (z == 0) = false by simpa using hz0]
    refine call_meets (hz) (by simp only [aev, cv, cvc, toD_sl, consO_some, toDL_nil, toDL_cons, show (z != 0) = true by simpa using hz0] <;> rfl) ?_; simp only [awp_reg, awp_seq, awp_cond, awp_ret, seqQ_n, seqQ_r, awpOps_nil, awpOps_one, awpOps_if, awpOp_is, putK_is, put_s, upd_s, slot_is, retA_is, pureOp, apureO, killT, aev, cv, cvc, binK, elO_s, yieldA, guardA_ft, condA_t, pickA_t, flat_c, flat_tup, flatL_nil, flatL_cons, ownsV_sl, ownsL_nil, ownsL_cons, toD_c, notExit, resA_nil, resA_tmp, oneA_1, Bool.false_eq_true, ↓reduceIte, List.getElem?_cons_zero, List.getElem?_cons_succ, List.append_nil, List.getElem?_toArray, Option.bind_some, Bool.false_and, Bool.and_self, Bool.or_true, and_self, Nat.reduceEqDiff, List.isEmpty_nil, show (z != 0) = true by simpa using hz0]
  subst hz0
  by_cases hl : (ds.length : Int) = ss.length
  · rw [show ((ds.length : Int) == ss.length) = true by simpa using hl]
    refine call_meets (hz) (by simp only [aev, cv, cvc, toD_sl, consO_some, toDL_nil, toDL_cons, show ((ss.length : Int) != ds.length) = false by simpa using hl.symm] <;> rfl) ?_; simp only [awp_skip, awp_reg, awp_seq, awp_cond, awp_ret, seqQ_n, awpOps_nil, awpOps_one, awpOps_if, awpOp_is, awpO_is, putK_is, put_s, upd_s, slot_is, retA_is, pureOp, apureO, killT, aev, cv, cvc, binK, elO_s, elO_none, lenA, lenK, loadA_p, yieldA, guardA_ff, condA_f, pickA_f, flat_c, flat_tup, flatL_nil, flatL_cons, ownsV_sl, ownsL_nil, ownsL_cons, toD_c, notExit, resA_nil, resA_tmp, oneA_1, Bool.false_eq_true, ↓reduceIte, List.getElem?_cons_zero, List.getElem?_cons_succ, List.length_cons, List.length_nil, List.append_nil, List.getElem?_toArray, Option.bind_some, Bool.and_true, Bool.true_and, Bool.and_self, Bool.or_true, true_and, and_true, and_self, ne_eq, not_false_eq_true, reduceCtorEq, Nat.reduceAdd, Nat.reduceEqDiff, Nat.zero_add, List.isEmpty_nil, Option.isSome_some, Ty.td22, Ty.td24, bne_self_eq_false, beq_self_eq_true, List.length_map, show ((ss.length : Int) != ds.length) = false by simpa using hl.symm]
  · rw [show ((ds.length : Int) == ss.length) = false by simpa using hl]
    refine call_meets (hz) (by simp only [aev, cv, cvc, toD_sl, consO_some, toDL_nil, toDL_cons, show ((ss.length : Int) != ds.length) = true by simpa using fun h => hl h.symm] <;> rfl) ?_; simp only [awp_reg, awp_seq, awp_cond, awp_ret, seqQ_n, seqQ_r, awpOps_nil, awpOps_one, awpOps_if, awpOp_is, awpO_is, putK_is, put_s, upd_s, slot_is, retA_is, pureOp, apureO, killT, aev, cv, cvc, binK, elO_s, elO_none, lenA, lenK, loadA_p, yieldA, guardA_ff, condA_t, pickA_f, flat_c, flat_tup, flatL_nil, flatL_cons, ownsV_sl, ownsL_nil, ownsL_cons, toD_c, notExit, resA_nil, resA_tmp, oneA_1, Bool.false_eq_true, ↓reduceIte, List.getElem?_cons_zero, List.getElem?_cons_succ, List.length_cons, List.length_nil, List.append_nil, List.getElem?_toArray, Option.bind_some, Bool.and_true, Bool.true_and, Bool.and_false, Bool.and_self, Bool.or_true, true_and, and_true, and_self, ne_eq, not_false_eq_true, reduceCtorEq, Nat.reduceAdd, Nat.reduceEqDiff, Nat.zero_add, List.isEmpty_nil, Option.isSome_some, Ty.td22, Ty.td24, bne_self_eq_false, beq_self_eq_true, List.length_map, show ((ss.length : Int) != ds.length) = true by simpa using fun h => hl h.symm]
end

/-- The offset of an index. -/
def dot : List Int → List Int → Int → Int
  | i :: ix, s :: ss, o => dot ix ss (IntKind.i64.wrap (o + IntKind.i64.wrap (i * s)))
  | _, _, o => o
theorem dot_step {ix ss : List Int} {k : Nat} {o : Int} (h1 : k < ix.length) (h2 : k < ss.length) : dot (ix.drop k) (ss.drop k) o = dot (ix.drop (k + 1)) (ss.drop (k + 1)) (IntKind.i64.wrap (o + IntKind.i64.wrap (ix[k] * ss[k]))) := by
  rw [List.drop_eq_getElem_cons h1, List.drop_eq_getElem_cons h2, dot]

theorem vat (o : Int) (ds ss ix : List Int) (hi : ix.length ≤ 1000000) (hs : ix.length ≤ ss.length) : Meets Try.prog 42 [vw o ds ss, ints ix] (I (dot ix ss o)) := by
  refine meets_of (X := false) Ty.mixed Try.func42 (by kernel_rfl) rfl (by kernel_rfl) (by simp) ?_; rw [Try.ntmps42, Try.results42]
  simp only [awp_reg, awp_seq, awp_block, awp_loop, seqQ_n, awpOps_nil, awpOps_one, awpOp_is, isCallV, putK_is, updK_is, put_s, upd_s, slot_is, pureOp, apureO, astepO, killT, aev, cv, cvc, elO_s, lenA, lenK, loadA_p, cellsA, cellOk, argT, Bool.false_eq_true, ↓reduceIte, List.getElem?_cons_zero, List.length_cons, List.length_nil, List.nil_append, Bool.true_and, true_and, ne_eq, not_false_eq_true, reduceCtorEq, Nat.reduceAdd, Nat.reduceEqDiff, Nat.zero_add, Option.isSome_some, Ty.td3, Ty.td22, Ty.td28, List.length_map]
  refine loop_k (fun x : Nat × Int => x.1 ≤ ix.length ∧ dot ix ss o = dot (ix.drop x.1) (ss.drop x.1) x.2) (fun x => ⟨28, [(12, I x.1), (11, I ix.length), (10, ints ix), (5, I x.2), (2, .ptr 0 0)], [some (.var 28 [I o, ints ds, ints ss])]⟩) (fun x => ix.length - x.1) (0, o) ⟨Nat.zero_le _, rfl⟩ (by simp only [slot_is, aev, cv, cvc, Weak, ↓reduceIte, Bool.and_true, Bool.and_self, and_true, and_self, Nat.reduceEqDiff]; simp) rfl rfl ?_
  rintro ⟨k, a⟩ ⟨hk, hi2⟩ K hK
  simp only at hk hi2 hK
  simp only [awp_reg, awp_seq, awp_cond, seqQ_n, awpOps_nil, awpOps_one, awpOp_is, putK_is, put_s, slot_is, pureOp, apureO, aev, cv, cvc, binK, ↓reduceIte, Bool.true_and, true_and, Nat.reduceEqDiff]
  refine condA_dec (fun hlt => ?_) (fun hge => ?_)
  · have hlt' : k < ix.length := by omega
    have hx : ix[k]? = some ix[k] := List.getElem?_eq_getElem hlt'
    have hx2 : ss[k]? = some ss[k] := List.getElem?_eq_getElem (by omega)
    rw [dot_step hlt' (by omega)] at hi2
    generalize ix[k] = i at *
    generalize ss[k] = s at *
    simp only [awp_skip, awp_reg, awp_seq, awp_block, seqQ_n, loopQ_n, blkQ_n, awpOps_nil, awpOps_one, awpOp_is, putK_is, put_s, slot_is, pureOp, apureO, aev, cv, cvc, binK, elO_s, loadA_d, loadA_p, Int.natCast_nonneg, Bool.false_eq_true, ↓reduceIte, List.getElem?_cons_zero, List.getElem?_cons_succ, List.length_cons, List.length_nil, Option.map_some, Bool.true_and, true_and, ne_eq, not_false_eq_true, reduceCtorEq, Nat.reduceAdd, Nat.reduceEqDiff, Nat.zero_add, Int.toNat_natCast, Ty.td3, Ty.td22, Ty.td28, List.getElem?_map, hx, hx2, wrap_in (x := (k : Int) + 1) (by omega) (by omega)]
    refine hK (k + 1, IntKind.i64.wrap (a + IntKind.i64.wrap (i * s))) _ ⟨hlt', hi2⟩ (by simp only; omega) ?_ rfl rfl
    simp only [slot_is, aev, cv, cvc, Weak, ↓reduceIte, Bool.and_true, Bool.and_self, and_true, and_self, Nat.reduceEqDiff]
    simp
  · have hk' : k = ix.length := by omega
    subst hk'
    rw [List.drop_length] at hi2
    simp only [awp_reg, awp_seq, awp_exit, awp_ret, seqQ_n, seqQ_e, loopQ_e, blkQ_e, awpOps_nil, awpOps_one, awpOp_is, putK_is, put_s, slot_is, retA_is, pureOp, apureO, aev, cv, cvc, toD_c, notExit, resA_nil, resA_tmp, oneA_1, ↓reduceIte, Bool.true_and, true_and, Nat.reduceEqDiff]
    rw [hi2]
    cases ss.drop ix.length <;> rfl

theorem ints19 (xs ys : List Int) (hx : xs.length ≤ 1000000) (hy : ys.length ≤ 1000000) : Meets Try.prog 18 [ints xs, ints ys] (B (xs == ys)) := by
  refine meets_of (X := false) Ty.mixed Try.func18 (by kernel_rfl) rfl (by kernel_rfl) (by simp) ?_; rw [Try.ntmps18, Try.results18]
  simp only [awp_reg, awp_seq, awp_cond, seqQ_n, awpOps_nil, awpOps_one, awpOp_is, putK_is, put_s, slot_is, pureOp, apureO, aev, cv, cvc, binK, elO_s, lenA, lenK, argT, ↓reduceIte, Bool.true_and, true_and, reduceCtorEq, Nat.reduceEqDiff, Nat.zero_add, Option.isSome_some, Ty.td22, List.length_map]
  by_cases hl : (xs.length : Int) = ys.length
  case neg =>
    have h0 : ((xs.length : Int) != ys.length) = true := by simpa using hl
    have h1 : (xs == ys) = false := by
      simp only [beq_eq_false_iff_ne]
      intro h; rw [h] at hl; exact hl rfl
    simp only [awp_reg, awp_seq, awp_ret, seqQ_n, seqQ_r, awpOps_nil, awpOps_one, awpOp_is, putK_is, put_s, slot_is, retA_is, pureOp, apureO, aev, cv, cvc, condA_t, toD_c, notExit, resA_nil, resA_tmp, oneA_1, ↓reduceIte, Bool.and_self, and_self, h0, h1]
  have h0 : ((xs.length : Int) != ys.length) = false := by simpa using hl
  simp only [awp_skip, awp_reg, awp_seq, awp_block, awp_loop, seqQ_n, awpOps_nil, awpOps_one, awpOp_is, putK_is, put_s, pureOp, apureO, aev, cv, cvc, condA_f, ↓reduceIte, h0]
  refine loop_k (fun k : Nat => k ≤ xs.length ∧ (xs == ys) = (xs.drop k == ys.drop k)) (fun k => ⟨26, [(5, I k), (0, ints xs), (1, ints ys)], []⟩) (fun k => xs.length - k) 0 ⟨Nat.zero_le _, rfl⟩ (by simp only [slot_is, aev, cv, cvc, Weak, ↓reduceIte, Bool.and_true, Bool.and_self, and_true, and_self, reduceCtorEq, Nat.reduceEqDiff]; simp) rfl rfl ?_
  rintro k ⟨hk, hi⟩ K hK
  simp only at hK
  simp only [awp_reg, awp_seq, awp_cond, seqQ_n, awpOps_nil, awpOps_one, awpOp_is, putK_is, put_s, slot_is, pureOp, apureO, aev, cv, cvc, binK, elO_s, lenA, lenK, ↓reduceIte, Bool.true_and, true_and, reduceCtorEq, Nat.reduceEqDiff, Option.isSome_some, Ty.td22, List.length_map]
  refine condA_dec (fun hlt => ?_) (fun hge => ?_)
  · have hlt' : k < xs.length := by omega
    have hx : xs[k]? = some xs[k] := List.getElem?_eq_getElem hlt'
    have hx2 : ys[k]? = some ys[k] := List.getElem?_eq_getElem (by omega)
    rw [beq_drop hlt' (by omega)] at hi
    generalize xs[k] = x at *
    generalize ys[k] = y at *
    by_cases hxy : x = y
    · subst hxy
      rw [beq_self_eq_true, Bool.true_and] at hi
      simp only [awp_skip, awp_reg, awp_regD, awp_seq, awp_cond, awp_block, seqQ_n, loopQ_n, blkQ_n, awpOps_nil, awpOps_one, awpOpsD_nil, awpOpsD_one, awpOp_is, awpOpD_is, lastOnly_nil, lastOnly_cons, putK_is, put_s, slot_is, keepOp, pureOp, apureO, aev, cv, cvc, binK, elO_s, loadA_d, condA_f, Int.natCast_nonneg, Bool.false_eq_true, ↓reduceIte, List.getElem?_cons_zero, Option.map_some, Bool.true_and, true_and, reduceCtorEq, Nat.reduceEqDiff, Int.toNat_natCast, Ty.td3, Ty.td22, List.getElem?_map, hx, hx2, bne_self_eq_false, wrap_in (x := (k : Int) + 1) (by omega) (by omega)]
      refine hK (k + 1) _ ⟨hlt', hi⟩ (by omega) ?_ rfl rfl
      simp only [slot_is, aev, cv, cvc, Weak, ↓reduceIte, Bool.and_true, Bool.and_self, and_true, and_self, reduceCtorEq, Nat.reduceEqDiff]
      simp
    · rw [show (x == y) = false by simpa using hxy, Bool.false_and] at hi
      simp only [awp_skip, awp_reg, awp_regD, awp_seq, awp_cond, awp_block, awp_ret, seqQ_n, seqQ_r, loopQ_r, blkQ_r, awpOps_nil, awpOps_one, awpOpsD_nil, awpOpsD_one, awpOp_is, awpOpD_is, lastOnly_nil, lastOnly_cons, putK_is, put_s, slot_is, retA_is, keepOp, pureOp, apureO, aev, cv, cvc, binK, elO_s, loadA_d, condA_t, toD_c, notExit, resA_nil, resA_tmp, oneA_1, Int.natCast_nonneg, Bool.false_eq_true, ↓reduceIte, List.getElem?_cons_zero, Option.map_some, Bool.true_and, true_and, reduceCtorEq, Nat.reduceEqDiff, Int.toNat_natCast, Ty.td3, Ty.td22, List.getElem?_map, hx, hx2, show (x != y) = true by simpa using hxy]
      rw [hi]
  · have hk' : k = xs.length := by omega
    have h1 : ys.drop k = [] := List.drop_of_length_le (by omega)
    subst hk'
    rw [List.drop_length, h1, beq_self_eq_true] at hi
    simp only [awp_reg, awp_seq, awp_exit, awp_ret, seqQ_n, seqQ_e, loopQ_e, blkQ_e, awpOps_nil, awpOps_one, awpOp_is, putK_is, put_s, slot_is, retA_is, pureOp, apureO, aev, cv, cvc, toD_c, notExit, resA_nil, resA_tmp, oneA_1, ↓reduceIte, Bool.true_and, true_and]
    rw [hi]

def sameV (o : Int) (ds ss : List Int) (o' : Int) (ds' ss' : List Int) : Bool := (o == o') && (ds == ds') && (ss == ss')
theorem same19 (o : Int) (ds ss : List Int) (o' : Int) (ds' ss' : List Int) (h1 : ds.length ≤ 1000000) (h2 : ss.length ≤ 1000000) (h3 : ds'.length ≤ 1000000) (h4 : ss'.length ≤ 1000000) : Meets Try.prog 15 [vw o ds ss, vw o' ds' ss'] (B (sameV o ds ss o' ds' ss')) := by
  have c1 := ints19 ds ds' h1 h3
  have c2 := ints19 ss ss' h2 h4
  unfold sameV
  refine meets_of (X := false) Ty.mixed Try.func15 (by kernel_rfl) rfl (by kernel_rfl) (by simp) ?_; rw [Try.ntmps15, Try.results15]
  simp only [awp_reg, awp_seq, seqQ_n, awpOps_nil, awpOps_one, awpOps_if, awpOp_is, isCallV, putK_is, updK_is, put_s, upd_s, slot_is, pureOp, apureO, astepO, killT, aev, cv, cvc, binK, elO_s, loadA_p, cellsA, cellOk, yieldA, argT, Bool.false_eq_true, ↓reduceIte, List.getElem?_cons_zero, List.getElem?_cons_succ, List.length_cons, List.length_nil, List.cons_append, List.nil_append, List.getElem?_toArray, Option.bind_some, Bool.true_and, true_and, ne_eq, not_false_eq_true, reduceCtorEq, Nat.reduceAdd, Nat.reduceEqDiff, Nat.zero_add, Ty.td3, Ty.td24]
  cases ho : o == o'
  · simp only [awp_ret, seqQ_n, awpOps_nil, awpOps_one, awpOps_if, awpOp_is, putK_is, put_s, slot_is, retA_is, pureOp, apureO, aev, cv, cvc, yieldA, guardA_tf, pickA_f, toD_c, notExit, resA_nil, resA_tmp, oneA_1, ↓reduceIte, List.getElem?_cons_zero, List.getElem?_cons_succ, List.getElem?_toArray, Option.bind_some, Bool.false_and, Bool.and_self, and_self, Nat.reduceEqDiff, ho]
  cases hl1 : (ds.length : Int) == ds'.length
  · have : (ds == ds') = false := by
      simp only [beq_eq_false_iff_ne] at hl1 ⊢
      intro h; rw [h] at hl1; exact hl1 rfl
    simp only [awp_ret, seqQ_n, awpOps_nil, awpOps_one, awpOps_if, awpOp_is, awpO_is, putK_is, put_s, slot_is, retA_is, pureOp, apureO, aev, cv, cvc, binK, elO_s, elO_none, lenA, lenK, loadA_p, yieldA, guardA_tt, guardA_tf, pickA_t, pickA_f, toD_c, notExit, resA_nil, resA_tmp, oneA_1, Bool.false_eq_true, ↓reduceIte, List.getElem?_cons_zero, List.getElem?_cons_succ, List.length_cons, List.length_nil, List.getElem?_toArray, Option.bind_some, Bool.and_true, Bool.true_and, Bool.false_and, Bool.and_false, Bool.and_self, true_and, and_true, and_self, ne_eq, not_false_eq_true, reduceCtorEq, Nat.reduceAdd, Nat.reduceEqDiff, Nat.zero_add, Option.isSome_some, Ty.td22, Ty.td24, ho, hl1, this, List.length_map]
  cases hl2 : (ss.length : Int) == ss'.length
  · have : (ss == ss') = false := by
      simp only [beq_eq_false_iff_ne] at hl2 ⊢
      intro h; rw [h] at hl2; exact hl2 rfl
    simp only [awp_ret, seqQ_n, awpOps_nil, awpOps_one, awpOps_if, awpOp_is, awpO_is, putK_is, put_s, slot_is, retA_is, pureOp, apureO, aev, cv, cvc, binK, elO_s, elO_none, lenA, lenK, loadA_p, yieldA, guardA_tt, guardA_tf, pickA_t, pickA_f, toD_c, notExit, resA_nil, resA_tmp, oneA_1, Bool.false_eq_true, ↓reduceIte, List.getElem?_cons_zero, List.getElem?_cons_succ, List.length_cons, List.length_nil, List.getElem?_toArray, Option.bind_some, Bool.and_true, Bool.true_and, Bool.and_false, Bool.and_self, true_and, and_true, and_self, ne_eq, not_false_eq_true, reduceCtorEq, Nat.reduceAdd, Nat.reduceEqDiff, Nat.zero_add, Option.isSome_some, Ty.td22, Ty.td24, ho, hl1, hl2, this, List.length_map]
  simp only [awpOps_one, awpOps_if, awpOp_is, isCallV, callW_is, callV_is, awpO_is, putK_is, put_s, slot_is, pureOp, apureO, aev, cv, cvc, binK, elO_s, elO_none, lenA, lenK, loadA_p, yieldA, guardA_tt, pickA_t, Bool.false_eq_true, ↓reduceIte, List.getElem?_cons_zero, List.getElem?_cons_succ, List.length_cons, List.length_nil, List.map_cons, List.map_nil, List.append_nil, List.getElem?_toArray, Option.bind_some, Bool.true_and, true_and, ne_eq, not_false_eq_true, reduceCtorEq, Nat.reduceAdd, Nat.reduceEqDiff, Nat.zero_add, Option.isSome_some, Ty.td22, Ty.td24, ho, hl1, hl2, List.length_map]
  cases hd : ds == ds'
  · rw [hd] at c1
    refine call_meets (c1) (by simp only [aev, cv, cvc, toD_sl, consO_some, toDL_nil, toDL_cons] <;> rfl) ?_; simp only [awp_ret, seqQ_n, awpOps_nil, awpOps_one, awpOps_if, awpOp_is, putK_is, put_s, upd_s, slot_is, retA_is, pureOp, apureO, killT, aev, cv, cvc, yieldA, guardA_tf, pickA_t, pickA_f, flat_c, ownsV_sl, ownsL_nil, ownsL_cons, toD_c, notExit, resA_nil, resA_tmp, oneA_1, ↓reduceIte, List.getElem?_cons_zero, List.getElem?_cons_succ, List.append_nil, List.getElem?_toArray, Option.bind_some, Bool.false_and, Bool.and_self, Bool.or_true, and_self, Nat.reduceEqDiff, List.isEmpty_nil]
  · rw [hd] at c1
    refine call_meets (c1) (by simp only [aev, cv, cvc, toD_sl, consO_some, toDL_nil, toDL_cons] <;> rfl) ?_; simp only [awpOps_one, awpOps_if, awpOp_is, isCallV, callW_is, callV_is, awpO_is, putK_is, put_s, upd_s, slot_is, pureOp, apureO, killT, aev, cv, cvc, elO_s, loadA_p, yieldA, guardA_tt, pickA_t, flat_c, ownsV_sl, ownsL_nil, ownsL_cons, Bool.false_eq_true, ↓reduceIte, List.getElem?_cons_zero, List.getElem?_cons_succ, List.length_cons, List.length_nil, List.map_cons, List.map_nil, List.append_nil, List.getElem?_toArray, Option.bind_some, Bool.true_and, Bool.or_true, true_and, ne_eq, not_false_eq_true, reduceCtorEq, Nat.reduceAdd, Nat.reduceEqDiff, Nat.zero_add, List.isEmpty_nil, Ty.td22, Ty.td24]
    refine call_meets (c2) (by simp only [aev, cv, cvc, toD_sl, consO_some, toDL_nil, toDL_cons] <;> rfl) ?_; simp only [awp_ret, seqQ_n, awpOps_nil, awpOps_one, awpOp_is, putK_is, put_s, upd_s, slot_is, retA_is, pureOp, apureO, killT, aev, cv, cvc, pickA_t, flat_c, ownsV_sl, ownsL_nil, ownsL_cons, toD_c, notExit, resA_nil, resA_tmp, oneA_1, ↓reduceIte, List.append_nil, Bool.and_self, Bool.or_true, and_self, Nat.reduceEqDiff, List.isEmpty_nil]

def few19 (o : Int) (ds ss : List Int) : Bool := decide ((ds.length : Int) ≤ 8) && decide ((ss.length : Int) ≤ 8) && decide (-1000000 ≤ o) && decide (o ≤ 1000000) && ss.all (fun s => decide (-1000000 ≤ s) && decide (s ≤ 1000000)) && (!((sizeE ds).2 == 0) || decide ((sizeE ds).1 ≤ 300))

def okS (s : Int) : Bool := decide (-1000000 ≤ s) && decide (s ≤ 1000000)
theorem fewView (o : Int) (ds ss : List Int) (hd : ds.length ≤ maxLen) (hs : ss.length ≤ maxLen) : Meets Try.prog 10 [vw o ds ss] (B (few19 o ds ss)) := by
  have hd' : ds.length ≤ 9223372036854775807 := Nat.le_trans hd (by unfold maxLen; omega)
  have hs' : ss.length ≤ 9223372036854775807 := Nat.le_trans hs (by unfold maxLen; omega)
  unfold few19
  refine meets_of (X := false) Ty.mixed Try.func10 (by kernel_rfl) rfl (by kernel_rfl) (by simp) ?_; rw [Try.ntmps10, Try.results10]
  simp only [awp_reg, awp_seq, seqQ_n, awpOps_nil, awpOps_one, awpOps_if, awpOp_is, isCallV, putK_is, updK_is, put_s, upd_s, slot_is, pureOp, apureO, astepO, killT, aev, cv, cvc, binK, elO_s, elO_none, lenA, lenK, loadA_p, cellsA, cellOk, yieldA, argT, Bool.false_eq_true, ↓reduceIte, List.getElem?_cons_zero, List.getElem?_cons_succ, List.length_cons, List.length_nil, List.nil_append, List.getElem?_toArray, Option.bind_some, Bool.true_and, true_and, ne_eq, not_false_eq_true, reduceCtorEq, Nat.reduceAdd, Nat.reduceEqDiff, Nat.zero_add, Option.isSome_some, Ty.td22, Ty.td24]
  by_cases h1 : (8 : Int) < ds.length
  · rw [show decide ((ds.length : Int) ≤ 8) = false by simpa using h1]
    simp only [awp_reg, awp_seq, awp_cond, awp_ret, seqQ_n, seqQ_r, awpOps_nil, awpOps_one, awpOps_if, awpOp_is, putK_is, put_s, slot_is, retA_is, pureOp, apureO, aev, cv, cvc, yieldA, guardA_ft, condA_t, pickA_t, toD_c, notExit, resA_nil, resA_tmp, oneA_1, ↓reduceIte, List.getElem?_cons_zero, List.getElem?_cons_succ, List.getElem?_toArray, Option.bind_some, Bool.false_and, Bool.and_self, and_self, Nat.reduceEqDiff, decide_true, List.length_map, h1]
  by_cases h2 : (8 : Int) < ss.length
  · rw [show decide ((ss.length : Int) ≤ 8) = false by simpa using h2]
    simp only [awp_reg, awp_seq, awp_cond, awp_ret, seqQ_n, seqQ_r, awpOps_nil, awpOps_one, awpOps_if, awpOp_is, awpO_is, putK_is, put_s, slot_is, retA_is, pureOp, apureO, aev, cv, cvc, binK, elO_s, elO_none, lenA, lenK, loadA_p, yieldA, guardA_ft, guardA_ff, condA_t, pickA_t, pickA_f, toD_c, notExit, resA_nil, resA_tmp, oneA_1, Bool.false_eq_true, ↓reduceIte, List.getElem?_cons_zero, List.getElem?_cons_succ, List.length_cons, List.length_nil, List.getElem?_toArray, Option.bind_some, Bool.and_true, Bool.true_and, Bool.false_and, Bool.and_false, Bool.and_self, true_and, and_true, and_self, ne_eq, not_false_eq_true, reduceCtorEq, Nat.reduceAdd, Nat.reduceEqDiff, Nat.zero_add, Option.isSome_some, decide_true, decide_false, Ty.td22, Ty.td24, List.length_map, h1, h2]
  by_cases h3 : o < -1000000
  · rw [show decide (-1000000 ≤ o) = false by simpa using h3]
    simp only [awp_reg, awp_seq, awp_cond, awp_ret, seqQ_n, seqQ_r, awpOps_nil, awpOps_one, awpOps_if, awpOp_is, awpO_is, putK_is, put_s, slot_is, retA_is, pureOp, apureO, aev, cv, cvc, binK, elO_s, elO_none, lenA, lenK, loadA_p, yieldA, guardA_ft, guardA_ff, condA_t, pickA_t, pickA_f, toD_c, notExit, resA_nil, resA_tmp, oneA_1, Bool.false_eq_true, ↓reduceIte, List.getElem?_cons_zero, List.getElem?_cons_succ, List.length_cons, List.length_nil, List.getElem?_toArray, Option.bind_some, Bool.and_true, Bool.true_and, Bool.false_and, Bool.and_false, Bool.and_self, true_and, and_true, and_self, ne_eq, not_false_eq_true, reduceCtorEq, Nat.reduceAdd, Nat.reduceEqDiff, Nat.zero_add, Option.isSome_some, decide_true, decide_false, Ty.td3, Ty.td22, Ty.td24, List.length_map, h1, h2, h3]
  by_cases h4 : 1000000 < o
  · rw [show decide (o ≤ 1000000) = false by simpa using h4]
    simp only [awp_reg, awp_seq, awp_cond, awp_ret, seqQ_n, seqQ_r, awpOps_nil, awpOps_one, awpOps_if, awpOp_is, awpO_is, putK_is, put_s, slot_is, retA_is, pureOp, apureO, aev, cv, cvc, binK, elO_s, elO_none, lenA, lenK, loadA_p, yieldA, guardA_ff, condA_t, pickA_f, toD_c, notExit, resA_nil, resA_tmp, oneA_1, Bool.false_eq_true, ↓reduceIte, List.getElem?_cons_zero, List.getElem?_cons_succ, List.length_cons, List.length_nil, List.getElem?_toArray, Option.bind_some, Bool.and_true, Bool.true_and, Bool.false_and, Bool.and_false, Bool.and_self, true_and, and_true, and_self, ne_eq, not_false_eq_true, reduceCtorEq, Nat.reduceAdd, Nat.reduceEqDiff, Nat.zero_add, Option.isSome_some, decide_true, decide_false, Ty.td3, Ty.td22, Ty.td24, List.length_map, h1, h2, h3, h4]
  rw [show decide ((ds.length : Int) ≤ 8) = true by simpa using h1, show decide ((ss.length : Int) ≤ 8) = true by simpa using h2, show decide (-1000000 ≤ o) = true by simpa using h3, show decide (o ≤ 1000000) = true by simpa using h4]
  have hz := refSize ds (by omega)
  simp only [Bool.true_and]
  simp only [awp_skip, awp_reg, awp_seq, awp_cond, awp_block, awp_loop, seqQ_n, awpOps_nil, awpOps_one, awpOps_if, awpOp_is, awpO_is, putK_is, put_s, slot_is, pureOp, apureO, aev, cv, cvc, binK, elO_s, elO_none, lenA, lenK, loadA_p, yieldA, guardA_ff, condA_f, pickA_f, Bool.false_eq_true, ↓reduceIte, List.getElem?_cons_zero, List.getElem?_cons_succ, List.length_cons, List.length_nil, List.getElem?_toArray, Option.bind_some, Bool.true_and, true_and, ne_eq, not_false_eq_true, reduceCtorEq, Nat.reduceAdd, Nat.reduceEqDiff, Nat.zero_add, Option.isSome_some, decide_false, Ty.td3, Ty.td22, Ty.td24, List.length_map, h1, h2, h3, h4]
  refine loop_k (fun k : Nat => k ≤ ss.length ∧ ss.all okS = (ss.drop k).all okS) (fun k => ⟨59, [(3, I k), (1, .ptr 0 0)], [some (.var 24 [I o, ints ds, ints ss])]⟩) (fun k => ss.length - k) 0 ⟨Nat.zero_le _, rfl⟩ (by simp only [slot_is, aev, cv, cvc, Weak, ↓reduceIte, Bool.and_true, Bool.and_self, and_true, and_self, Nat.reduceEqDiff]; simp) rfl rfl ?_
  rintro k ⟨hk, hi⟩ K hK
  simp only at hK
  simp only [awp_reg, awp_seq, awp_cond, seqQ_n, awpOps_nil, awpOps_one, awpOp_is, putK_is, put_s, slot_is, pureOp, apureO, aev, cv, cvc, binK, elO_s, elO_none, lenA, lenK, loadA_p, Bool.false_eq_true, ↓reduceIte, List.getElem?_cons_zero, List.getElem?_cons_succ, List.length_cons, List.length_nil, Bool.true_and, true_and, ne_eq, not_false_eq_true, reduceCtorEq, Nat.reduceAdd, Nat.reduceEqDiff, Nat.zero_add, Option.isSome_some, Ty.td22, Ty.td24, List.length_map]
  refine condA_dec (fun hlt => ?_) (fun hge => ?_)
  · have hlt' : k < ss.length := by omega
    have hx : ss[k]? = some ss[k] := List.getElem?_eq_getElem hlt'
    rw [List.drop_eq_getElem_cons hlt', List.all_cons] at hi
    generalize ss[k] = s at *
    by_cases g1 : s < -1000000
    · rw [show okS s = false by simp [okS]; omega, Bool.false_and] at hi
      simp only [awp_skip, awp_reg, awp_seq, awp_cond, awp_block, awp_ret, seqQ_n, seqQ_r, loopQ_r, blkQ_r, awpOps_nil, awpOps_one, awpOps_if, awpOp_is, putK_is, put_s, slot_is, retA_is, pureOp, apureO, aev, cv, cvc, binK, elO_s, loadA_d, loadA_p, yieldA, guardA_ft, condA_t, pickA_t, toD_c, notExit, resA_nil, resA_tmp, oneA_1, Int.natCast_nonneg, Bool.false_eq_true, ↓reduceIte, List.getElem?_cons_zero, List.getElem?_cons_succ, List.length_cons, List.length_nil, List.getElem?_toArray, Option.bind_some, Option.map_some, Bool.true_and, true_and, ne_eq, not_false_eq_true, reduceCtorEq, Nat.reduceAdd, Nat.reduceEqDiff, Nat.zero_add, Int.toNat_natCast, decide_true, Ty.td3, Ty.td22, Ty.td24, List.getElem?_map, hx, g1]
      rw [show (ss.all fun s => decide (-1000000 ≤ s) && decide (s ≤ 1000000)) = false from hi]
      simp
    by_cases g2 : 1000000 < s
    · rw [show okS s = false by simp [okS]; omega, Bool.false_and] at hi
      simp only [awp_skip, awp_reg, awp_seq, awp_cond, awp_block, awp_ret, seqQ_n, seqQ_r, loopQ_r, blkQ_r, awpOps_nil, awpOps_one, awpOps_if, awpOp_is, awpO_is, putK_is, put_s, slot_is, retA_is, pureOp, apureO, aev, cv, cvc, binK, elO_s, loadA_d, loadA_p, yieldA, guardA_ff, condA_t, pickA_f, toD_c, notExit, resA_nil, resA_tmp, oneA_1, Int.natCast_nonneg, Bool.false_eq_true, ↓reduceIte, List.getElem?_cons_zero, List.getElem?_cons_succ, List.length_cons, List.length_nil, List.getElem?_toArray, Option.bind_some, Option.map_some, Bool.true_and, true_and, ne_eq, not_false_eq_true, reduceCtorEq, Nat.reduceAdd, Nat.reduceEqDiff, Nat.zero_add, Int.toNat_natCast, decide_true, decide_false, Ty.td3, Ty.td22, Ty.td24, List.getElem?_map, hx, g1, g2]
      rw [show (ss.all fun s => decide (-1000000 ≤ s) && decide (s ≤ 1000000)) = false from hi]
      simp
    rw [show okS s = true by simp [okS]; omega, Bool.true_and] at hi
    simp only [awp_skip, awp_reg, awp_seq, awp_cond, awp_block, seqQ_n, loopQ_n, blkQ_n, awpOps_nil, awpOps_one, awpOps_if, awpOp_is, awpO_is, putK_is, put_s, slot_is, pureOp, apureO, aev, cv, cvc, binK, elO_s, loadA_d, loadA_p, yieldA, guardA_ff, condA_f, pickA_f, Int.natCast_nonneg, Bool.false_eq_true, ↓reduceIte, List.getElem?_cons_zero, List.getElem?_cons_succ, List.length_cons, List.length_nil, List.getElem?_toArray, Option.bind_some, Option.map_some, Bool.true_and, true_and, ne_eq, not_false_eq_true, reduceCtorEq, Nat.reduceAdd, Nat.reduceEqDiff, Nat.zero_add, Int.toNat_natCast, decide_false, Ty.td3, Ty.td22, Ty.td24, List.getElem?_map, hx, g1, g2, wrap_in (x := (k : Int) + 1) (by omega) (by omega)]
    refine hK (k + 1) _ ⟨hlt', hi⟩ (by omega) ?_ rfl rfl
    simp only [slot_is, aev, cv, cvc, Weak, ↓reduceIte, Bool.and_true, Bool.and_self, and_true, and_self, Nat.reduceEqDiff]
    simp
  · have hk' : k = ss.length := by omega
    subst hk'
    rw [List.drop_length, List.all_nil] at hi
    rw [show (ss.all fun s => decide (-1000000 ≤ s) && decide (s ≤ 1000000)) = true from hi]
    generalize sizeE ds = z at *
    obtain ⟨n, z⟩ := z
    by_cases hz0 : z = 0
    · subst hz0
      simp only [awp_reg, awp_seq, awp_exit, seqQ_n, seqQ_e, loopQ_e, blkQ_e, awpOps_one, awpOp_is, isCallV, callW_is, callV_is, putK_is, put_s, slot_is, pureOp, apureO, aev, cv, cvc, elO_s, loadA_p, Bool.false_eq_true, ↓reduceIte, List.getElem?_cons_zero, List.getElem?_cons_succ, List.length_cons, List.length_nil, List.map_cons, List.map_nil, List.append_nil, Bool.true_and, true_and, ne_eq, not_false_eq_true, reduceCtorEq, Nat.reduceAdd, Nat.reduceEqDiff, Nat.zero_add, Ty.td22, Ty.td24]
      refine call_meets (hz) (by simp only [aev, cv, cvc, toD_sl, consO_some, toDL_nil, toDL_cons] <;> rfl) ?_; simp only [awp_reg, awp_seq, awp_ret, seqQ_n, awpOps_nil, awpOps_one, awpOps_if, awpOp_is, awpO_is, putK_is, put_s, upd_s, slot_is, retA_is, pureOp, apureO, killT, aev, cv, cvc, binK, elO_s, yieldA, guardA_ff, pickA_f, flat_c, flat_tup, flatL_nil, flatL_cons, ownsV_sl, ownsL_nil, ownsL_cons, toD_c, notExit, resA_nil, resA_tmp, oneA_1, ↓reduceIte, List.getElem?_cons_zero, List.getElem?_cons_succ, List.append_nil, List.getElem?_toArray, Option.bind_some, Bool.and_self, Bool.or_true, Bool.false_or, Bool.not_true, and_self, Nat.reduceEqDiff, List.isEmpty_nil, false_or, bne_self_eq_false, beq_self_eq_true]
    · simp only [awp_reg, awp_seq, awp_exit, seqQ_n, seqQ_e, loopQ_e, blkQ_e, awpOps_one, awpOp_is, isCallV, callW_is, callV_is, putK_is, put_s, slot_is, pureOp, apureO, aev, cv, cvc, elO_s, loadA_p, Bool.false_eq_true, ↓reduceIte, List.getElem?_cons_zero, List.getElem?_cons_succ, List.length_cons, List.length_nil, List.map_cons, List.map_nil, List.append_nil, Bool.true_and, true_and, ne_eq, not_false_eq_true, reduceCtorEq, Nat.reduceAdd, Nat.reduceEqDiff, Nat.zero_add, Ty.td22, Ty.td24]
      refine call_meets (hz) (by simp only [aev, cv, cvc, toD_sl, consO_some, toDL_nil, toDL_cons, show (z != 0) = true by simpa using hz0, show (z == 0) = false by simpa using hz0] <;> rfl) ?_; simp only [awp_reg, awp_seq, awp_ret, seqQ_n, awpOps_nil, awpOps_one, awpOps_if, awpOp_is, putK_is, put_s, upd_s, slot_is, retA_is, pureOp, apureO, killT, aev, cv, cvc, binK, elO_s, yieldA, guardA_ft, pickA_t, flat_c, flat_tup, flatL_nil, flatL_cons, ownsV_sl, ownsL_nil, ownsL_cons, toD_c, notExit, resA_nil, resA_tmp, oneA_1, ↓reduceIte, List.getElem?_cons_zero, List.getElem?_cons_succ, List.append_nil, List.getElem?_toArray, Option.bind_some, Bool.and_self, Bool.or_true, Bool.true_or, Bool.not_false, and_self, Nat.reduceEqDiff, List.isEmpty_nil, true_or, show (z != 0) = true by simpa using hz0, show (z == 0) = false by simpa using hz0]
end Go.Proofs.Ytimagnkdgpfamaa.V1
