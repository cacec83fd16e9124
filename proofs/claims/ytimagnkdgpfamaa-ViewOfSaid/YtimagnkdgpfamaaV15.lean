/- Views: the offset of an index, offsets by the reference, the reference's Of. -/
import Derived.Test.YtimagnkdgpfamaaV11
namespace Go.Proofs.Ytimagnkdgpfamaa.V15
open Go Go.Proofs.Ytimagnkdgpfamaa.Eng Go.Proofs.Ytimagnkdgpfamaa Go.RowKit Go.Proofs.Ytimagnkdgpfamaa.A1 Go.Proofs.Ytimagnkdgpfamaa.A2 Go.Proofs.Ytimagnkdgpfamaa.A3 Go.Proofs.Ytimagnkdgpfamaa.A4 Go.Proofs.Ytimagnkdgpfamaa.A5 Go.Proofs.Ytimagnkdgpfamaa.A8 Go.Proofs.Ytimagnkdgpfamaa.A10 Go.Proofs.Ytimagnkdgpfamaa.V1 Go.Proofs.Ytimagnkdgpfamaa.V2 Go.Proofs.Ytimagnkdgpfamaa.V3 Go.Proofs.Ytimagnkdgpfamaa.V4 Go.Proofs.Ytimagnkdgpfamaa.V5 Go.Proofs.Ytimagnkdgpfamaa.V6 Go.Proofs.Ytimagnkdgpfamaa.V7 Go.Proofs.Ytimagnkdgpfamaa.V11
set_option linter.unusedSimpArgs false
set_option linter.unusedVariables false
set_option linter.unusedSectionVars false
set_option maxRecDepth 100000

/-- The offset of an index, or an error. -/
def atV (o : Int) (ds ss ix : List Int) : Int × Int :=
  if formed ds ss = false then (0, 1) else if (offsetE ds ix).2 ≠ 0 then (0, (offsetE ds ix).2) else (dot ix ss o, 0)
theorem off_len {ds ix : List Int} (h : (offsetE ds ix).2 = 0) : ix.length = ds.length := by
  unfold offsetE at h
  split at h
  · rename_i h1
    exact absurd h h1
  split at h
  · simp at h
  · rename_i h2
    exact Decidable.not_not.1 h2

section
variable (o : Int) (ds ss ix : List Int) (hd : ds.length ≤ 1000000) (hs : ss.length ≤ 1000000) (hi : ix.length ≤ 1000000)
include hd hs hi
theorem progAt : Meets Try.prog 13 [vw o ds ss, ints ix] (two (atV o ds ss ix)) := by
  have hf := isFormed o ds ss hd hs
  have ho := offset ds ix hd hi
  unfold atV
  cases hq : formed ds ss with
  | false =>
    rw [hq] at hf
    rw [if_pos rfl]
    refine meets_of (X := true) Ty.mixed Try.func13 (by kernel_rfl) rfl (by kernel_rfl) (by simp) ?_; rw [Try.ntmps13, Try.results13]
    simp only [awp_reg, awp_seq, seqQ_n, awpOps_nil, awpOps_one, awpOp_is, isCallV, callW_is, callV_is, putK_is, updK_is, put_s, upd_s, slot_is, pureOp, apureO, astepO, killT, aev, cv, cvc, elO_s, loadA_p, cellsA, cellOk, argT, Bool.false_eq_true, ↓reduceIte, List.getElem?_cons_zero, List.length_cons, List.length_nil, List.map_cons, List.map_nil, List.nil_append, List.append_nil, List.take_succ_cons, List.drop_zero, Bool.true_and, true_and, Nat.reduceAdd, Nat.reduceEqDiff, Nat.zero_add, Nat.le_refl, List.take_nil, Ty.td28]
    refine call_meets (hf) (by simp only [aev, cv, cvc, toD_c, toD_agg, toD_sl, consO_some, toDL_nil, toDL_cons, Option.map_some] <;> rfl) ?_; simp only [awp_reg, awp_seq, awp_cond, awp_ret, seqQ_n, seqQ_r, awpOps_nil, awpOps_one, awpOp_is, putK_is, put_s, upd_s, slot_is, retA_is, pureOp, apureO, killT, aev, cv, cvc, condA_t, flat_c, ownsV_c, ownsV_agg, ownsV_sl, ownsL_nil, ownsL_cons, toD_c, toD_tup, consO_some, toDL_nil, toDL_cons, notExit, resA_nil, resA_tmp, oneA_2, ↓reduceIte, List.append_nil, Option.map_some, Bool.and_self, Bool.or_true, Bool.not_false, and_self, Nat.reduceEqDiff, List.isEmpty_nil]
  | true =>
  rw [hq] at hf
  rw [if_neg (by simp)]
  obtain ⟨_, hl, _⟩ := formed_dims hq
  by_cases hz : (offsetE ds ix).2 = 0
  case neg =>
    rw [if_pos hz]
    generalize offsetE ds ix = z at *
    refine meets_of (X := true) Ty.mixed Try.func13 (by kernel_rfl) rfl (by kernel_rfl) (by simp) ?_; rw [Try.ntmps13, Try.results13]
    simp only [awp_reg, awp_seq, seqQ_n, awpOps_nil, awpOps_one, awpOp_is, isCallV, callW_is, callV_is, putK_is, updK_is, put_s, upd_s, slot_is, pureOp, apureO, astepO, killT, aev, cv, cvc, elO_s, loadA_p, cellsA, cellOk, argT, Bool.false_eq_true, ↓reduceIte, List.getElem?_cons_zero, List.length_cons, List.length_nil, List.map_cons, List.map_nil, List.nil_append, List.append_nil, List.take_succ_cons, List.drop_zero, Bool.true_and, true_and, Nat.reduceAdd, Nat.reduceEqDiff, Nat.zero_add, Nat.le_refl, List.take_nil, Ty.td28]
    refine call_meets (hf) (by simp only [aev, cv, cvc, toD_c, toD_agg, toD_sl, consO_some, toDL_nil, toDL_cons, Option.map_some] <;> rfl) ?_; simp only [awp_skip, awp_reg, awp_seq, awp_cond, seqQ_n, awpOps_nil, awpOps_one, awpOp_is, isCallV, callW_is, callV_is, putK_is, put_s, upd_s, slot_is, pureOp, apureO, killT, aev, cv, cvc, elO_s, loadA_p, condA_f, flat_c, ownsV_c, ownsV_agg, ownsV_sl, ownsL_nil, ownsL_cons, Bool.false_eq_true, ↓reduceIte, List.getElem?_cons_zero, List.getElem?_cons_succ, List.length_cons, List.length_nil, List.map_cons, List.map_nil, List.append_nil, Bool.true_and, Bool.or_true, Bool.not_true, true_and, ne_eq, not_false_eq_true, reduceCtorEq, Nat.reduceAdd, Nat.reduceEqDiff, Nat.zero_add, List.isEmpty_nil, Ty.td22, Ty.td28]
    refine call_meets (ho) (by simp only [aev, cv, cvc, toD_sl, consO_some, toDL_nil, toDL_cons, show (z.2 != 0) = true by simpa using hz] <;> rfl) ?_; simp only [awp_reg, awp_seq, awp_cond, awp_ret, seqQ_n, seqQ_r, awpOps_nil, awpOps_one, awpOp_is, putK_is, put_s, upd_s, slot_is, retA_is, pureOp, apureO, killT, aev, cv, cvc, binK, elO_s, condA_t, flat_c, flat_tup, flatL_nil, flatL_cons, ownsV_sl, ownsL_nil, ownsL_cons, toD_c, toD_tup, consO_some, toDL_nil, toDL_cons, notExit, resA_nil, resA_tmp, oneA_2, ↓reduceIte, List.getElem?_cons_zero, List.getElem?_cons_succ, List.append_nil, Option.map_some, Bool.and_self, Bool.or_true, and_self, Nat.reduceEqDiff, List.isEmpty_nil, show (z.2 != 0) = true by simpa using hz]
  have hil := off_len hz
  have hv := vat o ds ss ix hi (by omega)
  rw [if_neg (by simpa using hz)]
  generalize offsetE ds ix = z at *
  refine meets_of (X := true) Ty.mixed Try.func13 (by kernel_rfl) rfl (by kernel_rfl) (by simp) ?_; rw [Try.ntmps13, Try.results13]
  simp only [awp_reg, awp_seq, seqQ_n, awpOps_nil, awpOps_one, awpOp_is, isCallV, callW_is, callV_is, putK_is, updK_is, put_s, upd_s, slot_is, pureOp, apureO, astepO, killT, aev, cv, cvc, elO_s, loadA_p, cellsA, cellOk, argT, Bool.false_eq_true, ↓reduceIte, List.getElem?_cons_zero, List.length_cons, List.length_nil, List.map_cons, List.map_nil, List.nil_append, List.append_nil, List.take_succ_cons, List.drop_zero, Bool.true_and, true_and, Nat.reduceAdd, Nat.reduceEqDiff, Nat.zero_add, Nat.le_refl, List.take_nil, Ty.td28]
  refine call_meets (hf) (by simp only [aev, cv, cvc, toD_c, toD_agg, toD_sl, consO_some, toDL_nil, toDL_cons, Option.map_some] <;> rfl) ?_; simp only [awp_skip, awp_reg, awp_seq, awp_cond, seqQ_n, awpOps_nil, awpOps_one, awpOp_is, isCallV, callW_is, callV_is, putK_is, put_s, upd_s, slot_is, pureOp, apureO, killT, aev, cv, cvc, elO_s, loadA_p, condA_f, flat_c, ownsV_c, ownsV_agg, ownsV_sl, ownsL_nil, ownsL_cons, Bool.false_eq_true, ↓reduceIte, List.getElem?_cons_zero, List.getElem?_cons_succ, List.length_cons, List.length_nil, List.map_cons, List.map_nil, List.append_nil, Bool.true_and, Bool.or_true, Bool.not_true, true_and, ne_eq, not_false_eq_true, reduceCtorEq, Nat.reduceAdd, Nat.reduceEqDiff, Nat.zero_add, List.isEmpty_nil, Ty.td22, Ty.td28]
  refine call_meets (ho) (by simp only [aev, cv, cvc, toD_sl, consO_some, toDL_nil, toDL_cons, show (z.2 != 0) = false by simpa using hz] <;> rfl) ?_; simp only [awp_skip, awp_reg, awp_seq, awp_cond, seqQ_n, awpOps_nil, awpOps_one, awpOp_is, isCallV, callW_is, callV_is, putK_is, put_s, upd_s, slot_is, pureOp, apureO, killT, aev, cv, cvc, binK, elO_s, loadA_p, condA_f, flat_c, flat_tup, flatL_nil, flatL_cons, ownsV_sl, ownsL_nil, ownsL_cons, Bool.false_eq_true, ↓reduceIte, List.getElem?_cons_zero, List.getElem?_cons_succ, List.length_cons, List.length_nil, List.map_cons, List.map_nil, List.append_nil, List.take_succ_cons, List.drop_zero, Bool.true_and, Bool.and_self, Bool.or_true, true_and, and_self, reduceCtorEq, Nat.reduceAdd, Nat.reduceEqDiff, Nat.zero_add, List.isEmpty_nil, Nat.le_refl, List.take_nil, Ty.td28, show (z.2 != 0) = false by simpa using hz]
  refine call_meets (hv) (by simp only [aev, cv, cvc, toD_c, toD_agg, toD_sl, consO_some, toDL_nil, toDL_cons, Option.map_some] <;> rfl) ?_; simp only [awp_ret, seqQ_n, awpOps_nil, awpOps_one, awpOp_is, putK_is, put_s, upd_s, slot_is, retA_is, pureOp, apureO, killT, aev, cv, cvc, flat_c, ownsV_c, ownsV_agg, ownsV_sl, ownsL_nil, ownsL_cons, toD_c, toD_tup, consO_some, toDL_nil, toDL_cons, notExit, resA_nil, resA_tmp, oneA_2, ↓reduceIte, List.append_nil, Option.map_some, Bool.and_self, Bool.or_true, and_self, Nat.reduceEqDiff, List.isEmpty_nil]

theorem refAt19 : Meets Try.prog 14 [vw o ds ss, ints ix] (two (atV o ds ss ix)) := by
  have hf := refForm o ds ss hd hs
  have ho := refOffset ds ix hd hi
  unfold atV
  cases hq : formed ds ss with
  | false =>
    rw [hq, if_neg (by simp)] at hf
    rw [if_pos rfl]
    refine meets_of (X := true) Ty.mixed Try.func14 (by kernel_rfl) rfl (by kernel_rfl) (by simp) ?_; rw [Try.ntmps14, Try.results14]
    simp only [awp_reg, awp_seq, seqQ_n, awpOps_nil, awpOps_one, awpOp_is, isCallV, callW_is, callV_is, putK_is, updK_is, put_s, upd_s, slot_is, pureOp, apureO, astepO, killT, aev, cv, cvc, elO_s, loadA_p, cellsA, cellOk, argT, Bool.false_eq_true, ↓reduceIte, List.getElem?_cons_zero, List.length_cons, List.length_nil, List.map_cons, List.map_nil, List.nil_append, List.append_nil, List.take_succ_cons, List.drop_zero, Bool.true_and, true_and, Nat.reduceAdd, Nat.reduceEqDiff, Nat.zero_add, Nat.le_refl, List.take_nil, Ty.td24]
    refine call_meets (hf) (by simp only [aev, cv, cvc, toD_c, toD_agg, toD_sl, consO_some, toDL_nil, toDL_cons, Option.map_some, show ((1 : Int) != 0) = true from rfl] <;> rfl) ?_; simp only [awp_reg, awp_seq, awp_cond, awp_ret, seqQ_n, seqQ_r, awpOps_nil, awpOps_one, awpOp_is, putK_is, put_s, upd_s, slot_is, retA_is, pureOp, apureO, killT, aev, cv, cvc, binK, condA_t, flat_c, ownsV_c, ownsV_agg, ownsV_sl, ownsL_nil, ownsL_cons, toD_c, toD_tup, consO_some, toDL_nil, toDL_cons, notExit, resA_nil, resA_tmp, oneA_2, ↓reduceIte, List.append_nil, Option.map_some, Bool.and_self, Bool.or_true, and_self, Nat.reduceEqDiff, List.isEmpty_nil, show ((1 : Int) != 0) = true from rfl]
  | true =>
  rw [hq, if_pos rfl] at hf
  rw [if_neg (by simp)]
  obtain ⟨_, hl, _⟩ := formed_dims hq
  by_cases hz : (offsetE ds ix).2 = 0
  case neg =>
    rw [if_pos hz]
    generalize offsetE ds ix = z at *
    refine meets_of (X := true) Ty.mixed Try.func14 (by kernel_rfl) rfl (by kernel_rfl) (by simp) ?_; rw [Try.ntmps14, Try.results14]
    simp only [awp_reg, awp_seq, seqQ_n, awpOps_nil, awpOps_one, awpOp_is, isCallV, callW_is, callV_is, putK_is, updK_is, put_s, upd_s, slot_is, pureOp, apureO, astepO, killT, aev, cv, cvc, elO_s, loadA_p, cellsA, cellOk, argT, Bool.false_eq_true, ↓reduceIte, List.getElem?_cons_zero, List.length_cons, List.length_nil, List.map_cons, List.map_nil, List.nil_append, List.append_nil, List.take_succ_cons, List.drop_zero, Bool.true_and, true_and, Nat.reduceAdd, Nat.reduceEqDiff, Nat.zero_add, Nat.le_refl, List.take_nil, Ty.td24]
    refine call_meets (hf) (by simp only [aev, cv, cvc, toD_c, toD_agg, toD_sl, consO_some, toDL_nil, toDL_cons, Option.map_some] <;> rfl) ?_; simp only [awp_skip, awp_reg, awp_seq, awp_cond, seqQ_n, awpOps_nil, awpOps_one, awpOp_is, isCallV, callW_is, callV_is, putK_is, put_s, upd_s, slot_is, pureOp, apureO, killT, aev, cv, cvc, binK, elO_s, loadA_p, condA_f, flat_c, ownsV_c, ownsV_agg, ownsV_sl, ownsL_nil, ownsL_cons, Bool.false_eq_true, ↓reduceIte, List.getElem?_cons_zero, List.getElem?_cons_succ, List.length_cons, List.length_nil, List.map_cons, List.map_nil, List.append_nil, Bool.true_and, Bool.or_true, true_and, ne_eq, not_false_eq_true, reduceCtorEq, Nat.reduceAdd, Nat.reduceEqDiff, Nat.zero_add, List.isEmpty_nil, Ty.td22, Ty.td24, bne_self_eq_false]
    refine call_meets (ho) (by simp only [aev, cv, cvc, toD_sl, consO_some, toDL_nil, toDL_cons, show (z.2 != 0) = true by simpa using hz] <;> rfl) ?_; simp only [awp_reg, awp_seq, awp_cond, awp_ret, seqQ_n, seqQ_r, awpOps_nil, awpOps_one, awpOp_is, putK_is, put_s, upd_s, slot_is, retA_is, pureOp, apureO, killT, aev, cv, cvc, binK, elO_s, condA_t, flat_c, flat_tup, flatL_nil, flatL_cons, ownsV_sl, ownsL_nil, ownsL_cons, toD_c, toD_tup, consO_some, toDL_nil, toDL_cons, notExit, resA_nil, resA_tmp, oneA_2, ↓reduceIte, List.getElem?_cons_zero, List.getElem?_cons_succ, List.append_nil, Option.map_some, Bool.and_self, Bool.or_true, and_self, Nat.reduceEqDiff, List.isEmpty_nil, show (z.2 != 0) = true by simpa using hz]
  have hil := off_len hz
  rw [if_neg (by simpa using hz)]
  generalize offsetE ds ix = z at *
  refine meets_of (X := true) Ty.mixed Try.func14 (by kernel_rfl) rfl (by kernel_rfl) (by simp) ?_; rw [Try.ntmps14, Try.results14]
  simp only [awp_reg, awp_seq, seqQ_n, awpOps_nil, awpOps_one, awpOp_is, isCallV, callW_is, callV_is, putK_is, updK_is, put_s, upd_s, slot_is, pureOp, apureO, astepO, killT, aev, cv, cvc, elO_s, loadA_p, cellsA, cellOk, argT, Bool.false_eq_true, ↓reduceIte, List.getElem?_cons_zero, List.length_cons, List.length_nil, List.map_cons, List.map_nil, List.nil_append, List.append_nil, List.take_succ_cons, List.drop_zero, Bool.true_and, true_and, Nat.reduceAdd, Nat.reduceEqDiff, Nat.zero_add, Nat.le_refl, List.take_nil, Ty.td24]
  refine call_meets (hf) (by simp only [aev, cv, cvc, toD_c, toD_agg, toD_sl, consO_some, toDL_nil, toDL_cons, Option.map_some] <;> rfl) ?_; simp only [awp_skip, awp_reg, awp_seq, awp_cond, seqQ_n, awpOps_nil, awpOps_one, awpOp_is, isCallV, callW_is, callV_is, putK_is, put_s, upd_s, slot_is, pureOp, apureO, killT, aev, cv, cvc, binK, elO_s, loadA_p, condA_f, flat_c, ownsV_c, ownsV_agg, ownsV_sl, ownsL_nil, ownsL_cons, Bool.false_eq_true, ↓reduceIte, List.getElem?_cons_zero, List.getElem?_cons_succ, List.length_cons, List.length_nil, List.map_cons, List.map_nil, List.append_nil, Bool.true_and, Bool.or_true, true_and, ne_eq, not_false_eq_true, reduceCtorEq, Nat.reduceAdd, Nat.reduceEqDiff, Nat.zero_add, List.isEmpty_nil, Ty.td22, Ty.td24, bne_self_eq_false]
  refine call_meets (ho) (by simp only [aev, cv, cvc, toD_sl, consO_some, toDL_nil, toDL_cons, show (z.2 != 0) = false by simpa using hz] <;> rfl) ?_; simp only [awp_skip, awp_reg, awp_seq, awp_cond, awp_block, awp_loop, seqQ_n, awpOps_nil, awpOps_one, awpOp_is, putK_is, put_s, upd_s, slot_is, pureOp, apureO, killT, aev, cv, cvc, binK, elO_s, loadA_p, condA_f, flat_c, flat_tup, flatL_nil, flatL_cons, ownsV_sl, ownsL_nil, ownsL_cons, Bool.false_eq_true, ↓reduceIte, List.getElem?_cons_zero, List.getElem?_cons_succ, List.length_cons, List.length_nil, List.append_nil, Bool.true_and, Bool.and_self, Bool.or_true, true_and, and_self, ne_eq, not_false_eq_true, reduceCtorEq, Nat.reduceAdd, Nat.reduceEqDiff, Nat.zero_add, List.isEmpty_nil, Ty.td3, Ty.td24, show (z.2 != 0) = false by simpa using hz]
  refine loop_k (fun x : Nat × Int => x.1 ≤ ix.length ∧ dot ix ss o = dot (ix.drop x.1) (ss.drop x.1) x.2) (fun x => ⟨47, [(10, I x.1), (9, I x.2), (1, ints ix), (2, .ptr 0 0)], [some (.var 24 [I o, ints ds, ints ss])]⟩) (fun x => ix.length - x.1) (0, o) ⟨Nat.zero_le _, rfl⟩ (by simp only [slot_is, aev, cv, cvc, Weak, ↓reduceIte, Bool.and_true, Bool.and_self, and_true, and_self, reduceCtorEq, Nat.reduceEqDiff]; simp) rfl rfl ?_
  rintro ⟨k, a⟩ ⟨hk, hi2⟩ K hK
  simp only at hk hi2 hK
  simp only [awp_reg, awp_seq, awp_cond, seqQ_n, awpOps_nil, awpOps_one, awpOp_is, putK_is, put_s, slot_is, pureOp, apureO, aev, cv, cvc, binK, elO_s, lenA, lenK, ↓reduceIte, Bool.true_and, true_and, Nat.reduceEqDiff, Option.isSome_some, Ty.td22, List.length_map]
  refine condA_dec (fun hlt => ?_) (fun hge => ?_)
  · have hlt' : k < ix.length := by omega
    have hx : ix[k]? = some ix[k] := List.getElem?_eq_getElem hlt'
    have hx2 : ss[k]? = some ss[k] := List.getElem?_eq_getElem (by omega)
    rw [dot_step hlt' (by omega)] at hi2
    generalize ix[k] = i at *
    generalize ss[k] = s at *
    simp only [awp_regX, awp_skip, awp_seq, awp_block, seqQ_n, aev, cv, cvc]
    refine drawS_tail (by kernel_rfl) ?_; simp only [awp_reg, seqQ_n, loopQ_n, blkQ_n, awpOps_nil, awpOps_one, awpOpsD_nil, awpOpsD_one, awpOp_is, awpOpD_is, putK_is, put_s, slot_is, keepOp, pureOp, apureO, aev, cv, cvc, binK, elO_s, loadA_d, loadA_p, Int.natCast_nonneg, Bool.false_eq_true, ↓reduceIte, List.getElem?_cons_zero, List.getElem?_cons_succ, List.length_cons, List.length_nil, Option.map_some, Bool.true_and, true_and, ne_eq, not_false_eq_true, reduceCtorEq, Nat.reduceAdd, Nat.reduceEqDiff, Nat.zero_add, Int.toNat_natCast, Ty.td3, Ty.td22, Ty.td24, List.getElem?_map, hx, hx2, wrap_in (x := (k : Int) + 1) (by omega) (by omega)]
    repeat refine ⟨by omega, ?_⟩
    refine hK (k + 1, IntKind.i64.wrap (a + IntKind.i64.wrap (i * s))) _ ⟨hlt', hi2⟩ (by simp only; omega) ?_ rfl rfl
    simp only [slot_is, aev, cv, cvc, Weak, ↓reduceIte, Bool.and_true, Bool.and_self, and_true, and_self, Nat.reduceEqDiff]
    simp
  · have hk' : k = ix.length := by omega
    subst hk'
    rw [List.drop_length] at hi2
    simp only [awp_reg, awp_seq, awp_exit, awp_ret, seqQ_n, seqQ_e, loopQ_e, blkQ_e, awpOps_nil, awpOps_one, awpOp_is, putK_is, put_s, slot_is, retA_is, pureOp, apureO, aev, cv, cvc, toD_c, toD_tup, consO_some, toDL_nil, toDL_cons, notExit, resA_nil, resA_tmp, oneA_2, ↓reduceIte, Option.map_some, Bool.true_and, true_and, Nat.reduceEqDiff]
    rw [hi2]
    cases ss.drop ix.length <;> rfl
end

def roV : Nat → AV
  | 0 => .nils
  | k + 1 => .own 2 1 (k + 1)
def roH (o : Int) (ds ss : List Int) : Nat → Heap
  | 0 => [some (.var 24 [I o, ints ds, ints ss])]
  | k + 1 => [some (.var 24 [I o, ints ds, ints ss]), none, some (.row 3 1 ((offs o ds ss (k + 1)).map enc))]
theorem refOffsets (o : Int) (ds ss : List Int) (hd : ds.length ≤ 1000000) (hs : ss.length ≤ 1000000) : Meets Try.prog 20 [vw o ds ss] (ints (offsE o ds ss)) := by
  have hf := refForm o ds ss hd hs
  unfold offsE
  cases hq : formed ds ss with
  | false =>
    rw [hq, if_neg (by simp)] at hf
    refine Meets.weak (r0 := .nils) ?_ fun ok w v h => nil_imp h
    refine meets_of (X := true) Ty.mixed Try.func20 (by kernel_rfl) rfl (by kernel_rfl) (by simp) ?_; rw [Try.ntmps20, Try.results20]
    simp only [awp_reg, awp_seq, seqQ_n, awpOps_nil, awpOps_one, awpOp_is, isCallV, callW_is, callV_is, putK_is, updK_is, put_s, upd_s, slot_is, pureOp, apureO, astepO, killT, aev, cv, cvc, elO_s, loadA_p, cellsA, cellOk, argT, Bool.false_eq_true, ↓reduceIte, List.getElem?_cons_zero, List.length_cons, List.length_nil, List.map_cons, List.map_nil, List.nil_append, List.append_nil, List.take_succ_cons, List.drop_zero, Bool.true_and, true_and, Nat.reduceAdd, Nat.reduceEqDiff, Nat.zero_add, Nat.le_refl, List.take_nil, Ty.td24]
    refine call_meets (hf) (by simp only [aev, cv, cvc, toD_c, toD_agg, toD_sl, consO_some, toDL_nil, toDL_cons, Option.map_some, show ((1 : Int) != 0) = true from rfl] <;> rfl) ?_; simp only [awp_reg, awp_seq, awp_cond, awp_ret, seqQ_n, seqQ_r, awpOps_nil, awpOps_one, awpOp_is, putK_is, put_s, upd_s, slot_is, retA_is, pureOp, apureO, killT, aev, cv, cvc, binK, condA_t, flat_c, ownsV_c, ownsV_agg, ownsV_sl, ownsL_nil, ownsL_cons, toD_nils, notExit, resA_nil, resA_tmp, oneA_1, ↓reduceIte, List.append_nil, Bool.and_self, Bool.or_true, and_self, List.isEmpty_nil, show ((1 : Int) != 0) = true from rfl]
  | true =>
  rw [hq, if_pos rfl] at hf
  obtain ⟨hl, n, hn⟩ := formed_ok hq
  have hz := refSize ds hd
  have hnb : n ≤ 4096 := by have := sizeE_bound ds; rw [hn] at this; simp only at this; omega
  rw [hn] at hz
  rw [hn, if_pos rfl, Int.toNat_natCast]
  refine Meets.weak (r0 := oqR o ds ss n) ?_ fun ok w v h => oqR_imp h
  refine meets_of (X := true) Ty.mixed Try.func20 (by kernel_rfl) rfl (by kernel_rfl) (by simp) ?_; rw [Try.ntmps20, Try.results20]
  simp only [awp_reg, awp_seq, seqQ_n, awpOps_nil, awpOps_one, awpOp_is, isCallV, callW_is, callV_is, putK_is, updK_is, put_s, upd_s, slot_is, pureOp, apureO, astepO, killT, aev, cv, cvc, elO_s, loadA_p, cellsA, cellOk, argT, Bool.false_eq_true, ↓reduceIte, List.getElem?_cons_zero, List.length_cons, List.length_nil, List.map_cons, List.map_nil, List.nil_append, List.append_nil, List.take_succ_cons, List.drop_zero, Bool.true_and, true_and, Nat.reduceAdd, Nat.reduceEqDiff, Nat.zero_add, Nat.le_refl, List.take_nil, Ty.td24]
  refine call_meets (hf) (by simp only [aev, cv, cvc, toD_c, toD_agg, toD_sl, consO_some, toDL_nil, toDL_cons, Option.map_some] <;> rfl) ?_; simp only [awp_skip, awp_reg, awp_seq, awp_cond, seqQ_n, awpOps_nil, awpOps_one, awpOp_is, isCallV, callW_is, callV_is, putK_is, put_s, upd_s, slot_is, pureOp, apureO, killT, aev, cv, cvc, binK, elO_s, loadA_p, condA_f, flat_c, ownsV_c, ownsV_agg, ownsV_sl, ownsL_nil, ownsL_cons, Bool.false_eq_true, ↓reduceIte, List.getElem?_cons_zero, List.getElem?_cons_succ, List.length_cons, List.length_nil, List.map_cons, List.map_nil, List.append_nil, Bool.true_and, Bool.or_true, true_and, ne_eq, not_false_eq_true, reduceCtorEq, Nat.reduceAdd, Nat.reduceEqDiff, Nat.zero_add, List.isEmpty_nil, Ty.td22, Ty.td24, bne_self_eq_false]
  refine call_meets (hz) (by simp only [aev, cv, cvc, toD_sl, consO_some, toDL_nil, toDL_cons] <;> rfl) ?_; simp only [awp_reg, awp_seq, awp_block, awp_loop, seqQ_n, awpOps_nil, awpOps_one, awpOp_is, putK_is, put_s, upd_s, slot_is, pureOp, apureO, killT, aev, cv, cvc, elO_s, flat_c, flat_tup, flatL_nil, flatL_cons, ownsV_sl, ownsL_nil, ownsL_cons, ↓reduceIte, List.getElem?_cons_zero, List.getElem?_cons_succ, List.append_nil, Bool.and_self, Bool.or_true, and_self, Nat.reduceEqDiff, List.isEmpty_nil]
  refine loop_g (fun k : Nat => k ≤ n) (fun k => ⟨43, [(6, I k), (4, I n), (3, roV k), (1, .ptr 0 0)], roH o ds ss k⟩) (fun k => n - k) 0 (Nat.zero_le _) (by simp only [slot_is, aev, cv, cvc, Weak, ↓reduceIte, Bool.and_true, Bool.and_self, and_true, and_self, Nat.reduceEqDiff, roV]; simp) rfl (.inl rfl) ?_
  intro k hk K hK
  simp only at hK
  simp only [awp_reg, awp_seq, awp_cond, seqQ_n, awpOps_nil, awpOps_one, awpOp_is, putK_is, put_s, slot_is, pureOp, apureO, aev, cv, cvc, binK, ↓reduceIte, Bool.true_and, true_and, Nat.reduceEqDiff]
  refine condA_dec (fun hlt => ?_) (fun hge => ?_)
  · have hlt' : k + 1 ≤ n := by omega
    obtain ⟨p1, p2, p3, p4⟩ := places hn (show (0 : Int) ≤ (k : Int) by omega) hlt
    have c1 := refIndex ds (k : Int) hd
    rw [p1] at c1
    have c2 := refAt19 o ds ss (idxR ds (k : Int)).1 hd hs (by rw [idxR_len]; exact hd)
    rw [show atV o ds ss (idxR ds (k : Int)).1 = (dot (idxR ds (k : Int)).1 ss o, 0) by unfold atV; rw [if_neg (by simp [hq]), p4, if_neg (by simp)]] at c2
    have hstep := offs_step o ds ss k
    generalize (idxR ds (k : Int)).1 = x at *
    generalize dot x ss o = y at *
    have hk1 : IntKind.i64.wrap ((k : Int) + 1) = (k : Int) + 1 := wrap_in (by omega) (by omega)
    cases k with
    | zero =>
      have hx1 : offs o ds ss 1 = [y] := by rw [hstep]; rfl
      simp only [awp_skip, awp_reg, awp_seq, awp_block, seqQ_n, awpOps_one, awpOp_is, isCallV, callW_is, callV_is, putK_is, put_s, slot_is, pureOp, apureO, aev, cv, cvc, elO_s, loadA_p, Bool.false_eq_true, ↓reduceIte, List.getElem?_cons_zero, List.getElem?_cons_succ, List.length_cons, List.length_nil, List.map_cons, List.map_nil, List.append_nil, Bool.true_and, true_and, ne_eq, not_false_eq_true, reduceCtorEq, Nat.reduceAdd, Nat.reduceEqDiff, Nat.zero_add, Ty.td22, Ty.td24, roV, roH]
      refine call_meets (c1) (by simp only [aev, cv, cvc, toD_c, toD_sl, consO_some, toDL_nil, toDL_cons] <;> rfl) ?_; simp only [awp_reg, awp_seq, seqQ_n, awpOps_nil, awpOps_one, awpOp_is, isCallV, callW_is, callV_is, putK_is, put_s, upd_s, slot_is, pureOp, apureO, killT, aev, cv, cvc, elO_s, loadA_p, flat_c, flat_tup, flat_sl, flatL_nil, flatL_cons, ownsV_c, ownsV_sl, ownsL_nil, ownsL_cons, Bool.false_eq_true, ↓reduceIte, List.getElem?_cons_zero, List.getElem?_cons_succ, List.length_cons, List.length_nil, List.map_cons, List.map_nil, List.append_nil, List.take_succ_cons, List.drop_zero, Bool.and_true, Bool.true_and, Bool.and_self, Bool.or_true, true_and, and_true, and_self, Nat.reduceAdd, Nat.reduceEqDiff, Nat.zero_add, List.isEmpty_nil, Nat.le_refl, List.take_nil, Ty.td24]
      refine call_meets (c2) (by simp only [aev, cv, cvc, toD_c, toD_agg, toD_sl, consO_some, toDL_nil, toDL_cons, Option.map_some, show ((0 : Nat) : Int) + 1 = 1 by omega, wrap_in (x := (1 : Int)) (by omega) (by omega)] <;> rfl) ?_; simp only [awp_reg, seqQ_n, loopQ_n, blkQ_n, awpOps_nil, awpOps_one, awpOp_is, isCallV, putK_is, updK_is, put_s, upd_s, slot_is, slot.eq_1, pureOp, apureO, astepO, bsEnd_is, appA_own, appV, killT, aev, cv, cvc, binK, elO_s, cellsA, cellOk, setAll, fillA, elemsA, elemsN, chunk, flat_c, flat_tup, flatL_nil, flatL_cons, isD_c, isDL_nil, isDL_cons, ownsV_c, ownsV_agg, ownsV_sl, ownsL_nil, ownsL_cons, Bool.false_eq_true, ↓reduceIte, List.getElem?_cons_zero, List.getElem?_cons_succ, List.length_cons, List.length_nil, List.map_cons, List.map_nil, List.cons_append, List.nil_append, List.append_nil, List.set_cons_zero, List.take_succ_cons, List.drop_zero, List.all_cons, List.all_nil, Bool.true_and, Bool.and_self, Bool.or_true, Value.oneCell', true_and, and_self, Nat.reduceAdd, Nat.reduceMul, Nat.reduceLT, Nat.reduceLeDiff, Nat.reduceEqDiff, Nat.reduceMod, Nat.zero_add, List.isEmpty_nil, List.range_succ, List.range_zero, Nat.le_refl, List.take_nil, Ty.td3, Ty.td22, show ((0 : Nat) : Int) + 1 = 1 by omega, wrap_in (x := (1 : Int)) (by omega) (by omega)]
      refine hK 1 _ hlt' (by omega) ?_ rfl (.weak (by simp [roH]) (by simp [WeakH, roH, hx1]) rfl rfl)
      simp only [slot_is, aev, cv, cvc, Weak, ↓reduceIte, Bool.and_true, Bool.and_self, and_true, and_self, Nat.reduceEqDiff, Nat.zero_add, roV]; simp
    | succ k =>
      have hlen := offs_len o ds ss (k + 1)
      have hbt : List.take (k + 1) (List.map enc (offs o ds ss (k + 1))) = List.map enc (offs o ds ss (k + 1)) := List.take_of_length_le (by simp [hlen])
      simp only [awp_skip, awp_reg, awp_seq, awp_block, seqQ_n, awpOps_one, awpOp_is, isCallV, callW_is, callV_is, putK_is, put_s, slot_is, pureOp, apureO, aev, cv, cvc, elO_s, loadA_p, Bool.false_eq_true, ↓reduceIte, List.getElem?_cons_zero, List.getElem?_cons_succ, List.length_cons, List.length_nil, List.map_cons, List.map_nil, List.append_nil, Bool.true_and, true_and, ne_eq, not_false_eq_true, reduceCtorEq, Nat.reduceAdd, Nat.reduceEqDiff, Nat.zero_add, Ty.td22, Ty.td24, roV, roH]
      refine call_meets (c1) (by simp only [aev, cv, cvc, toD_c, toD_sl, consO_some, toDL_nil, toDL_cons] <;> rfl) ?_; simp only [awp_reg, awp_seq, seqQ_n, awpOps_nil, awpOps_one, awpOp_is, isCallV, callW_is, callV_is, putK_is, put_s, upd_s, slot_is, pureOp, apureO, killT, aev, cv, cvc, elO_s, loadA_p, flat_c, flat_tup, flat_sl, flatL_nil, flatL_cons, ownsV_c, ownsV_sl, ownsL_nil, ownsL_cons, Bool.false_eq_true, ↓reduceIte, List.getElem?_cons_zero, List.getElem?_cons_succ, List.length_cons, List.length_nil, List.map_cons, List.map_nil, List.append_nil, List.take_succ_cons, List.drop_zero, Bool.and_true, Bool.true_and, Bool.and_self, Bool.or_true, true_and, and_true, and_self, Nat.reduceAdd, Nat.reduceEqDiff, Nat.zero_add, List.isEmpty_nil, Nat.le_refl, List.take_nil, Ty.td24]
      refine call_meets (c2) (by simp only [aev, cv, cvc, toD_c, toD_agg, toD_sl, consO_some, toDL_nil, toDL_cons, Option.map_some, hbt, hk1] <;> rfl) ?_; simp only [awp_reg, seqQ_n, loopQ_n, blkQ_n, awpOps_nil, awpOps_one, awpOp_is, isCallV, putK_is, updK_is, put_s, upd_s, slot_is, slot.eq_1, pureOp, apureO, astepO, bsEnd_is, appA_own, appV, killT, killB, killH, aev, cv, cvc, binK, elO_s, cellsA, cellOk, setAll, fillA, elemsA, elemsN, rowE, chunk, flat_c, flat_tup, flatL_nil, flatL_cons, isD_c, isDL_nil, isDL_cons, ownsV_c, ownsV_agg, ownsV_sl, ownsL_nil, ownsL_cons, killV_c, killV_tup, killV_agg, killV_sl, killV_own, killV_ptr, killL_nil, killL_cons, Bool.false_eq_true, ↓reduceIte, List.getElem?_cons_zero, List.getElem?_cons_succ, List.length_cons, List.length_nil, List.map_cons, List.map_nil, List.cons_append, List.nil_append, List.append_nil, List.set_cons_zero, List.set_cons_succ, Option.map_some, Option.map_none, List.take_succ_cons, List.drop_zero, List.all_cons, List.all_nil, Bool.true_and, Bool.and_self, Bool.or_true, Bool.or_false, Value.oneCell', true_and, and_self, reduceCtorEq, Nat.reduceAdd, Nat.reduceMul, Nat.reduceLT, Nat.reduceLeDiff, Nat.reduceEqDiff, Nat.reduceMod, Nat.zero_add, List.isEmpty_nil, List.mem_cons, List.not_mem_nil, or_false, List.range_succ, List.range_zero, Nat.le_refl, List.take_nil, List.getElem?_nil, Ty.td3, Ty.td22, hbt, List.length_map, hlen, hk1]
      refine ⟨by omega, by omega, ?_⟩
      refine hK (k + 1 + 1) _ hlt' (by omega) ?_ rfl (.weak (by simp [roH]) (by simp [WeakH, roH, hstep]) rfl rfl)
      simp only [slot_is, aev, cv, cvc, Weak, ↓reduceIte, Bool.and_true, Bool.and_self, and_true, and_self, Nat.reduceEqDiff, roV]; simp
  · have hk' : k = n := by omega
    subst hk'
    cases k with
    | zero =>
      simp only [awp_reg, awp_seq, awp_exit, awp_ret, seqQ_n, seqQ_e, loopQ_e, blkQ_e, awpOps_nil, awpOps_one, awpOp_is, putK_is, put_s, slot_is, retA_is, pureOp, apureO, aev, cv, cvc, toD_nils, notExit, resA_nil, resA_tmp, oneA_1, ↓reduceIte, Bool.and_self, and_self, Nat.reduceEqDiff, roV, roH, oqR]
    | succ k =>
      have hlen := offs_len o ds ss (k + 1)
      have hbt : List.take (k + 1) (List.map enc (offs o ds ss (k + 1))) = List.map enc (offs o ds ss (k + 1)) := List.take_of_length_le (by simp [hlen])
      simp only [awp_reg, awp_seq, awp_exit, awp_ret, seqQ_n, seqQ_e, loopQ_e, blkQ_e, awpOps_nil, awpOps_one, awpOp_is, putK_is, put_s, slot_is, retA_is, pureOp, apureO, aev, cv, cvc, elemsA, toD_own, notExit, resA_nil, resA_tmp, oneA_1, ↓reduceIte, List.getElem?_cons_zero, List.getElem?_cons_succ, Option.map_some, Bool.and_self, and_self, Nat.reduceEqDiff, Nat.le_refl, roV, roH, oqR, hbt, List.length_map, hlen]

theorem refOf19 (ds : List Int) (hd : ds.length ≤ 1000000) : Meets Try.prog 12 [ints ds] (tupV (ofV ds)) := by
  have hz := refSize ds hd
  have hcl := refCopy ds hd
  unfold ofV
  generalize sizeE ds = z at *
  obtain ⟨n, z⟩ := z
  simp only
  by_cases hz0 : z = 0
  case neg =>
    rw [if_pos hz0]
    refine Meets.weak (r0 := zeroW z) ?_ zero_vw
    refine meets_of (X := true) Ty.mixed Try.func12 (by kernel_rfl) rfl (by kernel_rfl) (by simp) ?_; rw [Try.ntmps12, Try.results12]
    simp only [awp_reg, awp_seq, seqQ_n, awpOps_nil, awpOps_one, awpOp_is, isCallV, callW_is, callV_is, putK_is, updK_is, put_s, upd_s, slot_is, pureOp, apureO, astepO, killT, aev, cv, cvc, elO_s, argT, Bool.false_eq_true, ↓reduceIte, List.length_nil, List.map_cons, List.map_nil, List.nil_append, List.append_nil, List.all_cons, List.all_nil, Bool.true_and, Bool.and_self, Value.oneCell', true_and, and_self, reduceCtorEq, Ty.td24]
    refine call_meets (hz) (by simp only [aev, cv, cvc, toD_sl, consO_some, toDL_nil, toDL_cons, show (z != 0) = true by simpa using hz0] <;> rfl) ?_; simp only [awp_reg, awp_seq, awp_cond, awp_ret, seqQ_n, seqQ_r, awpOps_nil, awpOps_one, awpOp_is, isCallV, putK_is, updK_is, put_s, upd_n, upd_s, slot_is, slot.eq_1, retA_is, pureOp, apureO, astepO, killT, aev, cv, cvc, binK, elO_s, loadA_p, storeA, cellsA, cellOk, setAll, fillA, placeT, placesA, condA_t, flat_c, flat_tup, flatL_nil, flatL_cons, ownsV_sl, ownsL_nil, ownsL_cons, toD_c, toD_nils, toD_tup, toD_agg, consO_some, toDL_nil, toDL_cons, notExit, resA_nil, resA_tmp, resA_cell, oneA_2, Bool.false_eq_true, ↓reduceIte, List.getElem?_cons_zero, List.getElem?_cons_succ, List.length_cons, List.length_nil, List.map_cons, List.map_nil, List.append_nil, List.set_cons_zero, List.set_cons_succ, Option.map_some, List.take_succ_cons, List.drop_zero, List.all_cons, List.all_nil, Bool.true_and, Bool.and_self, Bool.or_true, Value.oneCell', true_and, and_self, ne_eq, not_false_eq_true, reduceCtorEq, Nat.reduceAdd, Nat.reduceEqDiff, Nat.zero_add, List.isEmpty_nil, Nat.le_refl, List.take_nil, Ty.td3, Ty.td22, Ty.td24, show (z != 0) = true by simpa using hz0]
  subst hz0
  rw [if_neg (by simp)]
  refine meets_of (X := true) Ty.mixed Try.func12 (by kernel_rfl) rfl (by kernel_rfl) (by simp) ?_; rw [Try.ntmps12, Try.results12]
  simp only [awp_reg, awp_seq, seqQ_n, awpOps_nil, awpOps_one, awpOp_is, isCallV, callW_is, callV_is, putK_is, updK_is, put_s, upd_s, slot_is, pureOp, apureO, astepO, killT, aev, cv, cvc, elO_s, argT, Bool.false_eq_true, ↓reduceIte, List.length_nil, List.map_cons, List.map_nil, List.nil_append, List.append_nil, List.all_cons, List.all_nil, Bool.true_and, Bool.and_self, Value.oneCell', true_and, and_self, reduceCtorEq, Ty.td24]
  refine call_meets (hz) (by simp only [aev, cv, cvc, toD_sl, consO_some, toDL_nil, toDL_cons] <;> rfl) ?_; simp only [awp_regX, awp_skip, awp_reg, awp_seq, awp_cond, seqQ_n, awpOps_nil, awpOps_one, awpOp_is, putK_is, put_s, upd_s, slot_is, pureOp, apureO, killT, aev, cv, cvc, binK, elO_s, condA_f, flat_c, flat_tup, flatL_nil, flatL_cons, ownsV_sl, ownsL_nil, ownsL_cons, ↓reduceIte, List.getElem?_cons_zero, List.getElem?_cons_succ, List.append_nil, Bool.true_and, Bool.and_self, Bool.or_true, true_and, and_self, Nat.reduceEqDiff, List.isEmpty_nil, bne_self_eq_false]
  refine drawS_wild ?_; simp (config := {maxSteps := 2000000}) only [isCallV, slot_is, pureOp, apureO, killT, killB, aev, cv, cvc, killV_c, killV_nils, killL_nil, killL_cons, Bool.false_eq_true, ↓reduceIte, List.getElem?_cons_zero, List.length_cons, List.length_nil, List.map_cons, List.map_nil, List.nil_append, List.append_nil, List.drop_succ_cons, List.all_nil, Bool.true_and, Bool.and_self, Bool.false_or, true_and, and_self, reduceCtorEq, Nat.reduceLT, Nat.reduceLeDiff, Nat.zero_add, List.not_mem_nil, false_or, List.range_succ, List.range_zero, decide_true, List.zipIdx_cons, List.zipIdx_nil, Nat.le_refl, List.drop_nil, awpW_one, wRun_is, wOp_is, callXW_is, callXV_is, keepK_is, contW_is, nextW_s, confs_nil, opV_move, opV_call, tch_move, rd_move, rd_callv, namesV_sl, namesV_fn, namesL_nil, namesL_cons, namesH_nil, namesH_cons, namesB_none, killO_s, allLt_is, maskH_is, mergeH_is, setH_is, newL_is, refsT, refsH, refsV, refsL]
  refine callx_meets (hcl) (by simp (config := {maxSteps := 2000000}) only [aev, cv, cvc, toD_sl, consO_some, toDL_nil, toDL_cons] <;> rfl) (by simp (config := {maxSteps := 2000000}) only [aev, cv, cvc, flat_sl, ownsV_sl, ownsL_nil, ownsL_cons, List.append_nil, Bool.or_true, List.isEmpty_nil]) ?_; simp (config := {maxSteps := 2000000}) only [awp_reg, awp_seq, awp_block, awp_loop, seqQ_n, awpOps_nil, awpOps_one, awpOp_is, isCallV, putK_is, put_s, slot_is, slot.eq_1, pureOp, apureO, astepO, killT, killB, aev, cv, cvc, binK, elO_s, lenA, lenK, storeA, cellsA, cellOk, setAll, fillA, placeT, placesA, killV_c, killV_nils, killL_nil, killL_cons, Int.natCast_nonneg, Bool.false_eq_true, ↓reduceIte, List.getElem?_cons_zero, List.getElem?_cons_succ, List.length_cons, List.length_nil, List.map_cons, List.map_nil, List.cons_append, List.nil_append, List.append_nil, List.set_cons_zero, List.set_cons_succ, List.drop_succ_cons, List.drop_zero, List.all_cons, List.all_nil, Bool.true_and, Bool.and_self, Bool.or_true, Bool.true_or, Bool.false_or, Bool.or_false, Value.oneCell', true_and, and_self, ne_eq, not_false_eq_true, reduceCtorEq, Nat.reduceAdd, Nat.reduceLT, Nat.reduceLeDiff, Nat.reduceEqDiff, Nat.zero_add, List.mem_cons, List.not_mem_nil, or_false, false_or, Int.toNat_natCast, List.range_succ, List.range_zero, Option.isSome_some, decide_true, List.zipIdx_cons, List.zipIdx_nil, Nat.le_refl, List.drop_nil, Int.le_refl, List.any_cons, List.any_nil, true_or, awpW_nil, awpW_one, wRun_is, wOp_is, keepK_is, stepK_is, contW_is, nextW_n, nextW_s, confs_nil, confs_cons, conf_is, meet_nil, meet_cons, opV_move, opV_alloc, opV_store, opV_makeSlice, opV_build, opV_call, opV_builtin, tch_move, tch_alloc, tch_makeSlice, tch_build, tch_callv, tch_len, tch_store, rd_move, rd_alloc, rd_makeSlice, rd_build, rd_callv, rd_len, rd_store, namesV_c, namesV_nils, namesV_junk, namesV_sl, namesV_ptr, namesV_own, namesV_agg, namesV_fn, namesL_nil, namesL_cons, namesH_nil, namesH_cons, namesB_var, namesB_row, namesB_none, killO_s, allLt_is, maskH_is, mergeH_is, setH_is, newL_is, Bool.or_self, true_or, Nat.reduceBEq, Ty.td3, Ty.td22, Ty.td24, List.length_map]
  repeat refine ⟨by omega, ?_⟩
  refine ⟨by kernel_rfl, ?_⟩
  have e0 : (strdAt ds ds.length).map enc = List.replicate ds.length [.c (.int .i64 0)] := by rw [strdAt, List.drop_length, strd, List.append_nil, List.map_replicate]
  have e1 : (strd (ds.drop ds.length)).2 = 1 := by rw [List.drop_length, strd]
  refine loop_k (fun j : Nat => j ≤ ds.length) (fun j => ⟨43, [(8, I ((j : Int) - 1)), (7, I (strd (ds.drop j)).2), (0, ints ds), (6, .ptr 2 0), (2, .ptr 0 0)], [some (.var 24 [I 0, .nils, .nils]), some (.row 3 1 ((strdAt ds j).map enc)), some (.var 24 [I 0, ints ds, .own 1 1 ds.length])]⟩) (fun j => j) ds.length (Nat.le_refl _) (by simp only [slot_is, aev, cv, cvc, Weak, ↓reduceIte, Bool.and_self, and_self, reduceCtorEq, Nat.reduceEqDiff, e1, wrap_in (x := (ds.length : Int) - 1) (by omega) (by omega)]) rfl (by simp only [e0]) ?_
  intro j hj K hK
  simp only at hK
  cases j with
  | zero =>
    have ht : List.take ds.length (List.map enc (strd ds).1) = List.map enc (strd ds).1 := List.take_of_length_le (by rw [List.length_map, strd_len]; exact Nat.le_refl _)
    simp only [awp_reg, awp_seq, awp_cond, awp_exit, awp_ret, seqQ_n, seqQ_e, loopQ_e, blkQ_e, awpOps_nil, awpOps_one, awpOp_is, isCallV, putK_is, updK_is, put_s, upd_n, slot_is, retA_is, pureOp, apureO, astepO, killT, aev, cv, cvc, binK, elO_s, loadA_p, storeA, cellsA, cellOk, setAll, condA_f, elemsA, toD_c, toD_nils, toD_tup, toD_agg, toD_sl, toD_own, consO_some, toDL_nil, toDL_cons, notExit, resA_nil, resA_tmp, resA_cell, oneA_2, Bool.false_eq_true, ↓reduceIte, List.getElem?_cons_zero, List.getElem?_cons_succ, List.length_cons, List.length_nil, List.set_cons_zero, List.set_cons_succ, Option.map_some, List.take_succ_cons, List.drop_zero, Bool.true_and, Bool.and_self, Value.oneCell', true_and, and_self, reduceCtorEq, Nat.reduceAdd, Nat.reduceLeDiff, Nat.reduceEqDiff, Nat.zero_add, Nat.le_refl, List.take_nil, Ty.td24, show ((0 : Nat) : Int) - 1 = -1 by omega, show decide ((0 : Int) ≤ -1) = false by decide, List.length_map, strd_len ds, ht, show strdAt ds 0 = (strd ds).1 from rfl]
  | succ i =>
    have hlt : i < ds.length := by omega
    have hx : ds[i]? = some ds[i] := List.getElem?_eq_getElem hlt
    obtain ⟨s1, s2⟩ := strdAt_step hlt
    have hsl := strdAt_len (show i + 1 ≤ ds.length by omega)
    have hg : (strdAt ds (i + 1))[i]? = some (strdAt ds (i + 1))[i] := List.getElem?_eq_getElem (by omega)
    have hset : (List.map enc (strdAt ds (i + 1))).set i [I (strd (ds.drop (i + 1))).2] = List.map enc (strdAt ds i) := by rw [← s1, List.map_set]
    generalize (strdAt ds (i + 1))[i] = old at *
    generalize ds[i] = d at *
    simp only [awp_skip, awp_reg, awp_seq, awp_cond, awp_block, seqQ_n, loopQ_n, blkQ_n, awpOps_nil, awpOps_one, awpOp_is, isCallV, putK_is, updK_is, put_s, upd_n, slot_is, pureOp, apureO, astepO, killT, aev, cv, cvc, binK, elO_s, loadA_d, loadA_p, storeA, cellsA, cellOk, setAll, condA_t, isD_c, isDL_nil, isDL_cons, Int.natCast_nonneg, Bool.false_eq_true, ↓reduceIte, List.getElem?_cons_zero, List.getElem?_cons_succ, List.length_cons, List.length_nil, List.set_cons_zero, List.set_cons_succ, Option.map_some, Bool.true_and, Bool.and_self, Value.oneCell', true_and, and_self, ne_eq, not_false_eq_true, reduceCtorEq, Nat.reduceAdd, Nat.reduceEqDiff, Nat.zero_add, Int.toNat_natCast, decide_true, Nat.le_refl, Ty.td3, Ty.td22, Ty.td24, show ((i + 1 : Nat) : Int) - 1 = (i : Int) by omega, show decide ((0 : Int) ≤ (i : Int)) = true by simp, Int.toNat_natCast, List.getElem?_map, hx, hg, hsl, Nat.mul_one, Nat.mod_one, Nat.div_one, hset, wrap_in (x := (i : Int) - 1) (by omega) (by omega)]
    repeat refine ⟨by omega, ?_⟩
    refine hK i _ (by omega) (by omega) ?_ rfl rfl
    simp only [slot_is, aev, cv, cvc, Weak, ↓reduceIte, Bool.and_self, and_self, reduceCtorEq, Nat.reduceEqDiff, s2]
end Go.Proofs.Ytimagnkdgpfamaa.V15
