/- Cells: Join of the reference, the law CellsJoin. -/
import Derived.Test.YtoobaeebgnbpjaaB12
import Derived.Test.YtoobaeebgnbpjaaB14
import Derived.Test.YtoobaeebgnbpjaaB4
namespace Go.Proofs.Ytoobaeebgnbpjaa.B17
open Go Go.Proofs.Ytoobaeebgnbpjaa.Eng Go.Proofs.Ytoobaeebgnbpjaa Go.RowKit Go.Proofs.Ytoobaeebgnbpjaa.A1 Go.Proofs.Ytoobaeebgnbpjaa.A2 Go.Proofs.Ytoobaeebgnbpjaa.A3 Go.Proofs.Ytoobaeebgnbpjaa.A4 Go.Proofs.Ytoobaeebgnbpjaa.A5 Go.Proofs.Ytoobaeebgnbpjaa.B1 Go.Proofs.Ytoobaeebgnbpjaa.B14
set_option linter.unusedSimpArgs false
set_option linter.unusedVariables false
set_option maxRecDepth 100000

theorem copyO (zs : List Int) (hz : zs.length ≤ 1000000) : MeetsO Try.prog 34 [ints zs] (.own 0 1 zs.length) [some (.row 3 1 (zs.map enc))] := by
  refine meetsO_of Ty.mixed Try.func34 (by kernel_rfl) rfl (by kernel_rfl) (by simp) ?_; rw [Try.ntmps34, Try.results34]
  simp only [awp_reg, awp_seq, awp_ret, seqQ_n, awpOps_nil, awpOps_one, awpOp_is, isCallV, retO_is, putK_is, updK_is, put_s, upd_s, slot_is, slot.eq_1, pureOp, apureO, astepO, appA_sl, appV, killT, killB, killH, aev, cv, cvc, elO_s, fillA, elemsA, elemsN, rowE, chunk, isDL_nil, killV_nils, killV_sl, killV_own, notExit, resA_nil, resA_tmp, oneA_1, argT, Bool.false_eq_true, ↓reduceIte, List.getElem?_cons_zero, List.length_cons, List.length_nil, List.map_cons, List.map_nil, List.nil_append, List.set_cons_zero, Option.map_some, List.take_zero, List.all_cons, List.all_nil, Bool.true_and, Bool.and_self, Bool.or_false, Value.oneCell', true_and, and_self, reduceCtorEq, Nat.reduceMul, Nat.reduceLT, Nat.reduceLeDiff, Nat.reduceEqDiff, Nat.zero_add, List.mem_cons, List.not_mem_nil, or_false, List.range_zero, Nat.le_refl, List.take_nil, Ty.td3, Ty.td22, List.length_map, List.length_nil]
  refine ⟨by omega, by omega, ?_⟩
  simp [WeakH, refsV, refsH]

def rjV (k n : Nat) : AV := match k with | 0 => .nils | _ + 1 => .own 2 1 n
def rjH (e : ByteArray) (ds xs : List Int) (k : Nat) (acc : List Int) : Heap := match k with
  | 0 => [some (.var 24 [S e, ints ds, ints xs]), some (.var 24 [.c (.string ⟨#[]⟩), .nils, .nils])]
  | _ + 1 => [some (.var 24 [S e, ints ds, ints xs]), some (.var 24 [.c (.string ⟨#[]⟩), .nils, .nils]), some (.row 3 1 (acc.map enc))]

theorem refJoin (fr : List Int) (l : List Ar) (s : Ar) (hf : fr.length ≤ 500000) (hl : l.length ≤ 1000000) (hs : ∀ a ∈ l, smallA a) (hs1 : s.2.1.length ≤ 500000) (hs2 : s.2.2.length ≤ 1000000) (hd : (l.map fun a => a.2.2.length).sum ≤ 1000000) : Meets Try.prog 26 [ints fr, arrs l, arrV s] (joinE fr l s) := by
  obtain ⟨e, ds, xs⟩ := s
  have hv := refValid e ds xs (Nat.le_trans hs1 (by omega)) hs2
  have hz := refSize fr (by omega)
  have hz2 := refSize (fr ++ ds) (by rw [List.length_append]; simp only at hs1; omega)
  have hcp := copyO fr (by omega)
  unfold joinE
  simp only at *
  by_cases hb : badA (e, ds, xs) = true
  · rw [if_pos (by simp [hb])]
    have hb' : (checkE e ds xs == 0) = false := by simpa [badA] using hb
    rw [hb'] at hv
    refine Meets.weak (r0 := .tup [.agg [.c (.string ⟨#[]⟩), .nils, .nils], I 1]) ?_ zero_imp
    refine meets_of Ty.mixed Try.func26 (by kernel_rfl) rfl (by kernel_rfl) (by simp) ?_; rw [Try.ntmps26, Try.results26]
    simp only [awp_reg, awp_seq, seqQ_n, awpOps_nil, awpOps_one, awpOp_is, isCallV, callW_is, callV_is, putK_is, updK_is, put_s, upd_s, slot_is, pureOp, apureO, astepO, killT, aev, cv, cvc, elO_s, loadA_p, cellsA, cellOk, argT, Bool.false_eq_true, ↓reduceIte, List.getElem?_cons_zero, List.length_cons, List.length_nil, List.map_cons, List.map_nil, List.cons_append, List.nil_append, List.append_nil, List.take_succ_cons, List.drop_zero, List.all_cons, List.all_nil, Bool.true_and, Bool.and_self, Value.oneCell', true_and, and_self, reduceCtorEq, Nat.reduceAdd, Nat.reduceEqDiff, Nat.zero_add, Nat.le_refl, List.take_nil, Ty.td24]
    refine call_meets (hv) (by simp only [aev, cv, cvc, toD_c, toD_agg, toD_sl, consO_some, toDL_nil, toDL_cons, Option.map_some]) ?_; simp only [awp_reg, awp_seq, awp_cond, awp_ret, seqQ_n, seqQ_r, awpOps_nil, awpOps_one, awpOp_is, isCallV, putK_is, updK_is, put_s, upd_n, upd_s, slot_is, slot.eq_1, retA_is, pureOp, apureO, astepO, killT, aev, cv, cvc, elO_s, loadA_p, storeA, cellsA, cellOk, setAll, fillA, placeT, placesA, condA_t, flat_c, ownsV_c, ownsV_agg, ownsV_sl, ownsL_nil, ownsL_cons, toD_c, toD_nils, toD_tup, toD_agg, consO_some, toDL_nil, toDL_cons, notExit, resA_nil, resA_tmp, resA_cell, oneA_2, Bool.false_eq_true, ↓reduceIte, List.getElem?_cons_zero, List.getElem?_cons_succ, List.length_cons, List.length_nil, List.map_cons, List.map_nil, List.append_nil, List.set_cons_zero, List.set_cons_succ, Option.map_some, List.take_succ_cons, List.drop_zero, List.all_cons, List.all_nil, Bool.true_and, Bool.and_self, Bool.or_true, Bool.not_false, Value.oneCell', true_and, and_self, ne_eq, not_false_eq_true, reduceCtorEq, Nat.reduceAdd, Nat.reduceEqDiff, Nat.zero_add, List.isEmpty_nil, Nat.le_refl, List.take_nil, Ty.td9, Ty.td22, Ty.td24]
  have hb' : (checkE e ds xs == 0) = true := by simpa [badA] using hb
  rw [hb'] at hv
  rw [show (badA (e, ds, xs) || l.any badA) = l.any badA by simp [hb]]
  refine Meets.weak (r0 := if l.any badA = true then zeroN 1 else if (sizeE fr).2 ≠ 0 then zeroN (sizeE fr).2 else if (l.length : Int) ≠ (sizeE fr).1 then zeroN 1 else joinR e ds fr (joinD e ds l [])) ?_ fun ok w v h => ?_
  case refine_2 =>
    by_cases c1 : l.any badA = true
    · rw [if_pos c1] at h ⊢
      exact zero_imp ok w v h
    rw [if_neg c1] at h ⊢
    by_cases c2 : (sizeE fr).2 ≠ 0
    · rw [if_pos c2] at h ⊢
      exact zero_imp ok w v h
    rw [if_neg c2] at h ⊢
    by_cases c3 : (l.length : Int) ≠ (sizeE fr).1
    · rw [if_pos c3] at h ⊢
      exact zero_imp ok w v h
    rw [if_neg c3] at h ⊢
    exact joinR_imp h
  refine meets_of Ty.mixed Try.func26 (by kernel_rfl) rfl (by kernel_rfl) (by simp) ?_; rw [Try.ntmps26, Try.results26]
  simp only [awp_reg, awp_seq, seqQ_n, awpOps_nil, awpOps_one, awpOp_is, isCallV, callW_is, callV_is, putK_is, updK_is, put_s, upd_s, slot_is, pureOp, apureO, astepO, killT, aev, cv, cvc, elO_s, loadA_p, cellsA, cellOk, argT, Bool.false_eq_true, ↓reduceIte, List.getElem?_cons_zero, List.length_cons, List.length_nil, List.map_cons, List.map_nil, List.cons_append, List.nil_append, List.append_nil, List.take_succ_cons, List.drop_zero, List.all_cons, List.all_nil, Bool.true_and, Bool.and_self, Value.oneCell', true_and, and_self, ne_eq, reduceCtorEq, Nat.reduceAdd, Nat.reduceEqDiff, Nat.zero_add, Nat.le_refl, List.take_nil, Ty.td24]
  refine call_meets (hv) (by simp only [aev, cv, cvc, toD_c, toD_agg, toD_sl, consO_some, toDL_nil, toDL_cons, Option.map_some]) ?_; simp only [awp_skip, awp_reg, awp_seq, awp_cond, awp_block, awp_loop, seqQ_n, awpOps_nil, awpOps_one, awpOp_is, putK_is, put_s, upd_s, slot_is, pureOp, apureO, killT, aev, cv, cvc, condA_f, flat_c, ownsV_c, ownsV_agg, ownsV_sl, ownsL_nil, ownsL_cons, ↓reduceIte, List.append_nil, Bool.or_true, Bool.not_true, List.isEmpty_nil]
  refine loop_k (fun k : Nat => k ≤ l.length ∧ l.any badA = (l.drop k).any badA) (fun k => ⟨99, [(8, I k), (0, ints fr), (1, arrs l), (5, .ptr 0 0), (6, .ptr 1 0)], [some (.var 24 [S e, ints ds, ints xs]), some (.var 24 [.c (.string ⟨#[]⟩), .nils, .nils])]⟩) (fun k => l.length - k) 0 ⟨Nat.zero_le _, rfl⟩ (by simp only [slot_is, aev, cv, cvc, Weak, ↓reduceIte, Bool.and_true, Bool.and_self, and_true, and_self, reduceCtorEq, Nat.reduceEqDiff]; simp) rfl rfl ?_
  rintro k ⟨hk, hi⟩ K hK
  simp only at hK
  simp only [awp_reg, awp_seq, awp_cond, seqQ_n, awpOps_nil, awpOps_one, awpOp_is, putK_is, put_s, slot_is, pureOp, apureO, aev, cv, cvc, binK, elO_s, lenA, lenK, ↓reduceIte, Bool.true_and, true_and, reduceCtorEq, Nat.reduceEqDiff, Option.isSome_some, Ty.td27, List.length_map]
  refine condA_dec (fun hlt => ?_) (fun hge => ?_)
  · have hlt' : k < l.length := by omega
    have hx : l[k]? = some l[k] := List.getElem?_eq_getElem hlt'
    have hsm := hs l[k] (List.getElem_mem _)
    rw [List.drop_eq_getElem_cons hlt', List.any_cons] at hi
    generalize l[k] = c at *
    obtain ⟨ce, cd, cx⟩ := c
    have hsm : cd.length ≤ 1000000 ∧ cx.length ≤ 1000000 := hsm
    have hvc := refValid ce cd cx (by omega) (by omega)
    cases hbc : badA (ce, cd, cx) with
    | true =>
      rw [hbc, Bool.true_or] at hi
      rw [show (checkE ce cd cx == 0) = false by simpa [badA] using hbc] at hvc
      rw [if_pos hi]
      simp only [awp_skip, awp_reg, awp_seq, awp_block, seqQ_n, awpOps_one, awpOp_is, isCallV, callW_is, callV_is, putK_is, put_s, slot_is, pureOp, apureO, aev, cv, cvc, elO_s, loadA_d, Int.natCast_nonneg, Bool.false_eq_true, ↓reduceIte, List.length_cons, List.length_nil, List.map_cons, List.map_nil, List.append_nil, Option.map_some, List.take_succ_cons, Bool.true_and, true_and, reduceCtorEq, Nat.reduceAdd, Nat.reduceEqDiff, Nat.zero_add, Int.toNat_natCast, Nat.le_refl, List.take_nil, Ty.td24, Ty.td27, List.getElem?_map, hx]
      refine call_meets (hvc) (by simp only [aev, cv, cvc, toD_c, toD_agg, toD_sl, consO_some, toDL_nil, toDL_cons, Option.map_some]) ?_; simp only [awp_reg, awp_seq, awp_cond, awp_ret, seqQ_n, seqQ_r, loopQ_r, blkQ_r, awpOps_nil, awpOps_one, awpOp_is, isCallV, putK_is, updK_is, put_s, upd_n, upd_s, slot_is, slot.eq_1, retA_is, pureOp, apureO, astepO, killT, aev, cv, cvc, elO_s, loadA_p, storeA, cellsA, cellOk, setAll, fillA, placeT, placesA, condA_t, flat_c, ownsV_c, ownsV_agg, ownsV_sl, ownsL_nil, ownsL_cons, toD_c, toD_nils, toD_tup, toD_agg, consO_some, toDL_nil, toDL_cons, notExit, resA_nil, resA_tmp, resA_cell, oneA_2, Bool.false_eq_true, ↓reduceIte, List.getElem?_cons_zero, List.getElem?_cons_succ, List.length_cons, List.length_nil, List.map_cons, List.map_nil, List.append_nil, List.set_cons_zero, List.set_cons_succ, Option.map_some, List.take_succ_cons, List.drop_zero, List.all_cons, List.all_nil, Bool.true_and, Bool.and_self, Bool.or_true, Bool.not_false, Value.oneCell', true_and, and_self, ne_eq, not_false_eq_true, reduceCtorEq, Nat.reduceAdd, Nat.reduceEqDiff, Nat.zero_add, List.isEmpty_nil, Nat.le_refl, List.take_nil, Ty.td9, Ty.td22, Ty.td24]
    | false =>
      rw [hbc, Bool.false_or] at hi
      rw [show (checkE ce cd cx == 0) = true by simpa [badA] using hbc] at hvc
      simp only [awp_skip, awp_reg, awp_seq, awp_block, seqQ_n, awpOps_one, awpOp_is, isCallV, callW_is, callV_is, putK_is, put_s, slot_is, pureOp, apureO, aev, cv, cvc, elO_s, loadA_d, Int.natCast_nonneg, Bool.false_eq_true, ↓reduceIte, List.length_cons, List.length_nil, List.map_cons, List.map_nil, List.append_nil, Option.map_some, List.take_succ_cons, Bool.true_and, true_and, reduceCtorEq, Nat.reduceAdd, Nat.reduceEqDiff, Nat.zero_add, Int.toNat_natCast, Nat.le_refl, List.take_nil, Ty.td24, Ty.td27, List.getElem?_map, hx]
      refine call_meets (hvc) (by simp only [aev, cv, cvc, toD_c, toD_agg, toD_sl, consO_some, toDL_nil, toDL_cons, Option.map_some, wrap_in (x := (k : Int) + 1) (by omega) (by omega)]) ?_; simp only [awp_skip, awp_reg, awp_cond, seqQ_n, loopQ_n, blkQ_n, awpOps_nil, awpOps_one, awpOp_is, putK_is, put_s, upd_s, slot_is, pureOp, apureO, killT, aev, cv, cvc, binK, condA_f, flat_c, ownsV_c, ownsV_agg, ownsV_sl, ownsL_nil, ownsL_cons, ↓reduceIte, List.append_nil, Bool.true_and, Bool.or_true, Bool.not_true, true_and, Nat.reduceEqDiff, List.isEmpty_nil, wrap_in (x := (k : Int) + 1) (by omega) (by omega)]
      refine hK (k + 1) _ ⟨hlt', hi⟩ (by omega) ?_ rfl rfl
      simp only [slot_is, aev, cv, cvc, Weak, ↓reduceIte, Bool.and_true, Bool.and_self, and_true, and_self, reduceCtorEq, Nat.reduceEqDiff]
      simp
  have hk' : k = l.length := by omega
  subst hk'
  rw [List.drop_length, List.any_nil] at hi
  rw [if_neg (by simp [hi])]
  generalize sizeE fr = z at *
  obtain ⟨n, z⟩ := z
  simp only
  by_cases hz0 : z = 0
  case neg =>
    rw [if_pos hz0]
    have hz' : (z != 0) = true := by simpa using hz0
    simp only [awp_reg, awp_seq, awp_exit, seqQ_n, seqQ_e, loopQ_e, blkQ_e, awpOps_one, awpOp_is, isCallV, callW_is, callV_is, putK_is, put_s, slot_is, pureOp, apureO, aev, cv, cvc, Bool.false_eq_true, ↓reduceIte, List.map_cons, List.map_nil, List.append_nil, reduceCtorEq]
    refine call_meets (hz) (by simp only [aev, cv, cvc, toD_sl, consO_some, toDL_nil, toDL_cons, hz']) ?_; simp only [awp_reg, awp_seq, awp_cond, awp_ret, seqQ_n, seqQ_r, awpOps_nil, awpOps_one, awpOp_is, isCallV, putK_is, updK_is, put_s, upd_n, upd_s, slot_is, slot.eq_1, retA_is, pureOp, apureO, astepO, killT, aev, cv, cvc, binK, elO_s, loadA_p, storeA, cellsA, cellOk, setAll, fillA, placeT, placesA, condA_t, flat_c, flat_tup, flatL_nil, flatL_cons, ownsV_sl, ownsL_nil, ownsL_cons, toD_c, toD_nils, toD_tup, toD_agg, consO_some, toDL_nil, toDL_cons, notExit, resA_nil, resA_tmp, resA_cell, oneA_2, Bool.false_eq_true, ↓reduceIte, List.getElem?_cons_zero, List.getElem?_cons_succ, List.length_cons, List.length_nil, List.map_cons, List.map_nil, List.append_nil, List.set_cons_zero, List.set_cons_succ, Option.map_some, List.take_succ_cons, List.drop_zero, List.all_cons, List.all_nil, Bool.true_and, Bool.and_self, Bool.or_true, Value.oneCell', true_and, and_self, ne_eq, not_false_eq_true, reduceCtorEq, Nat.reduceAdd, Nat.reduceEqDiff, Nat.zero_add, List.isEmpty_nil, Nat.le_refl, List.take_nil, Ty.td9, Ty.td22, Ty.td24, hz']
  subst hz0
  rw [if_neg (by simp)]
  by_cases hn : (l.length : Int) = n
  case neg =>
    rw [if_pos hn]
    have hn' : ((l.length : Int) != n) = true := by simpa using hn
    simp only [awp_reg, awp_seq, awp_exit, seqQ_n, seqQ_e, loopQ_e, blkQ_e, awpOps_one, awpOp_is, isCallV, callW_is, callV_is, putK_is, put_s, slot_is, pureOp, apureO, aev, cv, cvc, Bool.false_eq_true, ↓reduceIte, List.map_cons, List.map_nil, List.append_nil, reduceCtorEq]
    refine call_meets (hz) (by simp only [aev, cv, cvc, toD_sl, consO_some, toDL_nil, toDL_cons, hn']) ?_; simp only [awp_skip, awp_reg, awp_seq, awp_cond, awp_ret, seqQ_n, seqQ_r, awpOps_nil, awpOps_one, awpOp_is, isCallV, putK_is, updK_is, put_s, upd_n, upd_s, slot_is, slot.eq_1, retA_is, pureOp, apureO, astepO, killT, aev, cv, cvc, binK, elO_s, lenA, lenK, loadA_p, storeA, cellsA, cellOk, setAll, fillA, placeT, placesA, condA_t, condA_f, flat_c, flat_tup, flatL_nil, flatL_cons, ownsV_sl, ownsL_nil, ownsL_cons, toD_c, toD_nils, toD_tup, toD_agg, consO_some, toDL_nil, toDL_cons, notExit, resA_nil, resA_tmp, resA_cell, oneA_2, Bool.false_eq_true, ↓reduceIte, List.getElem?_cons_zero, List.getElem?_cons_succ, List.length_cons, List.length_nil, List.map_cons, List.map_nil, List.append_nil, List.set_cons_zero, List.set_cons_succ, Option.map_some, List.take_succ_cons, List.drop_zero, List.all_cons, List.all_nil, Bool.and_true, Bool.true_and, Bool.and_self, Bool.or_true, Value.oneCell', true_and, and_true, and_self, ne_eq, not_false_eq_true, reduceCtorEq, Nat.reduceAdd, Nat.reduceEqDiff, Nat.zero_add, List.isEmpty_nil, Option.isSome_some, Nat.le_refl, List.take_nil, Ty.td9, Ty.td22, Ty.td24, Ty.td27, bne_self_eq_false, List.length_map, hn']
  have hn' : ((l.length : Int) != n) = false := by simpa using hn
  rw [if_neg (by simpa using hn)]
  subst hn
  simp only [awp_reg, awp_seq, awp_exit, seqQ_n, seqQ_e, loopQ_e, blkQ_e, awpOps_one, awpOp_is, isCallV, callW_is, callV_is, putK_is, put_s, slot_is, pureOp, apureO, aev, cv, cvc, Bool.false_eq_true, ↓reduceIte, List.map_cons, List.map_nil, List.append_nil, reduceCtorEq]
  refine call_meets (hz) (by simp only [aev, cv, cvc, toD_sl, consO_some, toDL_nil, toDL_cons]) ?_; simp only [awp_skip, awp_reg, awp_seq, awp_cond, awp_block, awp_loop, seqQ_n, awpOps_nil, awpOps_one, awpOp_is, putK_is, put_s, upd_s, slot_is, pureOp, apureO, killT, aev, cv, cvc, binK, elO_s, lenA, lenK, condA_f, flat_c, flat_tup, flatL_nil, flatL_cons, ownsV_sl, ownsL_nil, ownsL_cons, ↓reduceIte, List.getElem?_cons_zero, List.getElem?_cons_succ, List.append_nil, Bool.true_and, Bool.and_self, Bool.or_true, true_and, and_self, reduceCtorEq, Nat.reduceEqDiff, List.isEmpty_nil, Option.isSome_some, Ty.td27, bne_self_eq_false, List.length_map]
  refine loop_g (fun x : Nat × List Int => x.1 ≤ l.length ∧ joinD e ds l [] = joinD e ds (l.drop x.1) x.2 ∧ x.2.length + ((l.drop x.1).map fun a => a.2.2.length).sum ≤ 1000000 ∧ (x.1 = 0 → x.2 = [])) (fun x => ⟨99, [(12, I x.1), (9, I l.length), (11, rjV x.1 x.2.length), (0, ints fr), (1, arrs l), (5, .ptr 0 0), (6, .ptr 1 0)], rjH e ds xs x.1 x.2⟩) (fun x => l.length - x.1) (0, []) ⟨Nat.zero_le _, rfl, by simpa using hd, fun _ => rfl⟩ (by simp only [slot_is, aev, cv, cvc, Weak, ↓reduceIte, Bool.and_true, Bool.and_self, and_true, and_self, reduceCtorEq, Nat.reduceEqDiff, rjV] <;> simp) rfl (.inl rfl) ?_
  rintro ⟨k, acc⟩ ⟨hk, hi, hsum, h0⟩ K hK
  simp only at hk hi hsum h0 hK
  simp only [awp_reg, awp_seq, awp_cond, seqQ_n, awpOps_nil, awpOps_one, awpOp_is, putK_is, put_s, slot_is, pureOp, apureO, aev, cv, cvc, binK, ↓reduceIte, Bool.true_and, true_and, Nat.reduceEqDiff]
  refine condA_dec (fun hlt => ?_) (fun hge => ?_)
  · have hlt' : k < l.length := by omega
    have hx : l[k]? = some l[k] := List.getElem?_eq_getElem hlt'
    have hsm := hs l[k] (List.getElem_mem _)
    rw [List.drop_eq_getElem_cons hlt'] at hi hsum
    generalize l[k] = c at *
    obtain ⟨ce, cd, cx⟩ := c
    simp only [List.map_cons, List.sum_cons] at hsm hi hsum
    rw [joinD] at hi
    have hsl := sameInts cd ds hsm.1 (by omega)
    cases k with
    | zero =>
      obtain rfl := h0 rfl
      simp only [List.length_nil, Nat.zero_add] at hsum hi
      cases hce : ce.toList == e.toList
      · rw [hce, if_pos rfl] at hi
        simp only [awp_skip, awp_reg, awp_regD, awp_seq, awp_cond, awp_block, awp_ret, seqQ_n, seqQ_r, loopQ_r, blkQ_r, awpOps_nil, awpOps_one, awpOpsD_nil, awpOpsD_one, awpOp_is, isCallV, awpOpD_is, lastOnly_nil, lastOnly_cons, putK_is, updK_is, put_s, upd_n, slot_is, slot.eq_1, retA_is, keepOp, pureOp, apureO, astepO, killT, aev, cv, cvc, binK, elO_s, loadA_d, loadA_p, storeA, cellsA, cellOk, setAll, fillA, placeT, placesA, condA_t, toD_c, toD_nils, toD_tup, toD_agg, consO_some, toDL_nil, toDL_cons, notExit, resA_nil, resA_tmp, resA_cell, oneA_2, Int.natCast_nonneg, Bool.false_eq_true, ↓reduceIte, List.getElem?_cons_zero, List.getElem?_cons_succ, List.length_cons, List.length_nil, List.map_cons, List.map_nil, List.set_cons_zero, List.set_cons_succ, Option.map_some, List.take_succ_cons, List.drop_zero, List.all_cons, List.all_nil, Bool.true_and, Bool.and_self, Bool.not_false, Value.oneCell', true_and, and_self, ne_eq, not_false_eq_true, reduceCtorEq, Nat.reduceAdd, Nat.reduceEqDiff, Nat.zero_add, Int.toNat_natCast, Nat.le_refl, List.take_nil, Ty.td9, Ty.td22, Ty.td24, Ty.td27, rjV, rjH, List.getElem?_map, hx, hce]
        rw [hi]
        simp [joinR]
      rw [hce, if_neg (by simp)] at hi
      simp only [awp_skip, awp_regD, awp_seq, awp_cond, awp_block, seqQ_n, awpOpsD_nil, awpOpsD_one, isCallV, awpOpD_is, callWD_is, callVD_is, lastOnly_nil, lastOnly_cons, putK_is, put_s, slot_is, keepOp, pureOp, apureO, aev, cv, cvc, binK, elO_s, loadA_d, loadA_p, condA_f, Int.natCast_nonneg, Bool.false_eq_true, ↓reduceIte, List.getElem?_cons_zero, List.getElem?_cons_succ, List.length_cons, List.length_nil, List.map_cons, List.map_nil, List.append_nil, Option.map_some, List.drop_succ_cons, List.drop_zero, Bool.true_and, Bool.not_true, true_and, ne_eq, not_false_eq_true, reduceCtorEq, Nat.reduceAdd, Nat.reduceEqDiff, Nat.zero_add, Int.toNat_natCast, Ty.td9, Ty.td22, Ty.td24, Ty.td27, rjV, rjH, List.getElem?_map, hx, hce]
      cases hcd : cd == ds
      · rw [hcd] at hsl
        rw [hcd, if_pos rfl] at hi
        refine calld_meets (hsl) (by simp only [aev, cv, cvc, toD_sl, consO_some, toDL_nil, toDL_cons]) (by simp only [aev, cv, cvc, flat_c, ownsV_sl, ownsL_nil, ownsL_cons, List.append_nil, Bool.or_true, List.isEmpty_nil]) ?_; simp only [awp_reg, awp_seq, awp_cond, awp_ret, seqQ_n, seqQ_r, loopQ_r, blkQ_r, awpOps_nil, awpOps_one, awpOpsD_nil, awpOpsD_one, awpOp_is, isCallV, awpOpD_is, putK_is, updK_is, put_s, upd_n, slot_is, slot.eq_1, retA_is, keepOp, pureOp, apureO, astepO, killT, aev, cv, cvc, elO_s, loadA_p, storeA, cellsA, cellOk, setAll, fillA, placeT, placesA, condA_t, toD_c, toD_nils, toD_tup, toD_agg, consO_some, toDL_nil, toDL_cons, notExit, resA_nil, resA_tmp, resA_cell, oneA_2, Bool.false_eq_true, ↓reduceIte, List.getElem?_cons_zero, List.getElem?_cons_succ, List.length_cons, List.length_nil, List.map_cons, List.map_nil, List.set_cons_zero, List.set_cons_succ, Option.map_some, List.take_succ_cons, List.drop_zero, List.all_cons, List.all_nil, Bool.true_and, Bool.and_self, Bool.not_false, Value.oneCell', true_and, and_self, ne_eq, not_false_eq_true, reduceCtorEq, Nat.reduceAdd, Nat.reduceEqDiff, Nat.zero_add, Nat.le_refl, List.take_nil, Ty.td9, Ty.td22, Ty.td24]
        rw [hi]
        simp [joinR]
      rw [hcd] at hsl
      rw [hcd, if_neg (by simp)] at hi
      refine calld_meets (hsl) (by simp only [aev, cv, cvc, toD_sl, consO_some, toDL_nil, toDL_cons, hx, wrap_in (x := ((0 : Nat) : Int) + 1) (by omega) (by omega)]) (by simp only [aev, cv, cvc, flat_c, ownsV_sl, ownsL_nil, ownsL_cons, List.append_nil, Bool.or_true, List.isEmpty_nil, hx, wrap_in (x := ((0 : Nat) : Int) + 1) (by omega) (by omega)]) ?_; simp only [awp_skip, awp_reg, awp_cond, seqQ_n, loopQ_n, blkQ_n, awpOps_nil, awpOps_one, awpOpsD_nil, awpOpsD_one, awpOp_is, isCallV, awpOpD_is, putK_is, updK_is, put_s, upd_s, slot_is, keepOp, pureOp, apureO, astepO, appA_sl, appV, killT, aev, cv, cvc, binK, elO_s, loadA_d, condA_f, elemsA, elemsN, Int.natCast_nonneg, Bool.false_eq_true, ↓reduceIte, List.getElem?_cons_zero, List.getElem?_cons_succ, List.length_cons, List.length_nil, List.cons_append, List.nil_append, Option.map_some, List.drop_succ_cons, List.drop_zero, Bool.true_and, Bool.not_true, true_and, ne_eq, not_false_eq_true, reduceCtorEq, Nat.reduceAdd, Nat.reduceLT, Nat.reduceEqDiff, Nat.zero_add, Int.toNat_natCast, Ty.td3, Ty.td22, Ty.td24, Ty.td27, List.getElem?_map, hx, List.length_map, wrap_in (x := ((0 : Nat) : Int) + 1) (by omega) (by omega)]
      refine ⟨by omega, by omega, ?_⟩
      refine hK (0 + 1, [] ++ cx) _ ⟨hlt', hi, by simp only [List.length_append, List.length_nil, Nat.zero_add]; omega, fun h => by cases h⟩ (by simp only; omega) ?_ rfl (.weak (by simp [rjH]) (by simp [WeakH, rjH]) rfl rfl)
      simp only [slot_is, aev, cv, cvc, Weak, ↓reduceIte, List.nil_append, Bool.and_true, Bool.and_self, and_true, and_self, reduceCtorEq, Nat.reduceEqDiff, Nat.zero_add, rjV]
      simp
    | succ k =>
      have hbt : List.take acc.length (List.map enc acc) = List.map enc acc := List.take_of_length_le (by simp)
      cases hce : ce.toList == e.toList
      · rw [hce, if_pos rfl] at hi
        simp only [awp_skip, awp_reg, awp_regD, awp_seq, awp_cond, awp_block, awp_ret, seqQ_n, seqQ_r, loopQ_r, blkQ_r, awpOps_nil, awpOps_one, awpOpsD_nil, awpOpsD_one, awpOp_is, isCallV, awpOpD_is, lastOnly_nil, lastOnly_cons, putK_is, updK_is, put_s, upd_n, slot_is, slot.eq_1, retA_is, keepOp, pureOp, apureO, astepO, killT, aev, cv, cvc, binK, elO_s, loadA_d, loadA_p, storeA, cellsA, cellOk, setAll, fillA, placeT, placesA, condA_t, toD_c, toD_nils, toD_tup, toD_agg, consO_some, toDL_nil, toDL_cons, notExit, resA_nil, resA_tmp, resA_cell, oneA_2, Int.natCast_nonneg, Bool.false_eq_true, ↓reduceIte, List.getElem?_cons_zero, List.getElem?_cons_succ, List.length_cons, List.length_nil, List.map_cons, List.map_nil, List.set_cons_zero, List.set_cons_succ, Option.map_some, List.take_succ_cons, List.drop_zero, List.all_cons, List.all_nil, Bool.true_and, Bool.and_self, Bool.not_false, Value.oneCell', true_and, and_self, ne_eq, not_false_eq_true, reduceCtorEq, Nat.reduceAdd, Nat.reduceEqDiff, Nat.zero_add, Int.toNat_natCast, Nat.le_refl, List.take_nil, Ty.td9, Ty.td22, Ty.td24, Ty.td27, rjV, rjH, List.getElem?_map, hx, hce]
        rw [hi]
        simp [joinR]
      rw [hce, if_neg (by simp)] at hi
      simp only [awp_skip, awp_regD, awp_seq, awp_cond, awp_block, seqQ_n, awpOpsD_nil, awpOpsD_one, isCallV, awpOpD_is, callWD_is, callVD_is, lastOnly_nil, lastOnly_cons, putK_is, put_s, slot_is, keepOp, pureOp, apureO, aev, cv, cvc, binK, elO_s, loadA_d, loadA_p, condA_f, Int.natCast_nonneg, Bool.false_eq_true, ↓reduceIte, List.getElem?_cons_zero, List.getElem?_cons_succ, List.length_cons, List.length_nil, List.map_cons, List.map_nil, List.append_nil, Option.map_some, List.drop_succ_cons, List.drop_zero, Bool.true_and, Bool.not_true, true_and, ne_eq, not_false_eq_true, reduceCtorEq, Nat.reduceAdd, Nat.reduceEqDiff, Nat.zero_add, Int.toNat_natCast, Ty.td9, Ty.td22, Ty.td24, Ty.td27, rjV, rjH, List.getElem?_map, hx, hce]
      cases hcd : cd == ds
      · rw [hcd] at hsl
        rw [hcd, if_pos rfl] at hi
        refine calld_meets (hsl) (by simp only [aev, cv, cvc, toD_sl, consO_some, toDL_nil, toDL_cons]) (by simp only [aev, cv, cvc, flat_c, ownsV_sl, ownsL_nil, ownsL_cons, List.append_nil, Bool.or_true, List.isEmpty_nil]) ?_; simp only [awp_reg, awp_seq, awp_cond, awp_ret, seqQ_n, seqQ_r, loopQ_r, blkQ_r, awpOps_nil, awpOps_one, awpOpsD_nil, awpOpsD_one, awpOp_is, isCallV, awpOpD_is, putK_is, updK_is, put_s, upd_n, slot_is, slot.eq_1, retA_is, keepOp, pureOp, apureO, astepO, killT, aev, cv, cvc, elO_s, loadA_p, storeA, cellsA, cellOk, setAll, fillA, placeT, placesA, condA_t, toD_c, toD_nils, toD_tup, toD_agg, consO_some, toDL_nil, toDL_cons, notExit, resA_nil, resA_tmp, resA_cell, oneA_2, Bool.false_eq_true, ↓reduceIte, List.getElem?_cons_zero, List.getElem?_cons_succ, List.length_cons, List.length_nil, List.map_cons, List.map_nil, List.set_cons_zero, List.set_cons_succ, Option.map_some, List.take_succ_cons, List.drop_zero, List.all_cons, List.all_nil, Bool.true_and, Bool.and_self, Bool.not_false, Value.oneCell', true_and, and_self, ne_eq, not_false_eq_true, reduceCtorEq, Nat.reduceAdd, Nat.reduceEqDiff, Nat.zero_add, Nat.le_refl, List.take_nil, Ty.td9, Ty.td22, Ty.td24]
        rw [hi]
        simp [joinR]
      rw [hcd] at hsl
      rw [hcd, if_neg (by simp)] at hi
      refine calld_meets (hsl) (by simp only [aev, cv, cvc, toD_sl, consO_some, toDL_nil, toDL_cons, hx, wrap_in (x := ((k + 1 : Nat) : Int) + 1) (by omega) (by omega), hbt]) (by simp only [aev, cv, cvc, flat_c, ownsV_sl, ownsL_nil, ownsL_cons, List.append_nil, Bool.or_true, List.isEmpty_nil, hx, wrap_in (x := ((k + 1 : Nat) : Int) + 1) (by omega) (by omega), hbt]) ?_; simp only [awp_skip, awp_reg, awp_cond, seqQ_n, loopQ_n, blkQ_n, awpOps_nil, awpOps_one, awpOpsD_nil, awpOpsD_one, awpOp_is, isCallV, awpOpD_is, putK_is, updK_is, put_s, upd_s, slot_is, keepOp, pureOp, apureO, astepO, appA_sl, appV, killT, killB, killH, aev, cv, cvc, binK, elO_s, loadA_d, condA_f, elemsA, elemsN, rowE, killV_c, killV_nils, killV_sl, killV_own, killV_dptr, killV_ptr, killL_nil, killL_cons, Int.natCast_nonneg, Bool.false_eq_true, ↓reduceIte, List.getElem?_cons_zero, List.getElem?_cons_succ, List.length_cons, List.length_nil, List.map_cons, List.map_nil, List.set_cons_zero, List.set_cons_succ, Option.map_some, List.drop_succ_cons, List.drop_zero, Bool.true_and, Bool.and_self, Bool.or_false, Bool.not_true, true_and, and_self, ne_eq, not_false_eq_true, reduceCtorEq, Nat.reduceLT, Nat.reduceEqDiff, Nat.zero_add, List.mem_cons, List.not_mem_nil, or_false, Int.toNat_natCast, Nat.le_refl, Ty.td3, Ty.td22, Ty.td24, Ty.td27, List.getElem?_map, hx, List.length_map, wrap_in (x := ((k + 1 : Nat) : Int) + 1) (by omega) (by omega), hbt]
      refine ⟨by omega, by omega, ?_⟩
      refine hK (k + 1 + 1, acc ++ cx) _ ⟨hlt', hi, by simp only [List.length_append, List.length_nil, Nat.zero_add]; omega, fun h => by cases h⟩ (by simp only; omega) ?_ rfl (.weak (by simp [rjH]) (by simp [WeakH, rjH]) rfl rfl)
      simp only [slot_is, aev, cv, cvc, Weak, ↓reduceIte, Bool.and_true, Bool.true_and, Bool.and_self, true_and, and_true, and_self, reduceCtorEq, Nat.reduceEqDiff, rjV]
      simp
  · have hk' : k = l.length := by omega
    subst hk'
    rw [List.drop_length, joinD] at hi
    rw [hi]
    have hof := refOf e (fr ++ ds) acc (by rw [List.length_append]; omega) (by omega)
    unfold joinR
    rw [if_neg (by simp)]
    simp only
    generalize sizeE (fr ++ ds) = z at *
    obtain ⟨m, z⟩ := z
    simp only
    obtain ⟨E, D, X, q, ho, _, _⟩ := ofE_ex e (fr ++ ds) acc (by rw [List.length_append]; omega) (by omega)
    rw [ho] at hof ⊢
    have hft : List.take fr.length (List.map enc fr) = List.map enc fr := List.take_of_length_le (by simp)
    have hfd : List.take (fr.length + ds.length) (List.map enc fr ++ List.map enc ds) = List.map enc (fr ++ ds) := by
      rw [List.take_of_length_le (by simp), List.map_append]
    cases l with
    | nil =>
      obtain rfl := h0 rfl
      have hof := Meets.nil (pre := [S e, ints (fr ++ ds)]) (post := []) hof
      simp only [awp_regD, awp_seq, awp_exit, seqQ_n, seqQ_e, loopQ_e, blkQ_e, lastOnly_cons, keepOp, aev, cv, cvc, Bool.false_eq_true, ↓reduceIte, List.length_nil, ne_eq, List.isEmpty_cons, rjV, rjH, List.length_nil]
      refine drawS_wild ?_; simp only [isCallV, slot_is, pureOp, apureO, killT, killB, aev, cv, cvc, killV_c, killV_nils, killV_sl, killL_nil, killL_cons, Bool.false_eq_true, ↓reduceIte, List.getElem?_cons_zero, List.getElem?_cons_succ, List.length_cons, List.length_nil, List.map_cons, List.map_nil, List.cons_append, List.nil_append, List.append_nil, List.drop_succ_cons, List.all_nil, Bool.true_and, Bool.and_self, Bool.false_or, true_and, and_self, reduceCtorEq, Nat.reduceAdd, Nat.reduceLT, Nat.reduceLeDiff, Nat.zero_add, List.not_mem_nil, false_or, List.range_succ, List.range_zero, decide_true, decide_false, List.zipIdx_cons, List.zipIdx_nil, Nat.le_refl, List.drop_nil, awpW_one, wRun_is, wOp_is, callXW_is, callXV_is, keepK_is, contW_is, nextW_s, confs_nil, opV_move, opV_call, tch_move, rd_move, rd_callv, namesV_sl, namesV_fn, namesL_nil, namesL_cons, namesH_nil, namesH_cons, namesB_none, killO_s, allLt_is, allIn_is, maskH_is, mergeH_is, setH_is, newL_is, refsT, refsH, refsV, refsL]
      refine callx_meetsO (hcp) (by simp only [aev, cv, cvc, toD_sl, consO_some, toDL_nil, toDL_cons, hft, hfd, ← List.map_append]) (by simp only [aev, cv, cvc, ownsV_sl, ownsL_nil, ownsL_cons, List.append_nil, List.isEmpty_nil, hft, hfd, ← List.map_append]) ?_; simp only [awp_reg, awp_seq, seqQ_n, awpOps_one, awpOp_is, isCallV, callW_is, callV_is, shV_own, shH_nil, shH_some, shB_row, putK_is, put_s, slot_is, pureOp, apureO, astepO, appA_sl, appV, killT, killB, killH, aev, cv, cvc, elO_s, loadA_p, elemsA, elemsN, rowE, killV_c, killV_nils, killV_sl, killV_own, killV_ptr, killL_nil, killL_cons, Bool.false_eq_true, ↓reduceIte, List.getElem?_cons_zero, List.getElem?_cons_succ, List.length_cons, List.length_nil, List.map_cons, List.map_nil, List.cons_append, List.nil_append, List.append_nil, List.set_cons_zero, List.set_cons_succ, Option.map_some, Option.map_none, List.drop_succ_cons, List.drop_zero, List.all_cons, List.all_nil, Bool.true_and, Bool.and_self, Bool.or_true, Bool.false_or, Bool.or_false, true_and, and_self, ne_eq, not_false_eq_true, reduceCtorEq, Nat.reduceAdd, Nat.reduceLT, Nat.reduceLeDiff, Nat.reduceEqDiff, Nat.zero_add, Nat.add_zero, List.mem_cons, List.not_mem_nil, or_false, false_or, List.range_succ, List.range_zero, decide_true, decide_false, List.zipIdx_cons, List.zipIdx_nil, Nat.le_refl, List.drop_nil, List.any_cons, List.any_nil, awpW_nil, awpW_one, wRun_is, wOp_is, keepK_is, stepK_is, contW_is, nextW_s, confs_nil, confs_cons, conf_is, meet_nil, meet_cons, opV_assign, opV_load, opV_fieldAddr, opV_call, opV_builtin, tch_assign, tch_load, tch_fieldAddr, tch_callv, tch_app, rd_assign, rd_load, rd_fieldAddr, rd_callv, rd_app, namesV_c, namesV_sl, namesV_ptr, namesV_own, namesV_agg, namesV_fn, namesL_nil, namesL_cons, namesH_nil, namesH_cons, namesB_var, namesB_row, namesB_none, killO_s, allLt_is, allIn_is, maskH_is, mergeH_is, setH_is, newL_is, Bool.or_self, Nat.reduceBEq, List.getElem?_nil, Ty.td3, Ty.td22, Ty.td24, List.length_map, hft, hfd, ← List.map_append]
      refine ⟨by omega, by omega, by kernel_rfl, ?_⟩
      have hfx : List.take (fr.length + ds.length) (List.map enc (fr ++ ds)) = List.map enc (fr ++ ds) := List.take_of_length_le (by simp)
      by_cases hz0 : z = 0
      case neg =>
        rw [if_pos hz0]
        have hz' : (z != 0) = true := by simpa using hz0
        refine call_meets (hz2) (by simp only [aev, cv, cvc, elemsA, toD_own, consO_some, toDL_nil, toDL_cons, ↓reduceIte, List.getElem?_cons_zero, List.getElem?_cons_succ, Option.map_some, Bool.and_self, and_self, Nat.le_refl, List.length_map, List.length_append, hfx, hz']) ?_; simp only [awp_reg, awp_seq, awp_cond, awp_ret, seqQ_n, seqQ_r, awpOps_nil, awpOps_one, awpOp_is, isCallV, putK_is, updK_is, put_s, upd_n, upd_s, slot_is, slot.eq_1, retA_is, pureOp, apureO, astepO, killT, aev, cv, cvc, binK, elO_s, loadA_p, storeA, cellsA, cellOk, setAll, fillA, placeT, placesA, condA_t, flat_c, flat_tup, flatL_nil, flatL_cons, ownsV_own, ownsL_nil, ownsL_cons, toD_c, toD_nils, toD_tup, toD_agg, consO_some, toDL_nil, toDL_cons, notExit, resA_nil, resA_tmp, resA_cell, oneA_2, Bool.false_eq_true, ↓reduceIte, List.getElem?_cons_zero, List.getElem?_cons_succ, List.length_cons, List.length_nil, List.map_cons, List.map_nil, List.append_nil, List.set_cons_zero, List.set_cons_succ, Option.map_some, List.take_succ_cons, List.drop_zero, List.all_cons, List.all_nil, Bool.true_and, Bool.and_self, Bool.or_false, Value.oneCell', true_and, and_self, ne_eq, not_false_eq_true, reduceCtorEq, Nat.reduceAdd, Nat.reduceEqDiff, Nat.zero_add, List.isEmpty_cons, or_false, Nat.le_refl, List.take_nil, Ty.td9, Ty.td22, Ty.td24, List.length_map, hfx, hz']
      subst hz0
      rw [if_neg (by simp)]
      refine call_meets (hz2) (by simp only [aev, cv, cvc, elemsA, toD_own, consO_some, toDL_nil, toDL_cons, ↓reduceIte, List.getElem?_cons_zero, List.getElem?_cons_succ, Option.map_some, Bool.and_self, and_self, Nat.le_refl, List.length_map, List.length_append, hfx]) ?_; simp only [awp_skip, awp_reg, awp_seq, awp_cond, seqQ_n, awpOps_nil, awpOps_one, awpOp_is, isCallV, callW_is, callV_is, putK_is, put_s, upd_s, slot_is, pureOp, apureO, killT, aev, cv, cvc, binK, elO_s, loadA_p, condA_f, flat_c, flat_tup, flatL_nil, flatL_cons, ownsV_own, ownsL_nil, ownsL_cons, Bool.false_eq_true, ↓reduceIte, List.getElem?_cons_zero, List.getElem?_cons_succ, List.length_cons, List.length_nil, List.map_cons, List.map_nil, List.append_nil, Bool.true_and, Bool.and_self, Bool.or_false, true_and, and_self, ne_eq, not_false_eq_true, reduceCtorEq, Nat.reduceAdd, Nat.reduceEqDiff, Nat.zero_add, List.isEmpty_cons, or_false, Ty.td9, Ty.td24, hfx, bne_self_eq_false]
      refine call_meets (hof) (by simp only [aev, cv, cvc, elemsA, toD_c, toD_nils, toD_own, consO_some, toDL_nil, toDL_cons, ↓reduceIte, List.getElem?_cons_zero, List.getElem?_cons_succ, List.cons_append, List.nil_append, Option.map_some, Bool.and_self, and_self, Nat.le_refl, List.length_map, List.length_append, hfx]) ?_; simp only [awp_ret, seqQ_n, awpOps_nil, awpOps_one, awpOp_is, isCallV, putK_is, updK_is, put_s, upd_n, upd_s, slot_is, retA_is, pureOp, apureO, astepO, killT, killB, killH, aev, cv, cvc, elO_s, loadA_p, storeA, cellsA, cellOk, setAll, elemsA, dropL, flat_c, flat_tup, flat_agg, flat_sl, flatL_nil, flatL_cons, ownsV_c, ownsV_nils, ownsV_own, ownsL_nil, ownsL_cons, toD_c, toD_tup, toD_agg, toD_sl, consO_some, toDL_nil, toDL_cons, killV_c, killV_nils, killV_junk, killV_tup, killV_sl, killV_own, killV_ptr, killL_nil, killL_cons, notExit, resA_nil, resA_tmp, resA_cell, oneA_2, Bool.false_eq_true, ↓reduceIte, List.getElem?_cons_zero, List.getElem?_cons_succ, List.length_cons, List.length_nil, List.map_cons, List.map_nil, List.nil_append, List.append_nil, List.set_cons_zero, List.set_cons_succ, Option.map_some, Option.map_none, List.take_succ_cons, List.drop_zero, Bool.and_true, Bool.true_and, Bool.and_false, Bool.and_self, Bool.or_false, true_and, and_true, and_self, reduceCtorEq, Nat.reduceAdd, Nat.reduceEqDiff, Nat.zero_add, List.isEmpty_cons, List.mem_cons, List.not_mem_nil, or_false, List.zipIdx_cons, List.zipIdx_nil, Nat.le_refl, List.take_nil, Ty.td24, List.length_map, List.length_append, hfx]
    | cons c l =>
      have hbt : List.take acc.length (List.map enc acc) = List.map enc acc := List.take_of_length_le (by simp)
      simp only [awp_regD, awp_seq, awp_exit, seqQ_n, seqQ_e, loopQ_e, blkQ_e, lastOnly_cons, keepOp, aev, cv, cvc, Bool.false_eq_true, ↓reduceIte, List.length_cons, ne_eq, List.isEmpty_cons, rjV, rjH, List.length_cons]
      refine drawS_wild ?_; simp only [isCallV, slot_is, pureOp, apureO, killT, killB, aev, cv, cvc, killV_c, killV_nils, killV_sl, killL_nil, killL_cons, Bool.false_eq_true, ↓reduceIte, List.getElem?_cons_zero, List.getElem?_cons_succ, List.length_cons, List.length_nil, List.map_cons, List.map_nil, List.cons_append, List.nil_append, List.append_nil, List.drop_succ_cons, List.all_nil, Bool.true_and, Bool.and_self, Bool.false_or, true_and, and_self, reduceCtorEq, Nat.reduceAdd, Nat.reduceLT, Nat.reduceLeDiff, Nat.zero_add, List.not_mem_nil, false_or, List.range_succ, List.range_zero, decide_true, decide_false, List.zipIdx_cons, List.zipIdx_nil, Nat.le_refl, List.drop_nil, awpW_one, wRun_is, wOp_is, callXW_is, callXV_is, keepK_is, contW_is, nextW_s, confs_nil, opV_move, opV_call, tch_move, rd_move, rd_callv, namesV_sl, namesV_fn, namesL_nil, namesL_cons, namesH_nil, namesH_cons, namesB_none, killO_s, allLt_is, allIn_is, maskH_is, mergeH_is, setH_is, newL_is, refsT, refsH, refsV, refsL]
      refine callx_meetsO (hcp) (by simp only [aev, cv, cvc, toD_sl, consO_some, toDL_nil, toDL_cons, hft, hfd, ← List.map_append]) (by simp only [aev, cv, cvc, ownsV_sl, ownsL_nil, ownsL_cons, List.append_nil, List.isEmpty_nil, hft, hfd, ← List.map_append]) ?_; simp only [awp_reg, awp_seq, seqQ_n, awpOps_one, awpOp_is, isCallV, callW_is, callV_is, shV_own, shH_nil, shH_some, shB_row, putK_is, put_s, slot_is, pureOp, apureO, astepO, appA_sl, appV, killT, killB, killH, aev, cv, cvc, elO_s, loadA_p, elemsA, elemsN, rowE, killV_c, killV_nils, killV_sl, killV_own, killV_ptr, killL_nil, killL_cons, Bool.false_eq_true, ↓reduceIte, List.getElem?_cons_zero, List.getElem?_cons_succ, List.length_cons, List.length_nil, List.map_cons, List.map_nil, List.cons_append, List.nil_append, List.append_nil, List.set_cons_zero, List.set_cons_succ, Option.map_some, Option.map_none, List.drop_succ_cons, List.drop_zero, List.all_cons, List.all_nil, Bool.true_and, Bool.and_self, Bool.or_true, Bool.false_or, Bool.or_false, true_and, and_self, ne_eq, not_false_eq_true, reduceCtorEq, Nat.reduceAdd, Nat.reduceLT, Nat.reduceLeDiff, Nat.reduceEqDiff, Nat.zero_add, Nat.add_zero, List.mem_cons, List.not_mem_nil, or_false, false_or, List.range_succ, List.range_zero, decide_true, decide_false, List.zipIdx_cons, List.zipIdx_nil, Nat.le_refl, List.drop_nil, List.any_cons, List.any_nil, awpW_nil, awpW_one, wRun_is, wOp_is, keepK_is, stepK_is, contW_is, nextW_s, confs_nil, confs_cons, conf_is, meet_nil, meet_cons, opV_assign, opV_load, opV_fieldAddr, opV_call, opV_builtin, tch_assign, tch_load, tch_fieldAddr, tch_callv, tch_app, rd_assign, rd_load, rd_fieldAddr, rd_callv, rd_app, namesV_c, namesV_sl, namesV_ptr, namesV_own, namesV_agg, namesV_fn, namesL_nil, namesL_cons, namesH_nil, namesH_cons, namesB_var, namesB_row, namesB_none, killO_s, allLt_is, allIn_is, maskH_is, mergeH_is, setH_is, newL_is, Bool.or_self, Nat.reduceBEq, List.getElem?_nil, Ty.td3, Ty.td22, Ty.td24, List.length_map, hft, hfd, ← List.map_append]
      refine ⟨by omega, by omega, by kernel_rfl, ?_⟩
      have hfx : List.take (fr.length + ds.length) (List.map enc (fr ++ ds)) = List.map enc (fr ++ ds) := List.take_of_length_le (by simp)
      by_cases hz0 : z = 0
      case neg =>
        rw [if_pos hz0]
        have hz' : (z != 0) = true := by simpa using hz0
        refine call_meets (hz2) (by simp only [aev, cv, cvc, elemsA, toD_own, consO_some, toDL_nil, toDL_cons, ↓reduceIte, List.getElem?_cons_zero, List.getElem?_cons_succ, Option.map_some, Bool.and_self, and_self, Nat.le_refl, List.length_map, List.length_append, hfx, hz']) ?_; simp only [awp_reg, awp_seq, awp_cond, awp_ret, seqQ_n, seqQ_r, awpOps_nil, awpOps_one, awpOp_is, isCallV, putK_is, updK_is, put_s, upd_n, upd_s, slot_is, slot.eq_1, retA_is, pureOp, apureO, astepO, killT, aev, cv, cvc, binK, elO_s, loadA_p, storeA, cellsA, cellOk, setAll, fillA, placeT, placesA, condA_t, flat_c, flat_tup, flatL_nil, flatL_cons, ownsV_own, ownsL_nil, ownsL_cons, toD_c, toD_nils, toD_tup, toD_agg, consO_some, toDL_nil, toDL_cons, notExit, resA_nil, resA_tmp, resA_cell, oneA_2, Bool.false_eq_true, ↓reduceIte, List.getElem?_cons_zero, List.getElem?_cons_succ, List.length_cons, List.length_nil, List.map_cons, List.map_nil, List.append_nil, List.set_cons_zero, List.set_cons_succ, Option.map_some, List.take_succ_cons, List.drop_zero, List.all_cons, List.all_nil, Bool.true_and, Bool.and_self, Bool.or_false, Value.oneCell', true_and, and_self, ne_eq, not_false_eq_true, reduceCtorEq, Nat.reduceAdd, Nat.reduceEqDiff, Nat.zero_add, List.isEmpty_cons, or_false, Nat.le_refl, List.take_nil, Ty.td9, Ty.td22, Ty.td24, List.length_map, hfx, hz']
      subst hz0
      rw [if_neg (by simp)]
      refine call_meets (hz2) (by simp only [aev, cv, cvc, elemsA, toD_own, consO_some, toDL_nil, toDL_cons, ↓reduceIte, List.getElem?_cons_zero, List.getElem?_cons_succ, Option.map_some, Bool.and_self, and_self, Nat.le_refl, List.length_map, List.length_append, hfx]) ?_; simp only [awp_skip, awp_reg, awp_seq, awp_cond, seqQ_n, awpOps_nil, awpOps_one, awpOp_is, isCallV, callW_is, callV_is, putK_is, put_s, upd_s, slot_is, pureOp, apureO, killT, aev, cv, cvc, binK, elO_s, loadA_p, condA_f, flat_c, flat_tup, flatL_nil, flatL_cons, ownsV_own, ownsL_nil, ownsL_cons, Bool.false_eq_true, ↓reduceIte, List.getElem?_cons_zero, List.getElem?_cons_succ, List.length_cons, List.length_nil, List.map_cons, List.map_nil, List.append_nil, Bool.true_and, Bool.and_self, Bool.or_false, true_and, and_self, ne_eq, not_false_eq_true, reduceCtorEq, Nat.reduceAdd, Nat.reduceEqDiff, Nat.zero_add, List.isEmpty_cons, or_false, Ty.td9, Ty.td24, hfx, bne_self_eq_false]
      refine call_meets (hof) (by simp only [aev, cv, cvc, elemsA, toD_c, toD_own, consO_some, toDL_nil, toDL_cons, ↓reduceIte, List.getElem?_cons_zero, List.getElem?_cons_succ, Option.map_some, Bool.and_self, and_self, Nat.le_refl, List.length_map, List.length_append, hfx, hbt]) ?_; simp only [awp_ret, seqQ_n, awpOps_nil, awpOps_one, awpOp_is, isCallV, putK_is, updK_is, put_s, upd_n, upd_s, slot_is, retA_is, pureOp, apureO, astepO, killT, killB, killH, aev, cv, cvc, elO_s, loadA_p, storeA, cellsA, cellOk, setAll, elemsA, dropL, flat_c, flat_tup, flat_agg, flat_sl, flatL_nil, flatL_cons, ownsV_c, ownsV_own, ownsL_nil, ownsL_cons, toD_c, toD_tup, toD_agg, toD_sl, consO_some, toDL_nil, toDL_cons, killV_c, killV_nils, killV_junk, killV_tup, killV_sl, killV_own, killV_ptr, killL_nil, killL_cons, notExit, resA_nil, resA_tmp, resA_cell, oneA_2, Bool.false_eq_true, ↓reduceIte, List.getElem?_cons_zero, List.getElem?_cons_succ, List.length_cons, List.length_nil, List.map_cons, List.map_nil, List.cons_append, List.nil_append, List.append_nil, List.set_cons_zero, List.set_cons_succ, Option.map_some, Option.map_none, List.take_succ_cons, List.drop_zero, Bool.and_true, Bool.true_and, Bool.and_false, Bool.and_self, Bool.false_or, Bool.or_false, true_and, and_true, and_self, reduceCtorEq, Nat.reduceAdd, Nat.reduceEqDiff, Nat.zero_add, List.isEmpty_cons, List.mem_cons, List.not_mem_nil, or_false, false_or, List.zipIdx_cons, List.zipIdx_nil, Nat.le_refl, List.take_nil, Ty.td24, List.length_map, List.length_append, hfx, hbt]

theorem fewAll_ex {l : List Ar} {N : Int} (h : ∀ a ∈ l, fewE a.1 a.2.1 a.2.2 N = true) : ∀ a ∈ l, a.2.1.length ≤ 8 ∧ (a.2.2.length : Int) ≤ N := fun a ha => by
  have := h a ha
  simp only [fewE, Bool.and_eq_true, decide_eq_true_eq] at this
  omega
theorem sum_le {N : Nat} : ∀ (l : List Ar), (∀ a ∈ l, a.2.2.length ≤ N) → (l.map fun a => a.2.2.length).sum ≤ l.length * N
  | [], _ => by simp
  | a :: l, h => by
    have h1 := h a (by simp)
    have h2 := sum_le l fun b hb => h b (by simp [hb])
    simp only [List.map_cons, List.sum_cons, List.length_cons, Nat.add_mul, Nat.one_mul]
    omega

theorem joinE_ex (fr : List Int) (l : List Ar) (s : Ar) (hf : fr.length ≤ 500000) (hs1 : s.2.1.length ≤ 500000) (hsum : (l.map fun a => a.2.2.length).sum ≤ 1000000) : ∃ E D X k, joinE fr l s = .tup [arr E D X, I k] ∧ D.length ≤ 1000000 ∧ X.length ≤ 1000000 := by
  have hz : ∀ k, ∃ E D X q, zeroK k = .tup [arr E D X, I q] ∧ D.length ≤ 1000000 ∧ X.length ≤ 1000000 := fun k => ⟨⟨#[]⟩, [], [], k, rfl, by simp, by simp⟩
  have hl : ∀ (l : List Ar) (acc : List Int), (joinD s.1 s.2.1 l acc).1.length ≤ acc.length + (l.map fun a => a.2.2.length).sum := fun l => by
    induction l with
    | nil => intro acc; simp [joinD]
    | cons c l ih =>
      intro acc
      rw [joinD]
      split
      · simp
      split
      · simp
      · have := ih (acc ++ c.2.2)
        simp only [List.map_cons, List.sum_cons, List.length_append] at this ⊢
        omega
  unfold joinE
  split
  · exact hz _
  split
  · exact hz _
  split
  · exact hz _
  split
  · exact hz _
  split
  · exact hz _
  · exact ofE_ex _ _ _ (by rw [List.length_append]; omega) (by have := hl l []; simp at this; omega)

open Go.Proofs.Ytoobaeebgnbpjaa.B12 in
theorem law (fr : List Int) (l : List Ar) (s : Ar) (hfm : fr.length ≤ maxLen) (hlm : l.length ≤ maxLen) : Meets Try.prog 6 [ints fr, arrs l, arrV s] (B true) := by
  obtain ⟨e, ds, xs⟩ := s
  have hfm' : fr.length ≤ 9223372036854775807 := Nat.le_trans hfm (by unfold maxLen; omega)
  have hlm' : l.length ≤ 9223372036854775807 := Nat.le_trans hlm (by unfold maxLen; omega)
  have ha := B4.awake
  have hfs := few e ds xs 100
  refine meets_of Ty.mixed Try.func6 (by kernel_rfl) rfl (by kernel_rfl) (by simp) ?_; rw [Try.ntmps6, Try.results6]
  simp only [awp_reg, awp_seq, seqQ_n, awpOps_nil, awpOps_one, awpOp_is, isCallV, callW_is, callV_is, putK_is, updK_is, put_s, upd_s, slot_is, pureOp, apureO, astepO, killT, aev, cv, cvc, cellsA, cellOk, argT, Bool.false_eq_true, ↓reduceIte, List.length_nil, List.map_nil, List.nil_append, List.append_nil, Bool.true_and, true_and, reduceCtorEq, Nat.reduceAdd, Nat.reduceEqDiff, Nat.zero_add]
  by_cases h1 : (8 : Int) < fr.length
  · refine call_meets (ha) (by simp only [aev, cv, cvc, toDL_nil, h1]) ?_; simp only [awp_skip, awp_reg, awp_seq, awp_cond, awp_ret, seqQ_n, seqQ_r, awpOps_nil, awpOps_one, awpOps_if, awpOp_is, putK_is, put_s, upd_s, slot_is, retA_is, pureOp, apureO, killT, aev, cv, cvc, binK, elO_s, lenA, lenK, yieldA, guardA_ft, condA_t, condA_f, pickA_t, flat_c, ownsL_nil, toD_c, notExit, resA_nil, resA_tmp, oneA_1, ↓reduceIte, List.getElem?_cons_zero, List.getElem?_cons_succ, List.getElem?_toArray, Option.bind_some, Bool.and_true, Bool.true_and, Bool.and_self, Bool.or_true, Bool.not_true, true_and, and_true, and_self, reduceCtorEq, Nat.reduceEqDiff, List.isEmpty_nil, Option.isSome_some, decide_true, Ty.td22, List.length_map, h1]
  by_cases h2 : (100 : Int) < l.length
  · refine call_meets (ha) (by simp only [aev, cv, cvc, toDL_nil, h1, h2]) ?_; simp only [awp_skip, awp_reg, awp_seq, awp_cond, awp_ret, seqQ_n, seqQ_r, awpOps_nil, awpOps_one, awpOps_if, awpOp_is, awpO_is, putK_is, put_s, upd_s, slot_is, retA_is, pureOp, apureO, killT, aev, cv, cvc, binK, elO_s, lenA, lenK, yieldA, guardA_ft, guardA_ff, condA_t, condA_f, pickA_t, pickA_f, flat_c, ownsL_nil, toD_c, notExit, resA_nil, resA_tmp, oneA_1, ↓reduceIte, List.getElem?_cons_zero, List.getElem?_cons_succ, List.getElem?_toArray, Option.bind_some, Bool.and_true, Bool.true_and, Bool.and_self, Bool.or_true, Bool.not_true, true_and, and_true, and_self, reduceCtorEq, Nat.reduceEqDiff, List.isEmpty_nil, Option.isSome_some, decide_true, decide_false, Ty.td22, Ty.td27, List.length_map, h1, h2]
  cases hfw : fewE e ds xs 100 with
  | false =>
    rw [hfw] at hfs
    refine call_meets (ha) (by simp only [aev, cv, cvc, toDL_nil, h1, h2]) ?_; simp only [awp_skip, awp_reg, awp_seq, awp_cond, seqQ_n, awpOps_nil, awpOps_one, awpOps_if, awpOp_is, isCallV, callW_is, callV_is, awpO_is, putK_is, put_s, upd_s, slot_is, pureOp, apureO, killT, aev, cv, cvc, binK, elO_s, lenA, lenK, loadA_p, yieldA, guardA_ff, condA_f, pickA_f, flat_c, ownsL_nil, Bool.false_eq_true, ↓reduceIte, List.getElem?_cons_zero, List.getElem?_cons_succ, List.length_cons, List.length_nil, List.map_cons, List.map_nil, List.append_nil, List.getElem?_toArray, Option.bind_some, List.take_succ_cons, List.drop_zero, Bool.true_and, Bool.or_true, Bool.not_true, true_and, reduceCtorEq, Nat.reduceAdd, Nat.reduceEqDiff, Nat.zero_add, List.isEmpty_nil, Option.isSome_some, decide_false, Nat.le_refl, List.take_nil, Ty.td22, Ty.td24, Ty.td27, List.length_map, h1, h2]
    refine call_meets (hfs) (by simp only [aev, cv, cvc, toD_c, toD_agg, toD_sl, consO_some, toDL_nil, toDL_cons, Option.map_some]) ?_; simp only [awp_reg, awp_seq, awp_cond, awp_ret, seqQ_n, seqQ_r, awpOps_nil, awpOps_one, awpOps_if, awpOp_is, awpO_is, putK_is, put_s, upd_s, slot_is, retA_is, pureOp, apureO, killT, aev, cv, cvc, yieldA, guardA_ff, condA_t, pickA_f, flat_c, ownsV_c, ownsV_agg, ownsV_sl, ownsL_nil, ownsL_cons, toD_c, notExit, resA_nil, resA_tmp, oneA_1, ↓reduceIte, List.getElem?_cons_zero, List.getElem?_cons_succ, List.append_nil, List.getElem?_toArray, Option.bind_some, Bool.and_self, Bool.or_true, Bool.not_false, and_self, Nat.reduceEqDiff, List.isEmpty_nil]
  | true =>
  rw [hfw] at hfs
  obtain ⟨hd, hx⟩ : ds.length ≤ 8 ∧ xs.length ≤ 100 := by
    simp only [fewE, Bool.and_eq_true, decide_eq_true_eq] at hfw
    omega
  refine call_meets (ha) (by simp only [aev, cv, cvc, toDL_nil, h1, h2]) ?_; simp only [awp_skip, awp_reg, awp_seq, awp_cond, seqQ_n, awpOps_nil, awpOps_one, awpOps_if, awpOp_is, isCallV, callW_is, callV_is, awpO_is, putK_is, put_s, upd_s, slot_is, pureOp, apureO, killT, aev, cv, cvc, binK, elO_s, lenA, lenK, loadA_p, yieldA, guardA_ff, condA_f, pickA_f, flat_c, ownsL_nil, Bool.false_eq_true, ↓reduceIte, List.getElem?_cons_zero, List.getElem?_cons_succ, List.length_cons, List.length_nil, List.map_cons, List.map_nil, List.append_nil, List.getElem?_toArray, Option.bind_some, List.take_succ_cons, List.drop_zero, Bool.true_and, Bool.or_true, Bool.not_true, true_and, reduceCtorEq, Nat.reduceAdd, Nat.reduceEqDiff, Nat.zero_add, List.isEmpty_nil, Option.isSome_some, decide_false, Nat.le_refl, List.take_nil, Ty.td22, Ty.td24, Ty.td27, List.length_map, h1, h2]
  refine call_meets (hfs) (by simp only [aev, cv, cvc, toD_c, toD_agg, toD_sl, consO_some, toDL_nil, toDL_cons, Option.map_some]) ?_; simp only [awp_skip, awp_reg, awp_seq, awp_cond, awp_block, awp_loop, seqQ_n, awpOps_nil, awpOps_one, awpOps_if, awpOp_is, awpO_is, putK_is, put_s, upd_s, slot_is, pureOp, apureO, killT, aev, cv, cvc, elO_s, lenA, lenK, yieldA, guardA_ff, condA_f, pickA_f, flat_c, ownsV_c, ownsV_agg, ownsV_sl, ownsL_nil, ownsL_cons, ↓reduceIte, List.getElem?_cons_zero, List.getElem?_cons_succ, List.append_nil, List.getElem?_toArray, Option.bind_some, Bool.true_and, Bool.or_true, Bool.not_true, true_and, reduceCtorEq, Nat.reduceEqDiff, List.isEmpty_nil, Option.isSome_some, Ty.td27, List.length_map]
  refine loop_g (fun k : Nat => k ≤ l.length ∧ ∀ (i : Nat) a, i < k → l[i]? = some a → fewE a.1 a.2.1 a.2.2 20 = true) (fun k => ⟨117, [(37, I k), (36, I l.length), (35, arrs l), (0, ints fr), (1, arrs l), (5, .ptr 0 0)], [some (.var 24 [S e, ints ds, ints xs])]⟩) (fun k => l.length - k) 0 ⟨Nat.zero_le _, fun i a h => by omega⟩ (by simp only [slot_is, aev, cv, cvc, Weak, ↓reduceIte, Bool.and_true, Bool.and_self, and_true, and_self, reduceCtorEq, Nat.reduceEqDiff]; simp) rfl (.inl rfl) ?_
  rintro k ⟨hk, hi⟩ K hK
  simp only at hK
  simp only [awp_reg, awp_seq, awp_cond, seqQ_n, awpOps_nil, awpOps_one, awpOp_is, putK_is, put_s, slot_is, pureOp, apureO, aev, cv, cvc, binK, ↓reduceIte, Bool.true_and, true_and, Nat.reduceEqDiff]
  refine condA_dec (fun hlt => ?_) (fun hge => ?_)
  · have hlt' : k < l.length := by omega
    have hx : l[k]? = some l[k] := List.getElem?_eq_getElem hlt'
    have hnext : fewE l[k].1 l[k].2.1 l[k].2.2 20 = true → ∀ (i : Nat) a, i < k + 1 → l[i]? = some a → fewE a.1 a.2.1 a.2.2 20 = true := fun h i a h1 h2 => by
      rcases Nat.lt_or_ge i k with h3 | h3
      · exact hi i a h3 h2
      · obtain rfl : i = k := by omega
        rw [hx] at h2
        cases h2
        exact h
    generalize l[k] = c at *
    obtain ⟨ce, cd, cx⟩ := c
    have hfc := few ce cd cx 20
    simp only at hnext
    cases hcf : fewE ce cd cx 20 with
    | false =>
      rw [hcf] at hfc
      simp only [awp_skip, awp_reg, awp_seq, awp_block, seqQ_n, awpOps_nil, awpOps_one, awpOp_is, isCallV, callW_is, callV_is, putK_is, updK_is, put_s, upd_n, upd_s, slot_is, pureOp, apureO, astepO, killT, aev, cv, cvc, elO_s, loadA_d, loadA_p, storeA, cellsA, cellOk, setAll, Int.natCast_nonneg, Bool.false_eq_true, ↓reduceIte, List.getElem?_cons_zero, List.getElem?_cons_succ, List.length_cons, List.length_nil, List.map_cons, List.map_nil, List.cons_append, List.nil_append, List.append_nil, List.set_cons_zero, List.set_cons_succ, Option.map_some, List.take_succ_cons, List.drop_zero, List.all_cons, List.all_nil, Bool.true_and, Bool.and_self, Value.oneCell', true_and, and_self, Nat.reduceAdd, Nat.reduceEqDiff, Nat.zero_add, Int.toNat_natCast, Nat.le_refl, List.take_nil, Ty.td24, Ty.td27, List.getElem?_map, hx]
      refine call_meets (hfc) (by simp only [aev, cv, cvc, toD_c, toD_agg, toD_sl, consO_some, toDL_nil, toDL_cons, Option.map_some]) ?_; simp only [awp_reg, awp_seq, awp_cond, awp_ret, seqQ_n, seqQ_r, loopQ_r, blkQ_r, awpOps_nil, awpOps_one, awpOp_is, putK_is, put_s, upd_s, slot_is, retA_is, pureOp, apureO, killT, aev, cv, cvc, condA_t, flat_c, ownsV_c, ownsV_agg, ownsV_sl, ownsL_nil, ownsL_cons, toD_c, notExit, resA_nil, resA_tmp, oneA_1, ↓reduceIte, List.append_nil, Bool.and_self, Bool.or_true, Bool.not_false, and_self, List.isEmpty_nil]
    | true =>
      rw [hcf] at hfc
      simp only [awp_skip, awp_reg, awp_seq, awp_block, seqQ_n, awpOps_nil, awpOps_one, awpOp_is, isCallV, callW_is, callV_is, putK_is, updK_is, put_s, upd_n, upd_s, slot_is, pureOp, apureO, astepO, killT, aev, cv, cvc, elO_s, loadA_d, loadA_p, storeA, cellsA, cellOk, setAll, Int.natCast_nonneg, Bool.false_eq_true, ↓reduceIte, List.getElem?_cons_zero, List.getElem?_cons_succ, List.length_cons, List.length_nil, List.map_cons, List.map_nil, List.cons_append, List.nil_append, List.append_nil, List.set_cons_zero, List.set_cons_succ, Option.map_some, List.take_succ_cons, List.drop_zero, List.all_cons, List.all_nil, Bool.true_and, Bool.and_self, Value.oneCell', true_and, and_self, Nat.reduceAdd, Nat.reduceEqDiff, Nat.zero_add, Int.toNat_natCast, Nat.le_refl, List.take_nil, Ty.td24, Ty.td27, List.getElem?_map, hx]
      refine call_meets (hfc) (by simp only [aev, cv, cvc, toD_c, toD_agg, toD_sl, consO_some, toDL_nil, toDL_cons, Option.map_some, wrap_in (x := (k : Int) + 1) (by omega) (by omega)]) ?_; simp only [awp_skip, awp_reg, awp_cond, seqQ_n, loopQ_n, blkQ_n, awpOps_nil, awpOps_one, awpOp_is, putK_is, put_s, upd_s, slot_is, pureOp, apureO, killT, aev, cv, cvc, binK, condA_f, flat_c, ownsV_c, ownsV_agg, ownsV_sl, ownsL_nil, ownsL_cons, ↓reduceIte, List.append_nil, Bool.true_and, Bool.or_true, Bool.not_true, true_and, Nat.reduceEqDiff, List.isEmpty_nil, wrap_in (x := (k : Int) + 1) (by omega) (by omega)]
      refine hK (k + 1) _ ⟨hlt', hnext hcf⟩ (by omega) ?_ rfl (.weak (by simp) (by simp [WeakH]) rfl rfl)
      simp only [slot_is, aev, cv, cvc, Weak, ↓reduceIte, Bool.and_true, Bool.and_self, and_true, and_self, reduceCtorEq, Nat.reduceEqDiff]
      simp
  have hk' : k = l.length := by omega
  have hall : ∀ a ∈ l, a.2.1.length ≤ 8 ∧ a.2.2.length ≤ 20 := fun a ha => by
    obtain ⟨i, h, rfl⟩ := List.getElem_of_mem ha
    have := hi i l[i] (by omega) (List.getElem?_eq_getElem h)
    simp only [fewE, Bool.and_eq_true, decide_eq_true_eq] at this
    omega
  have hsum := sum_le (N := 20) l fun a ha => (hall a ha).2
  have hz := refSize fr (by omega)
  have hj := join fr l (e, ds, xs) (by omega) (by omega) (fun a ha => ⟨by have := hall a ha; omega, by have := hall a ha; omega⟩) (by simp only; omega) (by simp only; omega) (by omega)
  have hrj := refJoin fr l (e, ds, xs) (by omega) (by omega) (fun a ha => ⟨by have := hall a ha; omega, by have := hall a ha; omega⟩) (by simp only; omega) (by simp only; omega) (by omega)
  obtain ⟨E, D, X, q, ho, hD, hX⟩ := joinE_ex fr l (e, ds, xs) (by omega) (by simp only; omega) (by omega)
  rw [ho] at hj hrj
  have hp := indicesP fr (by omega)
  have hrp := refIndices fr (by omega)
  have heq := refEqual E D X E D X hD hX hD hX
  rw [show eqA E D X E D X = true by simp [eqA]] at heq
  have hlen : (indicesE fr).1.length ≤ 4096 ∧ ∀ a ∈ (indicesE fr).1, a.length ≤ 8 := by
    unfold indicesE
    split
    · simp
    · have := sizeE_bound fr
      refine ⟨by rw [firstI_len]; omega, fun a ha => ?_⟩
      simp only [firstI, List.mem_map] at ha
      obtain ⟨i, _, rfl⟩ := ha
      rw [A8.idxR_len]; omega
  generalize indicesE fr = ix at *
  obtain ⟨L, q2⟩ := ix
  simp only at hlen
  generalize sizeE fr = z at *
  obtain ⟨n, z⟩ := z
  have fin : z ≠ 0 ∨ (z = 0 ∧ ¬ (100 : Int) < n) ∨ (z = 0 ∧ (100 : Int) < n) := by omega
  simp only [awp_reg, awp_seq, awp_exit, seqQ_n, seqQ_e, loopQ_e, blkQ_e, awpOps_one, awpOp_is, isCallV, callW_is, callV_is, putK_is, put_s, slot_is, pureOp, apureO, aev, cv, cvc, Bool.false_eq_true, ↓reduceIte, List.map_cons, List.map_nil, List.append_nil, reduceCtorEq]
  rcases fin with h3 | ⟨h3, h4⟩ | ⟨h3, h4⟩
  case inr.inr =>
    subst h3
    refine call_meets (hz) (by simp only [aev, cv, cvc, toD_sl, consO_some, toDL_nil, toDL_cons, h4]) ?_; simp only [awp_reg, awp_seq, awp_cond, awp_ret, seqQ_n, seqQ_r, awpOps_nil, awpOps_one, awpOps_if, awpOp_is, awpO_is, putK_is, put_s, upd_s, slot_is, retA_is, pureOp, apureO, killT, aev, cv, cvc, binK, elO_s, yieldA, guardA_tt, condA_t, pickA_t, flat_c, flat_tup, flatL_nil, flatL_cons, ownsV_sl, ownsL_nil, ownsL_cons, toD_c, notExit, resA_nil, resA_tmp, oneA_1, ↓reduceIte, List.getElem?_cons_zero, List.getElem?_cons_succ, List.append_nil, List.getElem?_toArray, Option.bind_some, Bool.and_self, Bool.or_true, and_self, Nat.reduceEqDiff, List.isEmpty_nil, decide_true, beq_self_eq_true, h4]
  case' inl =>
    refine call_meets (hz) (by simp only [aev, cv, cvc, toD_sl, consO_some, toDL_nil, toDL_cons, show (z == 0) = false by simpa using h3]) ?_; simp only [awp_skip, awp_reg, awp_seq, awp_cond, seqQ_n, awpOps_nil, awpOps_one, awpOps_if, awpOp_is, isCallV, callW_is, callV_is, putK_is, put_s, upd_s, slot_is, pureOp, apureO, killT, aev, cv, cvc, binK, elO_s, loadA_p, yieldA, guardA_tf, condA_f, pickA_f, flat_c, flat_tup, flatL_nil, flatL_cons, ownsV_sl, ownsL_nil, ownsL_cons, Bool.false_eq_true, ↓reduceIte, List.getElem?_cons_zero, List.getElem?_cons_succ, List.length_cons, List.length_nil, List.map_cons, List.map_nil, List.append_nil, List.getElem?_toArray, Option.bind_some, List.take_succ_cons, List.drop_zero, Bool.true_and, Bool.and_self, Bool.or_true, true_and, and_self, reduceCtorEq, Nat.reduceAdd, Nat.reduceEqDiff, Nat.zero_add, List.isEmpty_nil, Nat.le_refl, List.take_nil, Ty.td24, show (z == 0) = false by simpa using h3]
  case' inr.inl =>
    subst h3
    refine call_meets (hz) (by simp only [aev, cv, cvc, toD_sl, consO_some, toDL_nil, toDL_cons, h4]) ?_; simp only [awp_skip, awp_reg, awp_seq, awp_cond, seqQ_n, awpOps_nil, awpOps_one, awpOps_if, awpOp_is, isCallV, callW_is, callV_is, awpO_is, putK_is, put_s, upd_s, slot_is, pureOp, apureO, killT, aev, cv, cvc, binK, elO_s, loadA_p, yieldA, guardA_tt, condA_f, pickA_t, flat_c, flat_tup, flatL_nil, flatL_cons, ownsV_sl, ownsL_nil, ownsL_cons, Bool.false_eq_true, ↓reduceIte, List.getElem?_cons_zero, List.getElem?_cons_succ, List.length_cons, List.length_nil, List.map_cons, List.map_nil, List.append_nil, List.getElem?_toArray, Option.bind_some, List.take_succ_cons, List.drop_zero, Bool.true_and, Bool.and_self, Bool.or_true, true_and, and_self, reduceCtorEq, Nat.reduceAdd, Nat.reduceEqDiff, Nat.zero_add, List.isEmpty_nil, decide_false, Nat.le_refl, List.take_nil, Ty.td24, beq_self_eq_true, h4]
  all_goals
    refine call_meets (hj) (by simp only [aev, cv, cvc, toD_c, toD_agg, toD_sl, consO_some, toDL_nil, toDL_cons, Option.map_some]) ?_; simp only [awp_reg, awp_seq, seqQ_n, awpOps_nil, awpOps_one, awpOp_is, isCallV, callW_is, callV_is, putK_is, updK_is, put_s, upd_n, upd_s, slot_is, pureOp, apureO, astepO, killT, aev, cv, cvc, elO_s, loadA_p, storeA, cellsA, cellOk, setAll, flat_c, flat_tup, flat_agg, flat_sl, flatL_nil, flatL_cons, ownsV_c, ownsV_agg, ownsV_sl, ownsL_nil, ownsL_cons, Bool.false_eq_true, ↓reduceIte, List.getElem?_cons_zero, List.getElem?_cons_succ, List.length_cons, List.length_nil, List.map_cons, List.map_nil, List.cons_append, List.nil_append, List.append_nil, List.set_cons_zero, List.set_cons_succ, List.take_succ_cons, List.drop_zero, List.all_cons, List.all_nil, Bool.and_true, Bool.true_and, Bool.and_false, Bool.and_self, Bool.or_true, Value.oneCell', true_and, and_true, and_self, reduceCtorEq, Nat.reduceAdd, Nat.reduceEqDiff, Nat.zero_add, List.isEmpty_nil, Nat.le_refl, List.take_nil, Ty.td24]
    refine call_meets (hrj) (by simp only [aev, cv, cvc, toD_c, toD_agg, toD_sl, consO_some, toDL_nil, toDL_cons, Option.map_some]) ?_; simp only [awp_reg, awp_seq, seqQ_n, awpOps_nil, awpOps_one, awpOp_is, isCallV, callW_is, callV_is, putK_is, updK_is, put_s, upd_n, upd_s, slot_is, pureOp, apureO, astepO, killT, aev, cv, cvc, elO_s, storeA, cellsA, cellOk, setAll, flat_c, flat_tup, flat_agg, flat_sl, flatL_nil, flatL_cons, ownsV_c, ownsV_agg, ownsV_sl, ownsL_nil, ownsL_cons, Bool.false_eq_true, ↓reduceIte, List.getElem?_cons_zero, List.getElem?_cons_succ, List.length_cons, List.length_nil, List.map_cons, List.map_nil, List.cons_append, List.nil_append, List.append_nil, List.set_cons_zero, List.set_cons_succ, List.all_cons, List.all_nil, Bool.and_true, Bool.true_and, Bool.and_false, Bool.and_self, Bool.or_true, Value.oneCell', true_and, and_true, and_self, reduceCtorEq, Nat.reduceAdd, Nat.reduceEqDiff, Nat.zero_add, List.isEmpty_nil, Nat.le_refl, Ty.td24]
    refine call_meets (hp) (by simp only [aev, cv, cvc, toD_sl, consO_some, toDL_nil, toDL_cons]) ?_; simp only [awp_reg, awp_seq, seqQ_n, awpOps_nil, awpOps_one, awpOp_is, isCallV, callW_is, callV_is, putK_is, put_s, upd_s, slot_is, pureOp, apureO, killT, aev, cv, cvc, elO_s, flat_c, flat_tup, flat_sl, flatL_nil, flatL_cons, ownsV_sl, ownsL_nil, ownsL_cons, Bool.false_eq_true, ↓reduceIte, List.getElem?_cons_zero, List.getElem?_cons_succ, List.map_cons, List.map_nil, List.append_nil, Bool.and_true, Bool.and_self, Bool.or_true, and_true, and_self, reduceCtorEq, Nat.reduceEqDiff, List.isEmpty_nil]
    refine call_meets (hrp) (by simp only [aev, cv, cvc, toD_sl, consO_some, toDL_nil, toDL_cons]) ?_; simp only [awp_reg, awp_seq, seqQ_n, awpOps_nil, awpOps_one, awpOp_is, isCallV, callW_is, callV_is, putK_is, put_s, upd_s, slot_is, pureOp, apureO, killT, aev, cv, cvc, elO_s, loadA_p, flat_c, flat_tup, flat_sl, flatL_nil, flatL_cons, ownsV_sl, ownsL_nil, ownsL_cons, Bool.false_eq_true, ↓reduceIte, List.getElem?_cons_zero, List.getElem?_cons_succ, List.length_cons, List.length_nil, List.map_cons, List.map_nil, List.append_nil, List.take_succ_cons, List.drop_zero, Bool.and_true, Bool.true_and, Bool.and_self, Bool.or_true, true_and, and_true, and_self, Nat.reduceAdd, Nat.reduceEqDiff, Nat.zero_add, List.isEmpty_nil, Nat.le_refl, List.take_nil, Ty.td24]
    refine call_meets (heq) (by simp only [aev, cv, cvc, toD_c, toD_agg, toD_sl, consO_some, toDL_nil, toDL_cons, Option.map_some]) ?_; simp only [awp_skip, awp_reg, awp_seq, awp_cond, awp_block, awp_loop, seqQ_n, awpOps_nil, awpOps_one, awpOps_if, awpOp_is, awpO_is, putK_is, put_s, upd_s, slot_is, pureOp, apureO, killT, aev, cv, cvc, binK, elO_s, lenA, lenK, yieldA, guardA_ff, condA_f, pickA_f, flat_c, ownsV_c, ownsV_agg, ownsV_sl, ownsL_nil, ownsL_cons, ↓reduceIte, List.getElem?_cons_zero, List.getElem?_cons_succ, List.append_nil, List.getElem?_toArray, Option.bind_some, Bool.true_and, Bool.or_true, Bool.not_true, true_and, Nat.reduceEqDiff, List.isEmpty_nil, Option.isSome_some, Ty.td40, bne_self_eq_false, List.length_map]
    refine loop_k (fun k : Nat => k ≤ L.length) (fun k => ⟨117, [(103, I k), (102, I L.length), (101, listsV L), (15, listsV L), (17, listsV L)], [some (.var 24 [S e, ints ds, ints xs]), some (.var 24 [S E, ints D, ints X]), some (.var 24 [S E, ints D, ints X])]⟩) (fun k => L.length - k) 0 (Nat.zero_le _) (by simp only [slot_is, aev, cv, cvc, Weak, ↓reduceIte, Bool.and_true, Bool.and_self, and_true, and_self, Nat.reduceEqDiff]; simp) rfl rfl ?_
    intro j hj K' hK'
    simp only at hK'
    simp only [awp_reg, awp_seq, awp_cond, seqQ_n, awpOps_nil, awpOps_one, awpOp_is, putK_is, put_s, slot_is, pureOp, apureO, aev, cv, cvc, binK, ↓reduceIte, Bool.true_and, true_and, Nat.reduceEqDiff]
    refine condA_dec (fun hlt => ?_) (fun hge => ?_)
    · have hlt' : j < L.length := by omega
      have hx : L[j]? = some L[j] := List.getElem?_eq_getElem hlt'
      have hm := hlen.2 L[j] (List.getElem_mem _)
      generalize L[j] = x at *
      have hs1 := sameInts x x (by omega) (by omega)
      rw [beq_self_eq_true] at hs1
      simp only [awp_skip, awp_reg, awp_regD, awp_seq, awp_block, seqQ_n, awpOps_nil, awpOps_one, awpOpsD_one, awpOp_is, isCallV, awpOpD_is, callWD_is, callVD_is, lastOnly_nil, lastOnly_cons, putK_is, put_s, slot_is, keepOp, pureOp, apureO, aev, cv, cvc, elO_s, loadA_d, Int.natCast_nonneg, Bool.false_eq_true, ↓reduceIte, List.getElem?_cons_zero, List.map_cons, List.map_nil, List.append_nil, Option.map_some, Bool.true_and, true_and, Nat.reduceEqDiff, Int.toNat_natCast, Ty.td22, Ty.td40, List.getElem?_map, hx]
      refine calld_meets (hs1) (by simp only [aev, cv, cvc, toD_sl, consO_some, toDL_nil, toDL_cons, wrap_in (x := (j : Int) + 1) (by omega) (by omega)]) (by simp only [aev, cv, cvc, flat_c, ownsV_sl, ownsL_nil, ownsL_cons, List.append_nil, Bool.or_true, List.isEmpty_nil, wrap_in (x := (j : Int) + 1) (by omega) (by omega)]) ?_; simp only [awp_skip, awp_reg, awp_cond, seqQ_n, loopQ_n, blkQ_n, awpOps_nil, awpOps_one, awpOpsD_nil, awpOpsD_one, awpOp_is, awpOpD_is, putK_is, put_s, slot_is, keepOp, pureOp, apureO, aev, cv, cvc, binK, condA_f, ↓reduceIte, Bool.true_and, Bool.not_true, true_and, Nat.reduceEqDiff, wrap_in (x := (j : Int) + 1) (by omega) (by omega)]
      refine hK' (j + 1) _ hlt' (by omega) ?_ rfl rfl
      simp only [slot_is, aev, cv, cvc, Weak, ↓reduceIte, Bool.and_true, Bool.and_self, and_true, and_self, Nat.reduceEqDiff]
      simp
    · simp only [awp_reg, awp_seq, awp_exit, awp_ret, seqQ_n, seqQ_e, loopQ_e, blkQ_e, awpOps_nil, awpOps_one, awpOp_is, putK_is, put_s, slot_is, retA_is, pureOp, apureO, aev, cv, cvc, toD_c, notExit, resA_nil, resA_tmp, oneA_1, ↓reduceIte, Bool.and_self, and_self]

theorem end_ (W : World) {v0 v1 v2 : Value} (fr : List Int) (h0 : RepD (fun b => b < W.heap.size) W (ints fr) v0) (hf : fr.length ≤ maxLen) (_ : ∀ z ∈ fr, (Lit.int .i64 z).wf = true) (l : List Ar) (h1 : RepD (fun b => b < W.heap.size) W (arrs l) v1) (hl : l.length ≤ maxLen) (s : ByteArray) (xs ys : List Int) (h2 : RepD (fun b => b < W.heap.size) W (arr s xs ys) v2) :
    Calls Try.prog 6 #[v0, v1, v2] W fun e w' => e = .returned (.bool true) ∧ Below W.heap.size W w' :=
  law_of (law fr l (s, xs, ys) hf hl) (vs := [v0, v1, v2]) ⟨_, _, rfl, h0, _, _, rfl, h1, _, _, rfl, h2, rfl⟩
end Go.Proofs.Ytoobaeebgnbpjaa.B17
