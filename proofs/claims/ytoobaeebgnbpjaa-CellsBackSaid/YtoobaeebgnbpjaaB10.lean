/- Cells: Cell. -/
import Derived.Test.YtoobaeebgnbpjaaB9
namespace Go.Proofs.Ytoobaeebgnbpjaa.B10
open Go Go.Proofs.Ytoobaeebgnbpjaa.Eng Go.Proofs.Ytoobaeebgnbpjaa Go.RowKit Go.Proofs.Ytoobaeebgnbpjaa.A1 Go.Proofs.Ytoobaeebgnbpjaa.A2 Go.Proofs.Ytoobaeebgnbpjaa.A3 Go.Proofs.Ytoobaeebgnbpjaa.A4 Go.Proofs.Ytoobaeebgnbpjaa.A5 Go.Proofs.Ytoobaeebgnbpjaa.B1 Go.Proofs.Ytoobaeebgnbpjaa.B9
set_option linter.unusedSimpArgs false
set_option linter.unusedVariables false
set_option maxRecDepth 100000

abbrev zeroT (k : Int) : AV := .tup [.agg [S ⟨#[]⟩, .nils, .nils], I k]
abbrev zeroR (k : Int) : AV := .tup [arr ⟨#[]⟩ [] [], I k]
def partE (xs : List Int) (n p : Int) : List Int := (xs.drop (IntKind.i64.wrap (n * p)).toNat).take p.toNat
def resT (e : ByteArray) (cs xs : List Int) (p : Int) : Option Int → AV
  | none => zeroT 2
  | some n => .tup [arr e cs (partE xs n p), I 0]
def resR (e : ByteArray) (cs xs : List Int) (p : Int) : Option Int → AV
  | none => zeroR 2
  | some n => .tup [arr e cs (partE xs n p), I 0]
def cellE (a : Ar) (r : Int) (own : List Int) : AV :=
  if (splitE a r).2 ≠ 0 then zeroR (splitE a r).2
  else if own.length ≠ (splitE a r).1.1.length then zeroR 13
  else resR a.1 (splitE a r).1.2 a.2.2 (sizeE (splitE a r).1.2).1 (kE (splitE a r).1.1 own 0)

theorem res_imp {e : ByteArray} {cs xs : List Int} {p : Int} {o : Option Int} (ok : Nat → Prop) (w : World) (v : Value) (h : RepD ok w (resT e cs xs p o) v) : RepD ok w (resR e cs xs p o) v := by
  cases o with
  | none => exact zero_imp _ _ _ h
  | some n => exact h

theorem splitE_ok {e : ByteArray} {ds xs : List Int} {r : Int} (h : (splitE (e, ds, xs) r).2 = 0) : checkE e ds xs = 0 ∧ ds = (splitE (e, ds, xs) r).1.1 ++ (splitE (e, ds, xs) r).1.2 := by
  unfold splitE at h ⊢
  simp only at h ⊢
  split at h
  · simp at h
  rename_i h1
  split at h
  · simp at h
  rename_i h2
  rw [if_neg h1, if_neg h2]
  exact ⟨by simpa using h1, (List.take_append_drop _ _).symm⟩

theorem kE_step {fs os : List Int} {n : Int} {k : Nat} (h1 : k < fs.length) (h2 : k < os.length) : kE (fs.drop k) (os.drop k) n = if os[k] < 0 ∨ fs[k] ≤ os[k] then none else kE (fs.drop (k + 1)) (os.drop (k + 1)) (IntKind.i64.wrap (IntKind.i64.wrap (n * fs[k]) + os[k])) := by
  rw [List.drop_eq_getElem_cons h1, List.drop_eq_getElem_cons h2, kE]

/-- The bounds of the part. -/
theorem bounds {n p N : Int} (h0 : 0 ≤ p) (hp : p ≤ 4096) (hN : 0 ≤ N) (h : p = 0 ∨ (0 ≤ n ∧ n ≤ 4096 ∧ n * p + p ≤ N)) : ∃ A, IntKind.i64.wrap (n * p) = A ∧ IntKind.i64.wrap (IntKind.i64.wrap (n + 1) * p) = A + p ∧ 0 ≤ A ∧ A + p ≤ N ∧ A ≤ 16777216 := by
  rcases h with rfl | ⟨h1, h2, h3⟩
  · exact ⟨0, by rw [Int.mul_zero]; rfl, by rw [Int.mul_zero]; rfl, by omega, by omega, by omega⟩
  · have h4 : 0 ≤ n * p := Int.mul_nonneg h1 h0
    have h5 : n * p ≤ 4096 * 4096 := Int.mul_le_mul h2 hp h0 (by omega)
    refine ⟨n * p, wrap_in (by omega) (by omega), ?_, h4, h3, by omega⟩
    rw [wrap_in (x := n + 1) (by omega) (by omega), Int.add_mul, Int.one_mul, wrap_in (by omega) (by omega)]

section
variable (e : ByteArray) (ds xs : List Int) (r : Int) (own : List Int) (hd : ds.length ≤ 1000000) (hx : xs.length ≤ 1000000) (hr : r ≤ 9223372036854775807) (ho : own.length ≤ 1000000)
include hd hx hr ho

theorem cell : Meets Try.prog 13 [arr e ds xs, I r, ints own] (cellE (e, ds, xs) r own) := by
  have hs := split e ds xs r hd hx hr
  have hok := @splitE_ok e ds xs r
  unfold cellE
  generalize splitE (e, ds, xs) r = s at *
  obtain ⟨⟨fs, cs⟩, er⟩ := s
  simp only at hok ⊢
  by_cases he : er = 0
  case neg =>
    rw [if_pos he]
    refine Meets.weak (r0 := zeroT er) ?_ zero_imp
    have he' : (er != 0) = true := by simpa using he
    refine meets_of Ty.mixed Try.func13 (by kernel_rfl) rfl (by kernel_rfl) (by simp) ?_; rw [Try.ntmps13, Try.results13]
    simp only [awp_reg, awp_seq, seqQ_n, awpOps_nil, awpOps_one, awpOp_is, isCallV, callW_is, callV_is, putK_is, updK_is, put_s, upd_s, slot_is, pureOp, apureO, astepO, killT, aev, cv, cvc, elO_s, loadA_p, cellsA, cellOk, argT, Bool.false_eq_true, ↓reduceIte, List.getElem?_cons_zero, List.length_cons, List.length_nil, List.map_cons, List.map_nil, List.cons_append, List.nil_append, List.append_nil, List.take_succ_cons, List.drop_zero, List.all_cons, List.all_nil, Bool.true_and, Bool.and_self, Value.oneCell', true_and, and_self, reduceCtorEq, Nat.reduceAdd, Nat.reduceEqDiff, Nat.zero_add, Nat.le_refl, List.take_nil, Ty.td24]
    refine call_meets (hs) (by simp only [aev, cv, cvc, toD_c, toD_agg, toD_sl, consO_some, toDL_nil, toDL_cons, Option.map_some, he']) ?_; simp only [awp_reg, awp_seq, awp_cond, awp_ret, seqQ_n, seqQ_r, awpOps_nil, awpOps_one, awpOp_is, isCallV, putK_is, updK_is, put_s, upd_n, upd_s, slot_is, slot.eq_1, retA_is, pureOp, apureO, astepO, killT, aev, cv, cvc, binK, elO_s, loadA_p, storeA, cellsA, cellOk, setAll, fillA, placeT, placesA, condA_t, flat_c, flat_tup, flat_sl, flatL_nil, flatL_cons, ownsV_c, ownsV_agg, ownsV_sl, ownsL_nil, ownsL_cons, toD_c, toD_nils, toD_tup, toD_agg, consO_some, toDL_nil, toDL_cons, notExit, resA_nil, resA_tmp, resA_cell, oneA_2, Bool.false_eq_true, ↓reduceIte, List.getElem?_cons_zero, List.getElem?_cons_succ, List.length_cons, List.length_nil, List.map_cons, List.map_nil, List.append_nil, List.set_cons_zero, List.set_cons_succ, Option.map_some, List.take_succ_cons, List.drop_zero, List.all_cons, List.all_nil, Bool.and_true, Bool.true_and, Bool.and_self, Bool.or_true, Value.oneCell', true_and, and_true, and_self, ne_eq, not_false_eq_true, reduceCtorEq, Nat.reduceAdd, Nat.reduceEqDiff, Nat.zero_add, List.isEmpty_nil, Nat.le_refl, List.take_nil, Ty.td9, Ty.td22, Ty.td24, he']
  subst he
  rw [if_neg (by simp)]
  obtain ⟨hc, hds⟩ := hok rfl
  have hfl : fs.length ≤ 1000000 ∧ cs.length ≤ 1000000 := by
    have : ds.length = fs.length + cs.length := by rw [hds, List.length_append]
    omega
  by_cases hl : (own.length : Int) = fs.length
  case neg =>
    rw [if_pos (by omega)]
    refine Meets.weak (r0 := zeroT 13) ?_ zero_imp
    refine meets_of Ty.mixed Try.func13 (by kernel_rfl) rfl (by kernel_rfl) (by simp) ?_; rw [Try.ntmps13, Try.results13]
    simp only [awp_reg, awp_seq, seqQ_n, awpOps_nil, awpOps_one, awpOp_is, isCallV, callW_is, callV_is, putK_is, updK_is, put_s, upd_s, slot_is, pureOp, apureO, astepO, killT, aev, cv, cvc, elO_s, loadA_p, cellsA, cellOk, argT, Bool.false_eq_true, ↓reduceIte, List.getElem?_cons_zero, List.length_cons, List.length_nil, List.map_cons, List.map_nil, List.cons_append, List.nil_append, List.append_nil, List.take_succ_cons, List.drop_zero, List.all_cons, List.all_nil, Bool.true_and, Bool.and_self, Value.oneCell', true_and, and_self, reduceCtorEq, Nat.reduceAdd, Nat.reduceEqDiff, Nat.zero_add, Nat.le_refl, List.take_nil, Ty.td24]
    refine call_meets (hs) (by simp only [aev, cv, cvc, toD_c, toD_agg, toD_sl, consO_some, toDL_nil, toDL_cons, Option.map_some, show ((own.length : Int) != (fs.length : Int)) = true by simpa using hl]) ?_; simp only [awp_skip, awp_reg, awp_seq, awp_cond, awp_ret, seqQ_n, seqQ_r, awpOps_nil, awpOps_one, awpOp_is, isCallV, putK_is, updK_is, put_s, upd_n, upd_s, slot_is, slot.eq_1, retA_is, pureOp, apureO, astepO, killT, aev, cv, cvc, binK, elO_s, lenA, lenK, loadA_p, storeA, cellsA, cellOk, setAll, fillA, placeT, placesA, condA_t, condA_f, flat_c, flat_tup, flat_sl, flatL_nil, flatL_cons, ownsV_c, ownsV_agg, ownsV_sl, ownsL_nil, ownsL_cons, toD_c, toD_nils, toD_tup, toD_agg, consO_some, toDL_nil, toDL_cons, notExit, resA_nil, resA_tmp, resA_cell, oneA_2, Bool.false_eq_true, ↓reduceIte, List.getElem?_cons_zero, List.getElem?_cons_succ, List.length_cons, List.length_nil, List.map_cons, List.map_nil, List.append_nil, List.set_cons_zero, List.set_cons_succ, Option.map_some, List.take_succ_cons, List.drop_zero, List.all_cons, List.all_nil, Bool.and_true, Bool.true_and, Bool.and_self, Bool.or_true, Value.oneCell', true_and, and_true, and_self, ne_eq, not_false_eq_true, reduceCtorEq, Nat.reduceAdd, Nat.reduceEqDiff, Nat.zero_add, List.isEmpty_nil, Option.isSome_some, Nat.le_refl, List.take_nil, Ty.td9, Ty.td22, Ty.td24, bne_self_eq_false, List.length_map, show ((own.length : Int) != (fs.length : Int)) = true by simpa using hl]
  rw [if_neg (by omega)]
  have hl' : ((own.length : Int) != (fs.length : Int)) = false := by simpa using hl
  refine Meets.weak (r0 := resT e cs xs (sizeE cs).1 (kE fs own 0)) ?_ res_imp
  obtain ⟨_, hsz, _⟩ := checkE_ok hc
  have hsm := size cs hfl.2
  have hsizes := fun n => @sizes ds fs cs own xs.length n hds hsz (by omega)
  generalize sizeE cs = sz at *
  obtain ⟨p, se⟩ := sz
  simp only
  refine meets_of Ty.mixed Try.func13 (by kernel_rfl) rfl (by kernel_rfl) (by simp) ?_; rw [Try.ntmps13, Try.results13]
  simp only [awp_reg, awp_seq, seqQ_n, awpOps_nil, awpOps_one, awpOp_is, isCallV, callW_is, callV_is, putK_is, updK_is, put_s, upd_s, slot_is, pureOp, apureO, astepO, killT, aev, cv, cvc, elO_s, loadA_p, cellsA, cellOk, argT, Bool.false_eq_true, ↓reduceIte, List.getElem?_cons_zero, List.length_cons, List.length_nil, List.map_cons, List.map_nil, List.cons_append, List.nil_append, List.append_nil, List.take_succ_cons, List.drop_zero, List.all_cons, List.all_nil, Bool.true_and, Bool.and_self, Value.oneCell', true_and, and_self, reduceCtorEq, Nat.reduceAdd, Nat.reduceEqDiff, Nat.zero_add, Nat.le_refl, List.take_nil, Ty.td24]
  refine call_meets (hs) (by simp only [aev, cv, cvc, toD_c, toD_agg, toD_sl, consO_some, toDL_nil, toDL_cons, Option.map_some, hl']) ?_; simp only [awp_skip, awp_reg, awp_seq, awp_cond, awp_block, awp_loop, seqQ_n, awpOps_nil, awpOps_one, awpOp_is, putK_is, put_s, upd_s, slot_is, pureOp, apureO, killT, aev, cv, cvc, binK, elO_s, lenA, lenK, condA_f, flat_c, flat_tup, flat_sl, flatL_nil, flatL_cons, ownsV_c, ownsV_agg, ownsV_sl, ownsL_nil, ownsL_cons, ↓reduceIte, List.getElem?_cons_zero, List.getElem?_cons_succ, List.append_nil, Bool.and_true, Bool.true_and, Bool.and_self, Bool.or_true, true_and, and_true, and_self, reduceCtorEq, Nat.reduceEqDiff, List.isEmpty_nil, Option.isSome_some, Ty.td22, bne_self_eq_false, List.length_map, hl']
  refine loop_k (fun x : Nat × Int => x.1 ≤ own.length ∧ kE fs own 0 = kE (fs.drop x.1) (own.drop x.1) x.2) (fun x => ⟨86, [(36, I x.1), (35, I own.length), (34, ints own), (11, I x.2), (8, ints fs), (9, ints cs), (3, .ptr 0 0), (6, .ptr 1 0)], [some (.var 24 [S e, ints ds, ints xs]), some (.var 24 [S ⟨#[]⟩, .nils, .nils])]⟩) (fun x => own.length - x.1) (0, 0) ⟨Nat.zero_le _, rfl⟩ (by simp only [slot_is, aev, cv, cvc, Weak, ↓reduceIte, Bool.and_true, Bool.and_self, and_true, and_self, Nat.reduceEqDiff]; simp) rfl rfl ?_
  rintro ⟨k, n⟩ ⟨hk, hi⟩ K hK
  simp only at hk hi hK
  simp only [awp_reg, awp_seq, awp_cond, seqQ_n, awpOps_nil, awpOps_one, awpOp_is, putK_is, put_s, slot_is, pureOp, apureO, aev, cv, cvc, binK, ↓reduceIte, Bool.true_and, true_and, Nat.reduceEqDiff]
  refine condA_dec (fun hlt => ?_) (fun hge => ?_)
  · have g1 : k < fs.length := by omega
    have g2 : k < own.length := by omega
    have hy : fs[k]? = some fs[k] := List.getElem?_eq_getElem g1
    have hz : own[k]? = some own[k] := List.getElem?_eq_getElem g2
    rw [kE_step g1 g2] at hi
    generalize fs[k] = f at *
    generalize own[k] = o at *
    by_cases h1 : o < 0
    · rw [if_pos (Or.inl h1)] at hi
      simp only [awp_skip, awp_reg, awp_seq, awp_cond, awp_block, awp_ret, seqQ_n, seqQ_r, loopQ_r, blkQ_r, awpOps_nil, awpOps_one, awpOps_if, awpOp_is, isCallV, putK_is, updK_is, put_s, upd_n, slot_is, slot.eq_1, retA_is, pureOp, apureO, astepO, killT, aev, cv, cvc, binK, elO_s, loadA_d, loadA_p, storeA, cellsA, cellOk, setAll, fillA, placeT, placesA, yieldA, guardA_ft, condA_t, pickA_t, toD_c, toD_nils, toD_tup, toD_agg, consO_some, toDL_nil, toDL_cons, notExit, resA_nil, resA_tmp, resA_cell, oneA_2, Int.natCast_nonneg, Bool.false_eq_true, ↓reduceIte, List.getElem?_cons_zero, List.getElem?_cons_succ, List.length_cons, List.length_nil, List.map_cons, List.map_nil, List.set_cons_zero, List.set_cons_succ, List.getElem?_toArray, Option.bind_some, Option.map_some, List.take_succ_cons, List.drop_zero, List.all_cons, List.all_nil, Bool.and_true, Bool.true_and, Bool.and_self, Value.oneCell', true_and, and_true, and_self, ne_eq, not_false_eq_true, reduceCtorEq, Nat.reduceAdd, Nat.reduceEqDiff, Nat.zero_add, Int.toNat_natCast, decide_true, Nat.le_refl, List.take_nil, Ty.td3, Ty.td9, Ty.td22, Ty.td24, List.getElem?_map, hy, hz, h1, hi, resT]
    by_cases h2 : f ≤ o
    · rw [if_pos (Or.inr h2)] at hi
      simp only [awp_skip, awp_reg, awp_seq, awp_cond, awp_block, awp_ret, seqQ_n, seqQ_r, loopQ_r, blkQ_r, awpOps_nil, awpOps_one, awpOps_if, awpOp_is, isCallV, awpO_is, putK_is, updK_is, put_s, upd_n, slot_is, slot.eq_1, retA_is, pureOp, apureO, astepO, killT, aev, cv, cvc, binK, elO_s, loadA_d, loadA_p, storeA, cellsA, cellOk, setAll, fillA, placeT, placesA, yieldA, guardA_ff, condA_t, pickA_f, toD_c, toD_nils, toD_tup, toD_agg, consO_some, toDL_nil, toDL_cons, notExit, resA_nil, resA_tmp, resA_cell, oneA_2, Int.natCast_nonneg, Bool.false_eq_true, ↓reduceIte, List.getElem?_cons_zero, List.getElem?_cons_succ, List.length_cons, List.length_nil, List.map_cons, List.map_nil, List.set_cons_zero, List.set_cons_succ, List.getElem?_toArray, Option.bind_some, Option.map_some, List.take_succ_cons, List.drop_zero, List.all_cons, List.all_nil, Bool.and_true, Bool.true_and, Bool.and_self, Value.oneCell', true_and, and_true, and_self, ne_eq, not_false_eq_true, reduceCtorEq, Nat.reduceAdd, Nat.reduceEqDiff, Nat.zero_add, Int.toNat_natCast, decide_true, decide_false, Nat.le_refl, List.take_nil, Ty.td3, Ty.td9, Ty.td22, Ty.td24, List.getElem?_map, hy, hz, h1, h2, hi, resT]
    rw [if_neg (by omega)] at hi
    simp only [awp_skip, awp_reg, awp_seq, awp_cond, awp_block, seqQ_n, loopQ_n, blkQ_n, awpOps_nil, awpOps_one, awpOps_if, awpOp_is, awpO_is, putK_is, put_s, slot_is, pureOp, apureO, aev, cv, cvc, binK, elO_s, loadA_d, yieldA, guardA_ff, condA_f, pickA_f, Int.natCast_nonneg, Bool.false_eq_true, ↓reduceIte, List.getElem?_cons_zero, List.getElem?_cons_succ, List.getElem?_toArray, Option.bind_some, Option.map_some, Bool.true_and, true_and, Nat.reduceEqDiff, Int.toNat_natCast, decide_false, Ty.td3, Ty.td22, List.getElem?_map, hy, hz, h1, h2, wrap_in (x := (k : Int) + 1) (by omega) (by omega)]
    refine hK (k + 1, IntKind.i64.wrap (IntKind.i64.wrap (n * f) + o)) _ ⟨g2, hi⟩ (by simp; omega) ?_ rfl rfl
    simp only [slot_is, aev, cv, cvc, Weak, ↓reduceIte, Bool.and_true, Bool.and_self, and_true, and_self, Nat.reduceEqDiff]
    simp
  · have hk' : k = own.length := by omega
    have hd0 : own.drop k = [] := by rw [hk', List.drop_length]
    rw [hd0, show kE (fs.drop k) [] n = some n from by cases fs.drop k <;> rfl] at hi
    obtain ⟨p', q1, q2, q3, q4⟩ := hsizes n hi
    simp only [Prod.mk.injEq] at q1
    obtain ⟨rfl, rfl⟩ := q1
    obtain ⟨A, a1, a2, a3, a4, a5⟩ := bounds q2 q3 (by omega) q4
    have a6 : (A + p).toNat - A.toNat = p.toNat := by omega
    have hcl := cloneArr e cs (partE xs n p) hfl.2 (by unfold partE; simp; omega)
    unfold partE at hcl
    rw [a1] at hcl
    rw [hi, show resT e cs xs p (some n) = .tup [arr e cs ((xs.drop A.toNat).take p.toNat), I 0] from by simp only [resT, partE, a1]]
    simp only [awp_reg, awp_seq, awp_exit, seqQ_n, seqQ_e, loopQ_e, blkQ_e, awpOps_one, awpOp_is, isCallV, callW_is, callV_is, putK_is, put_s, slot_is, pureOp, apureO, aev, cv, cvc, Bool.false_eq_true, ↓reduceIte, List.map_cons, List.map_nil, List.append_nil, Nat.reduceEqDiff]
    refine call_meets (hsm) (by simp only [aev, cv, cvc, toD_sl, consO_some, toDL_nil, toDL_cons, a1, a2, a6, ← List.map_drop, ← List.map_take]) ?_; simp only [awp_reg, awp_seq, seqQ_n, awpOps_nil, awpOps_one, awpOp_is, isCallV, callW_is, callV_is, putK_is, put_s, upd_s, slot_is, slot.eq_1, pureOp, apureO, sliceA_sl, boundsA, killT, aev, cv, cvc, binK, elO_s, loadA_p, cellsA, cellOk, setAll, fillA, placeT, placesA, flat_c, flat_tup, flatL_nil, flatL_cons, ownsV_sl, ownsL_nil, ownsL_cons, Bool.false_eq_true, ↓reduceIte, List.getElem?_cons_zero, List.getElem?_cons_succ, List.length_cons, List.length_nil, List.map_cons, List.map_nil, List.append_nil, List.set_cons_zero, List.set_cons_succ, Option.map_some, List.all_cons, List.all_nil, Bool.and_true, Bool.true_and, Bool.and_self, Bool.or_true, Value.oneCell', true_and, and_true, and_self, ne_eq, not_false_eq_true, reduceCtorEq, Nat.reduceAdd, Nat.reduceLeDiff, Nat.reduceEqDiff, Nat.zero_add, List.isEmpty_nil, Nat.le_refl, Int.le_refl, Ty.td3, Ty.td9, Ty.td22, Ty.td24, a1, a2, a6, List.length_map, ← List.map_drop, ← List.map_take]
    refine ⟨by omega, by omega, by omega, ?_⟩
    refine call_meets (hcl) (by simp only [aev, cv, cvc, toD_c, toD_agg, toD_sl, consO_some, toDL_nil, toDL_cons, Option.map_some]) ?_; simp only [awp_ret, seqQ_n, awpOps_nil, awpOps_one, awpOp_is, isCallV, putK_is, updK_is, put_s, upd_n, upd_s, slot_is, retA_is, pureOp, apureO, astepO, killT, aev, cv, cvc, elO_s, loadA_p, storeA, cellsA, cellOk, setAll, flat_c, flat_agg, flat_sl, flatL_nil, flatL_cons, ownsV_c, ownsV_agg, ownsV_sl, ownsL_nil, ownsL_cons, toD_c, toD_tup, toD_agg, toD_sl, consO_some, toDL_nil, toDL_cons, notExit, resA_nil, resA_tmp, resA_cell, oneA_2, Bool.false_eq_true, ↓reduceIte, List.getElem?_cons_zero, List.getElem?_cons_succ, List.length_cons, List.length_nil, List.append_nil, List.set_cons_zero, List.set_cons_succ, Option.map_some, List.take_succ_cons, List.drop_zero, Bool.and_true, Bool.true_and, Bool.and_false, Bool.and_self, Bool.or_true, true_and, and_true, and_self, Nat.reduceAdd, Nat.reduceEqDiff, Nat.zero_add, List.isEmpty_nil, Nat.le_refl, List.take_nil, Ty.td24]

theorem refCell : Meets Try.prog 14 [arr e ds xs, I r, ints own] (cellE (e, ds, xs) r own) := by
  have hs := refSplit e ds xs r hd hx hr
  have hok := @splitE_ok e ds xs r
  unfold cellE
  generalize splitE (e, ds, xs) r = s at *
  obtain ⟨⟨fs, cs⟩, er⟩ := s
  simp only at hok ⊢
  by_cases he : er = 0
  case neg =>
    rw [if_pos he]
    refine Meets.weak (r0 := zeroT er) ?_ zero_imp
    have he' : (er != 0) = true := by simpa using he
    refine meets_of Ty.mixed Try.func14 (by kernel_rfl) rfl (by kernel_rfl) (by simp) ?_; rw [Try.ntmps14, Try.results14]
    simp only [awp_reg, awp_seq, seqQ_n, awpOps_nil, awpOps_one, awpOp_is, isCallV, callW_is, callV_is, putK_is, updK_is, put_s, upd_s, slot_is, pureOp, apureO, astepO, killT, aev, cv, cvc, elO_s, loadA_p, cellsA, cellOk, argT, Bool.false_eq_true, ↓reduceIte, List.getElem?_cons_zero, List.length_cons, List.length_nil, List.map_cons, List.map_nil, List.cons_append, List.nil_append, List.append_nil, List.take_succ_cons, List.drop_zero, List.all_cons, List.all_nil, Bool.true_and, Bool.and_self, Value.oneCell', true_and, and_self, reduceCtorEq, Nat.reduceAdd, Nat.reduceEqDiff, Nat.zero_add, Nat.le_refl, List.take_nil, Ty.td24]
    refine call_meets (hs) (by simp only [aev, cv, cvc, toD_c, toD_agg, toD_sl, consO_some, toDL_nil, toDL_cons, Option.map_some, he']) ?_; simp only [awp_reg, awp_seq, awp_cond, awp_ret, seqQ_n, seqQ_r, awpOps_nil, awpOps_one, awpOp_is, isCallV, putK_is, updK_is, put_s, upd_n, upd_s, slot_is, slot.eq_1, retA_is, pureOp, apureO, astepO, killT, aev, cv, cvc, binK, elO_s, loadA_p, storeA, cellsA, cellOk, setAll, fillA, placeT, placesA, condA_t, flat_c, flat_tup, flat_sl, flatL_nil, flatL_cons, ownsV_c, ownsV_agg, ownsV_sl, ownsL_nil, ownsL_cons, toD_c, toD_nils, toD_tup, toD_agg, consO_some, toDL_nil, toDL_cons, notExit, resA_nil, resA_tmp, resA_cell, oneA_2, Bool.false_eq_true, ↓reduceIte, List.getElem?_cons_zero, List.getElem?_cons_succ, List.length_cons, List.length_nil, List.map_cons, List.map_nil, List.append_nil, List.set_cons_zero, List.set_cons_succ, Option.map_some, List.take_succ_cons, List.drop_zero, List.all_cons, List.all_nil, Bool.and_true, Bool.true_and, Bool.and_self, Bool.or_true, Value.oneCell', true_and, and_true, and_self, ne_eq, not_false_eq_true, reduceCtorEq, Nat.reduceAdd, Nat.reduceEqDiff, Nat.zero_add, List.isEmpty_nil, Nat.le_refl, List.take_nil, Ty.td9, Ty.td22, Ty.td24, he']
  subst he
  rw [if_neg (by simp)]
  obtain ⟨hc, hds⟩ := hok rfl
  have hfl : fs.length ≤ 1000000 ∧ cs.length ≤ 1000000 := by
    have : ds.length = fs.length + cs.length := by rw [hds, List.length_append]
    omega
  by_cases hl : (own.length : Int) = fs.length
  case neg =>
    rw [if_pos (by omega)]
    refine Meets.weak (r0 := zeroT 13) ?_ zero_imp
    refine meets_of Ty.mixed Try.func14 (by kernel_rfl) rfl (by kernel_rfl) (by simp) ?_; rw [Try.ntmps14, Try.results14]
    simp only [awp_reg, awp_seq, seqQ_n, awpOps_nil, awpOps_one, awpOp_is, isCallV, callW_is, callV_is, putK_is, updK_is, put_s, upd_s, slot_is, pureOp, apureO, astepO, killT, aev, cv, cvc, elO_s, loadA_p, cellsA, cellOk, argT, Bool.false_eq_true, ↓reduceIte, List.getElem?_cons_zero, List.length_cons, List.length_nil, List.map_cons, List.map_nil, List.cons_append, List.nil_append, List.append_nil, List.take_succ_cons, List.drop_zero, List.all_cons, List.all_nil, Bool.true_and, Bool.and_self, Value.oneCell', true_and, and_self, reduceCtorEq, Nat.reduceAdd, Nat.reduceEqDiff, Nat.zero_add, Nat.le_refl, List.take_nil, Ty.td24]
    refine call_meets (hs) (by simp only [aev, cv, cvc, toD_c, toD_agg, toD_sl, consO_some, toDL_nil, toDL_cons, Option.map_some, show ((own.length : Int) != (fs.length : Int)) = true by simpa using hl]) ?_; simp only [awp_skip, awp_reg, awp_seq, awp_cond, awp_ret, seqQ_n, seqQ_r, awpOps_nil, awpOps_one, awpOp_is, isCallV, putK_is, updK_is, put_s, upd_n, upd_s, slot_is, slot.eq_1, retA_is, pureOp, apureO, astepO, killT, aev, cv, cvc, binK, elO_s, lenA, lenK, loadA_p, storeA, cellsA, cellOk, setAll, fillA, placeT, placesA, condA_t, condA_f, flat_c, flat_tup, flat_sl, flatL_nil, flatL_cons, ownsV_c, ownsV_agg, ownsV_sl, ownsL_nil, ownsL_cons, toD_c, toD_nils, toD_tup, toD_agg, consO_some, toDL_nil, toDL_cons, notExit, resA_nil, resA_tmp, resA_cell, oneA_2, Bool.false_eq_true, ↓reduceIte, List.getElem?_cons_zero, List.getElem?_cons_succ, List.length_cons, List.length_nil, List.map_cons, List.map_nil, List.append_nil, List.set_cons_zero, List.set_cons_succ, Option.map_some, List.take_succ_cons, List.drop_zero, List.all_cons, List.all_nil, Bool.and_true, Bool.true_and, Bool.and_self, Bool.or_true, Value.oneCell', true_and, and_true, and_self, ne_eq, not_false_eq_true, reduceCtorEq, Nat.reduceAdd, Nat.reduceEqDiff, Nat.zero_add, List.isEmpty_nil, Option.isSome_some, Nat.le_refl, List.take_nil, Ty.td9, Ty.td22, Ty.td24, bne_self_eq_false, List.length_map, show ((own.length : Int) != (fs.length : Int)) = true by simpa using hl]
  rw [if_neg (by omega)]
  have hl' : ((own.length : Int) != (fs.length : Int)) = false := by simpa using hl
  refine Meets.weak (r0 := resT e cs xs (sizeE cs).1 (kE fs own 0)) ?_ res_imp
  obtain ⟨hel, hsz, hall⟩ := checkE_ok hc
  have hsm := refSize cs hfl.2
  have hsizes := fun n => @sizes ds fs cs own xs.length n hds hsz (by omega)
  have hsc : ∀ n, kE fs own 0 = some n → sizeE cs = ((sizeE cs).1, 0) := fun n h => by
    obtain ⟨p, q, _⟩ := hsizes n h
    rw [q]
  have hof : ∀ A : Nat, ∀ p : Int, sizeE cs = (p, 0) → 0 ≤ p → (A : Int) + p ≤ xs.length → Meets Try.prog 37 [S e, ints cs, ints ((xs.drop A).take p.toNat)] (.tup [arr e cs ((xs.drop A).take p.toNat), I 0]) := fun A p h1 h2 h3 => by
    have hlen : ((xs.drop A).take p.toNat).length = p.toNat := by rw [List.length_take, List.length_drop]; omega
    have := refOf e cs ((xs.drop A).take p.toNat) hfl.2 (by omega)
    unfold ofE at this
    rwa [if_pos (checkE_mk hel (by rw [h1, hlen]; congr 1; omega) (any_part hall))] at this
  generalize sizeE cs = sz at *
  obtain ⟨p, se⟩ := sz
  simp only
  refine meets_of Ty.mixed Try.func14 (by kernel_rfl) rfl (by kernel_rfl) (by simp) ?_; rw [Try.ntmps14, Try.results14]
  simp only [awp_reg, awp_seq, seqQ_n, awpOps_nil, awpOps_one, awpOp_is, isCallV, callW_is, callV_is, putK_is, updK_is, put_s, upd_s, slot_is, pureOp, apureO, astepO, killT, aev, cv, cvc, elO_s, loadA_p, cellsA, cellOk, argT, Bool.false_eq_true, ↓reduceIte, List.getElem?_cons_zero, List.length_cons, List.length_nil, List.map_cons, List.map_nil, List.cons_append, List.nil_append, List.append_nil, List.take_succ_cons, List.drop_zero, List.all_cons, List.all_nil, Bool.true_and, Bool.and_self, Value.oneCell', true_and, and_self, reduceCtorEq, Nat.reduceAdd, Nat.reduceEqDiff, Nat.zero_add, Nat.le_refl, List.take_nil, Ty.td24]
  refine call_meets (hs) (by simp only [aev, cv, cvc, toD_c, toD_agg, toD_sl, consO_some, toDL_nil, toDL_cons, Option.map_some, hl']) ?_; simp only [awp_skip, awp_reg, awp_seq, awp_cond, awp_block, awp_loop, seqQ_n, awpOps_nil, awpOps_one, awpOp_is, putK_is, put_s, upd_s, slot_is, pureOp, apureO, killT, aev, cv, cvc, binK, elO_s, lenA, lenK, condA_f, flat_c, flat_tup, flat_sl, flatL_nil, flatL_cons, ownsV_c, ownsV_agg, ownsV_sl, ownsL_nil, ownsL_cons, ↓reduceIte, List.getElem?_cons_zero, List.getElem?_cons_succ, List.append_nil, Bool.and_true, Bool.true_and, Bool.and_self, Bool.or_true, true_and, and_true, and_self, reduceCtorEq, Nat.reduceEqDiff, List.isEmpty_nil, Option.isSome_some, Ty.td22, bne_self_eq_false, List.length_map, hl']
  refine loop_k (fun x : Nat × Int => x.1 ≤ own.length ∧ kE fs own 0 = kE (fs.drop x.1) (own.drop x.1) x.2) (fun x => ⟨91, [(12, I x.1), (11, I x.2), (2, ints own), (8, ints fs), (9, ints cs), (3, .ptr 0 0), (6, .ptr 1 0)], [some (.var 24 [S e, ints ds, ints xs]), some (.var 24 [S ⟨#[]⟩, .nils, .nils])]⟩) (fun x => own.length - x.1) (0, 0) ⟨Nat.zero_le _, rfl⟩ (by simp only [slot_is, aev, cv, cvc, Weak, ↓reduceIte, Bool.and_true, Bool.and_self, and_true, and_self, reduceCtorEq, Nat.reduceEqDiff]; simp) rfl rfl ?_
  rintro ⟨k, n⟩ ⟨hk, hi⟩ K hK
  simp only at hk hi hK
  simp only [awp_reg, awp_seq, awp_cond, seqQ_n, awpOps_nil, awpOps_one, awpOp_is, putK_is, put_s, slot_is, pureOp, apureO, aev, cv, cvc, binK, elO_s, lenA, lenK, ↓reduceIte, Bool.true_and, true_and, Nat.reduceEqDiff, Option.isSome_some, Ty.td22, List.length_map]
  refine condA_dec (fun hlt => ?_) (fun hge => ?_)
  · have g1 : k < fs.length := by omega
    have g2 : k < own.length := by omega
    have hy : fs[k]? = some fs[k] := List.getElem?_eq_getElem g1
    have hz : own[k]? = some own[k] := List.getElem?_eq_getElem g2
    rw [kE_step g1 g2] at hi
    generalize fs[k] = f at *
    generalize own[k] = o at *
    by_cases h1 : o < 0
    · rw [if_pos (Or.inl h1)] at hi
      simp only [awp_skip, awp_reg, awp_regD, awp_seq, awp_cond, awp_block, awp_ret, seqQ_n, seqQ_r, loopQ_r, blkQ_r, awpOps_nil, awpOps_one, awpOpsD_nil, awpOpsD_one, awpOpsD_if, awpOp_is, isCallV, awpOpD_is, putK_is, updK_is, put_s, upd_n, slot_is, slot.eq_1, retA_is, keepOp, pureOp, apureO, astepO, killT, aev, cv, cvc, binK, elO_s, loadA_d, loadA_p, storeA, cellsA, cellOk, setAll, fillA, placeT, placesA, yieldA, guardA_ft, condA_t, pickA_t, toD_c, toD_nils, toD_tup, toD_agg, consO_some, toDL_nil, toDL_cons, notExit, resA_nil, resA_tmp, resA_cell, oneA_2, Int.natCast_nonneg, Bool.false_eq_true, ↓reduceIte, List.getElem?_cons_zero, List.getElem?_cons_succ, List.length_cons, List.length_nil, List.map_cons, List.map_nil, List.set_cons_zero, List.set_cons_succ, List.getElem?_toArray, Option.bind_some, Option.map_some, List.take_succ_cons, List.drop_zero, List.all_cons, List.all_nil, Bool.and_true, Bool.true_and, Bool.and_self, Value.oneCell', true_and, and_true, and_self, ne_eq, not_false_eq_true, reduceCtorEq, Nat.reduceAdd, Nat.reduceEqDiff, Nat.zero_add, Int.toNat_natCast, decide_true, Nat.le_refl, List.take_nil, Ty.td3, Ty.td9, Ty.td22, Ty.td24, List.getElem?_map, hy, hz, h1, hi, resT]
    by_cases h2 : f ≤ o
    · rw [if_pos (Or.inr h2)] at hi
      simp only [awp_skip, awp_reg, awp_regD, awp_seq, awp_cond, awp_block, awp_ret, seqQ_n, seqQ_r, loopQ_r, blkQ_r, awpOps_nil, awpOps_one, awpOpsD_nil, awpOpsD_one, awpOpsD_if, awpOp_is, isCallV, awpOpD_is, awpOD_is, putK_is, updK_is, put_s, upd_n, slot_is, slot.eq_1, retA_is, keepOp, pureOp, apureO, astepO, killT, aev, cv, cvc, binK, elO_s, loadA_d, loadA_p, storeA, cellsA, cellOk, setAll, fillA, placeT, placesA, yieldA, guardA_ff, condA_t, pickA_f, toD_c, toD_nils, toD_tup, toD_agg, consO_some, toDL_nil, toDL_cons, notExit, resA_nil, resA_tmp, resA_cell, oneA_2, Int.natCast_nonneg, Bool.false_eq_true, ↓reduceIte, List.getElem?_cons_zero, List.getElem?_cons_succ, List.length_cons, List.length_nil, List.map_cons, List.map_nil, List.set_cons_zero, List.set_cons_succ, List.getElem?_toArray, Option.bind_some, Option.map_some, List.take_succ_cons, List.drop_zero, List.all_cons, List.all_nil, Bool.and_true, Bool.true_and, Bool.and_self, Value.oneCell', true_and, and_true, and_self, ne_eq, not_false_eq_true, reduceCtorEq, Nat.reduceAdd, Nat.reduceEqDiff, Nat.zero_add, Int.toNat_natCast, decide_true, decide_false, Nat.le_refl, List.take_nil, Ty.td3, Ty.td9, Ty.td22, Ty.td24, List.getElem?_map, hy, hz, h1, h2, hi, resT]
    rw [if_neg (by omega)] at hi
    simp only [awp_skip, awp_reg, awp_regD, awp_seq, awp_cond, awp_block, seqQ_n, loopQ_n, blkQ_n, awpOps_nil, awpOps_one, awpOpsD_nil, awpOpsD_one, awpOpsD_if, awpOp_is, awpOpD_is, awpOD_is, putK_is, put_s, slot_is, keepOp, pureOp, apureO, aev, cv, cvc, binK, elO_s, loadA_d, yieldA, guardA_ff, condA_f, pickA_f, Int.natCast_nonneg, Bool.false_eq_true, ↓reduceIte, List.getElem?_cons_zero, List.getElem?_cons_succ, List.getElem?_toArray, Option.bind_some, Option.map_some, Bool.true_and, true_and, Nat.reduceEqDiff, Int.toNat_natCast, decide_false, Ty.td3, Ty.td22, List.getElem?_map, hy, hz, h1, h2, wrap_in (x := (k : Int) + 1) (by omega) (by omega)]
    refine hK (k + 1, IntKind.i64.wrap (IntKind.i64.wrap (n * f) + o)) _ ⟨g2, hi⟩ (by simp; omega) ?_ rfl rfl
    simp only [slot_is, aev, cv, cvc, Weak, ↓reduceIte, Bool.and_true, Bool.and_self, and_true, and_self, Nat.reduceEqDiff]
    simp
  · have hk' : k = own.length := by omega
    have hd0 : own.drop k = [] := by rw [hk', List.drop_length]
    rw [hd0, show kE (fs.drop k) [] n = some n from by cases fs.drop k <;> rfl] at hi
    obtain ⟨p', q1, q2, q3, q4⟩ := hsizes n hi
    simp only [Prod.mk.injEq] at q1
    obtain ⟨rfl, rfl⟩ := q1
    obtain ⟨A, a1, a2, a3, a4, a5⟩ := bounds q2 q3 (by omega) q4
    have a6 : (A + p).toNat - A.toNat = p.toNat := by omega
    have a7 : IntKind.i64.wrap (A + p) = A + p := wrap_in (by omega) (by omega)
    have hcl := hof A.toNat p rfl q2 (by omega)
    rw [hi, show resT e cs xs p (some n) = .tup [arr e cs ((xs.drop A.toNat).take p.toNat), I 0] from by simp only [resT, partE, a1]]
    simp only [awp_reg, awp_seq, awp_exit, seqQ_n, seqQ_e, loopQ_e, blkQ_e, awpOps_one, awpOp_is, isCallV, callW_is, callV_is, putK_is, put_s, slot_is, pureOp, apureO, aev, cv, cvc, Bool.false_eq_true, ↓reduceIte, List.map_cons, List.map_nil, List.append_nil, Nat.reduceEqDiff]
    refine call_meets (hsm) (by simp only [aev, cv, cvc, toD_sl, consO_some, toDL_nil, toDL_cons, a1, a6, a7, ← List.map_drop, ← List.map_take]) ?_; simp only [awp_skip, awp_reg, awp_regD, awp_seq, awp_cond, seqQ_n, awpOps_nil, awpOps_one, awpOpsD_one, awpOp_is, isCallV, awpOpD_is, callWD_is, callVD_is, putK_is, put_s, upd_s, slot_is, keepOp, pureOp, apureO, sliceA_sl, boundsA, killT, aev, cv, cvc, binK, elO_s, loadA_p, condA_f, flat_c, flat_tup, flatL_nil, flatL_cons, ownsV_sl, ownsL_nil, ownsL_cons, Bool.false_eq_true, ↓reduceIte, List.getElem?_cons_zero, List.getElem?_cons_succ, List.length_cons, List.length_nil, List.map_cons, List.map_nil, List.append_nil, Option.map_some, Option.map_none, Bool.true_and, Bool.and_self, Bool.or_true, true_and, and_self, ne_eq, not_false_eq_true, reduceCtorEq, Nat.reduceAdd, Nat.reduceEqDiff, Nat.zero_add, List.isEmpty_nil, Ty.td3, Ty.td9, Ty.td22, Ty.td24, bne_self_eq_false, a1, a6, a7, List.length_map, ← List.map_drop, ← List.map_take]
    refine ⟨by omega, by omega, by omega, ?_⟩
    refine calld_meets (hcl) (by simp only [aev, cv, cvc, toD_c, toD_sl, consO_some, toDL_nil, toDL_cons]) (by simp only [aev, cv, cvc, flat_c, flat_tup, flat_agg, flat_sl, flatL_nil, flatL_cons, ownsV_c, ownsV_sl, ownsL_nil, ownsL_cons, List.append_nil, Bool.and_true, Bool.and_false, Bool.and_self, Bool.or_true, and_true, and_self, List.isEmpty_nil]) ?_; simp only [awp_ret, seqQ_n, awpOps_nil, awpOps_one, awpOpsD_one, awpOp_is, isCallV, awpOpD_is, putK_is, updK_is, put_s, upd_n, slot_is, retA_is, keepOp, pureOp, apureO, astepO, killT, aev, cv, cvc, elO_s, loadA_p, storeA, cellsA, cellOk, setAll, toD_c, toD_tup, toD_agg, toD_sl, consO_some, toDL_nil, toDL_cons, notExit, resA_nil, resA_tmp, resA_cell, oneA_2, Bool.false_eq_true, ↓reduceIte, List.getElem?_cons_zero, List.getElem?_cons_succ, List.length_cons, List.length_nil, List.set_cons_zero, List.set_cons_succ, Option.map_some, List.take_succ_cons, List.drop_zero, Bool.and_true, Bool.true_and, Bool.and_self, true_and, and_true, and_self, Nat.reduceAdd, Nat.reduceEqDiff, Nat.zero_add, Nat.le_refl, List.take_nil, Ty.td24]
end

theorem cellE_ex (e : ByteArray) (ds xs : List Int) (r : Int) (own : List Int) (hd : ds.length ≤ 1000000) (hx : xs.length ≤ 1000000) : ∃ E D X k, cellE (e, ds, xs) r own = .tup [arr E D X, I k] ∧ D.length ≤ 1000000 ∧ X.length ≤ 1000000 := by
  have hok := @splitE_ok e ds xs r
  unfold cellE
  generalize splitE (e, ds, xs) r = s at *
  obtain ⟨⟨fs, cs⟩, er⟩ := s
  simp only at hok ⊢
  split
  · exact ⟨_, [], [], _, rfl, by simp, by simp⟩
  rename_i he
  split
  · exact ⟨_, [], [], _, rfl, by simp, by simp⟩
  have hc : cs.length ≤ 1000000 := by
    have : ds.length = fs.length + cs.length := by rw [(hok (by simpa using he)).2, List.length_append]
    omega
  cases kE fs own 0 with
  | none => exact ⟨_, [], [], _, rfl, by simp, by simp⟩
  | some n => exact ⟨e, cs, partE xs n (sizeE cs).1, 0, rfl, hc, by unfold partE; simp; omega⟩
end Go.Proofs.Ytoobaeebgnbpjaa.B10
