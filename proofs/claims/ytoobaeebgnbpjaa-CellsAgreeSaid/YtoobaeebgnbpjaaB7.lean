/- Cells: Check. -/
import Derived.Test.YtoobaeebgnbpjaaB6
namespace Go.Proofs.Ytoobaeebgnbpjaa.B7
open Go Go.Proofs.Ytoobaeebgnbpjaa.Eng Go.Proofs.Ytoobaeebgnbpjaa Go.RowKit Go.Proofs.Ytoobaeebgnbpjaa.A1 Go.Proofs.Ytoobaeebgnbpjaa.A2 Go.Proofs.Ytoobaeebgnbpjaa.A3 Go.Proofs.Ytoobaeebgnbpjaa.A4 Go.Proofs.Ytoobaeebgnbpjaa.A5 Go.Proofs.Ytoobaeebgnbpjaa.B1 Go.Proofs.Ytoobaeebgnbpjaa.B2 Go.Proofs.Ytoobaeebgnbpjaa.B5 Go.Proofs.Ytoobaeebgnbpjaa.B6
set_option linter.unusedSimpArgs false
set_option linter.unusedVariables false
set_option maxRecDepth 100000

abbrev lists (A : List (List Int)) : AV := .sl false 1 (A.map fun ax => [ints ax])

def chk1 (fr ax : List Int) (r : Int) (a : Ar) : Int :=
  if checkE a.1 a.2.1 a.2.2 ≠ 0 ∨ (pickE fr ax).2 = false then 1
  else if r < 0 ∨ (a.2.1.length : Int) ≠ IntKind.i64.wrap (r + (pickE fr ax).1.length) then 13
  else if a.2.1.take (pickE fr ax).1.length ≠ (pickE fr ax).1 then 14 else 0
def chkL (fr : List Int) : List (List Int) → List Int → List Ar → Int
  | ax :: A, r :: R, a :: l => if chk1 fr ax r a ≠ 0 then chk1 fr ax r a else chkL fr A R l
  | _, _, _ => 0
def checkAll (fr : List Int) (A : List (List Int)) (R : List Int) (l : List Ar) : Int :=
  if A.length ≠ l.length ∨ R.length ≠ l.length then 1 else if (sizeE fr).2 = 3 then 3 else if (sizeE fr).2 ≠ 0 then 1 else chkL fr A R l

theorem pickE_len (l ax : List Int) : (pickE l ax).1.length ≤ ax.length := by
  unfold pickE
  split <;> simp

theorem chkL_step {fr : List Int} {A : List (List Int)} {R : List Int} {l : List Ar} {k : Nat} (h1 : k < A.length) (h2 : k < R.length) (h3 : k < l.length) : chkL fr (A.drop k) (R.drop k) (l.drop k) = if chk1 fr A[k] R[k] l[k] ≠ 0 then chk1 fr A[k] R[k] l[k] else chkL fr (A.drop (k + 1)) (R.drop (k + 1)) (l.drop (k + 1)) := by
  rw [List.drop_eq_getElem_cons h1, List.drop_eq_getElem_cons h2, List.drop_eq_getElem_cons h3, chkL]

theorem checkE_dims {e : ByteArray} {ds xs : List Int} (h : checkE e ds xs = 0) : ds.length ≤ 6 := by
  unfold checkE at h
  split at h
  · cases h
  split at h
  · rename_i h1 h2
    exact absurd h h2
  · rename_i h1 h2
    unfold sizeE at h2
    split at h2
    · simp at h2
    · omega

theorem wrap_len {r : Int} {m d : Nat} (h0 : 0 ≤ r) (h1 : r ≤ 9223372036854775807) (hm : m ≤ 1000000) (h : (d : Int) = IntKind.i64.wrap (r + m)) : (d : Int) = r + m := by
  rw [IntKind.wrap_i64] at h
  omega

section
variable (fr : List Int) (A : List (List Int)) (R : List Int) (l : List Ar) (hf : fr.length ≤ 1000000) (hAm : ∀ a ∈ A, a.length ≤ 1000000) (hl : l.length ≤ 1000000) (hb : ∀ a ∈ l, a.2.1.length ≤ 1000000 ∧ a.2.2.length ≤ 1000000) (hq : ∀ r ∈ R, r ≤ 9223372036854775807)
include hf hAm hl hb hq

theorem check20 : Meets Try.prog 21 [ints fr, lists A, ints R, arrs l] (I (checkAll fr A R l)) := by
  have hs := size fr hf
  unfold checkAll
  refine meets_of (X := false) Ty.mixed Try.func21 (by kernel_rfl) rfl (by kernel_rfl) (by simp) ?_; rw [Try.ntmps21, Try.results21]
  generalize sizeE fr = s at *
  obtain ⟨n, er⟩ := s
  simp only at hs ⊢
  simp only [awp_reg, awp_seq, seqQ_n, awpOps_nil, awpOps_one, awpOp_is, isCallV, callW_is, callV_is, putK_is, put_s, slot_is, pureOp, apureO, aev, cv, cvc, argT, Bool.false_eq_true, ↓reduceIte, List.map_cons, List.map_nil, List.append_nil, ne_eq, reduceCtorEq, Nat.reduceAdd, Nat.zero_add]
  by_cases h1 : (A.length : Int) = l.length
  case neg =>
    rw [if_pos (by omega)]
    refine call_meets (hs) (by simp only [aev, cv, cvc, toD_sl, consO_some, toDL_nil, toDL_cons, show ((A.length : Int) != (l.length : Int)) = true by simpa using h1]) ?_; simp only [awp_reg, awp_seq, awp_cond, awp_block, awp_ret, seqQ_n, seqQ_r, blkQ_r, awpOps_nil, awpOps_one, awpOps_if, awpOp_is, putK_is, put_s, upd_s, slot_is, retA_is, pureOp, apureO, killT, aev, cv, cvc, binK, elO_s, lenA, lenK, yieldA, guardA_ft, condA_t, pickA_t, flat_c, flat_tup, flatL_nil, flatL_cons, ownsV_sl, ownsL_nil, ownsL_cons, toD_c, notExit, resA_nil, resA_tmp, oneA_1, ↓reduceIte, List.getElem?_cons_zero, List.getElem?_cons_succ, List.append_nil, List.getElem?_toArray, Option.bind_some, Bool.and_true, Bool.true_and, Bool.and_self, Bool.or_true, true_and, and_true, and_self, reduceCtorEq, Nat.reduceEqDiff, List.isEmpty_nil, Option.isSome_some, Ty.td27, Ty.td40, List.length_map, show ((A.length : Int) != (l.length : Int)) = true by simpa using h1]
  by_cases h2 : (R.length : Int) = l.length
  case neg =>
    rw [if_pos (by omega)]
    refine call_meets (hs) (by simp only [aev, cv, cvc, toD_sl, consO_some, toDL_nil, toDL_cons, show ((A.length : Int) != (l.length : Int)) = false by simpa using h1, show ((R.length : Int) != (l.length : Int)) = true by simpa using h2]) ?_; simp only [awp_reg, awp_seq, awp_cond, awp_block, awp_ret, seqQ_n, seqQ_r, blkQ_r, awpOps_nil, awpOps_one, awpOps_if, awpOp_is, awpO_is, putK_is, put_s, upd_s, slot_is, retA_is, pureOp, apureO, killT, aev, cv, cvc, binK, elO_s, lenA, lenK, yieldA, guardA_ff, condA_t, pickA_f, flat_c, flat_tup, flatL_nil, flatL_cons, ownsV_sl, ownsL_nil, ownsL_cons, toD_c, notExit, resA_nil, resA_tmp, oneA_1, ↓reduceIte, List.getElem?_cons_zero, List.getElem?_cons_succ, List.append_nil, List.getElem?_toArray, Option.bind_some, Bool.and_true, Bool.true_and, Bool.and_self, Bool.or_true, true_and, and_true, and_self, reduceCtorEq, Nat.reduceEqDiff, List.isEmpty_nil, Option.isSome_some, Ty.td22, Ty.td27, Ty.td40, List.length_map, show ((A.length : Int) != (l.length : Int)) = false by simpa using h1, show ((R.length : Int) != (l.length : Int)) = true by simpa using h2]
  rw [if_neg (by omega)]
  have h1' : ((A.length : Int) != (l.length : Int)) = false := by simpa using h1
  have h2' : ((R.length : Int) != (l.length : Int)) = false := by simpa using h2
  by_cases h3 : er = 3
  · rw [if_pos h3]
    refine call_meets (hs) (by simp only [aev, cv, cvc, toD_sl, consO_some, toDL_nil, toDL_cons, h1', h2', show (er == 3) = true by simpa using h3]) ?_; simp only [awp_reg, awp_seq, awp_cond, awp_block, awp_ret, seqQ_n, seqQ_r, blkQ_r, awpOps_nil, awpOps_one, awpOps_if, awpOp_is, awpO_is, putK_is, put_s, upd_s, slot_is, retA_is, pureOp, apureO, killT, aev, cv, cvc, binK, elO_s, lenA, lenK, yieldA, guardA_ff, condA_t, condA_f, pickA_f, flat_c, flat_tup, flatL_nil, flatL_cons, ownsV_sl, ownsL_nil, ownsL_cons, toD_c, notExit, resA_nil, resA_tmp, oneA_1, ↓reduceIte, List.getElem?_cons_zero, List.getElem?_cons_succ, List.append_nil, List.getElem?_toArray, Option.bind_some, Bool.and_true, Bool.true_and, Bool.and_self, Bool.or_true, true_and, and_true, and_self, reduceCtorEq, Nat.reduceEqDiff, List.isEmpty_nil, Option.isSome_some, Ty.td22, Ty.td27, Ty.td40, List.length_map, h1', h2', show (er == 3) = true by simpa using h3]
  rw [if_neg h3]
  have h3' : (er == 3) = false := by simpa using h3
  by_cases h4 : er = 0
  case neg =>
    rw [if_pos h4]
    refine call_meets (hs) (by simp only [aev, cv, cvc, toD_sl, consO_some, toDL_nil, toDL_cons, h1', h2', h3', show (er != 0) = true by simpa using h4]) ?_; simp only [awp_reg, awp_seq, awp_cond, awp_block, awp_ret, seqQ_n, seqQ_r, blkQ_r, awpOps_nil, awpOps_one, awpOps_if, awpOp_is, awpO_is, putK_is, put_s, upd_s, slot_is, retA_is, pureOp, apureO, killT, aev, cv, cvc, binK, elO_s, lenA, lenK, yieldA, guardA_ff, condA_t, condA_f, pickA_f, flat_c, flat_tup, flatL_nil, flatL_cons, ownsV_sl, ownsL_nil, ownsL_cons, toD_c, notExit, resA_nil, resA_tmp, oneA_1, ↓reduceIte, List.getElem?_cons_zero, List.getElem?_cons_succ, List.append_nil, List.getElem?_toArray, Option.bind_some, Bool.and_true, Bool.true_and, Bool.and_self, Bool.or_true, true_and, and_true, and_self, reduceCtorEq, Nat.reduceEqDiff, List.isEmpty_nil, Option.isSome_some, Ty.td22, Ty.td27, Ty.td40, List.length_map, h1', h2', h3', show (er != 0) = true by simpa using h4]
  rw [if_neg (by simpa using h4)]
  refine call_meets (hs) (by simp only [aev, cv, cvc, toD_sl, consO_some, toDL_nil, toDL_cons, h1', h2', h3', show (er != 0) = false by simpa using h4]) ?_; simp only [awp_skip, awp_reg, awp_seq, awp_cond, awp_block, awp_loop, seqQ_n, blkQ_n, awpOps_nil, awpOps_one, awpOps_if, awpOp_is, awpO_is, putK_is, put_s, upd_s, slot_is, pureOp, apureO, killT, aev, cv, cvc, binK, elO_s, lenA, lenK, yieldA, guardA_ff, condA_f, pickA_f, flat_c, flat_tup, flatL_nil, flatL_cons, ownsV_sl, ownsL_nil, ownsL_cons, ↓reduceIte, List.getElem?_cons_zero, List.getElem?_cons_succ, List.append_nil, List.getElem?_toArray, Option.bind_some, Bool.true_and, Bool.and_self, Bool.or_true, true_and, and_self, reduceCtorEq, Nat.reduceEqDiff, List.isEmpty_nil, Option.isSome_some, Ty.td22, Ty.td27, Ty.td40, List.length_map, h1', h2', h3', show (er != 0) = false by simpa using h4]
  refine loop_g (fun k : Nat => k ≤ l.length ∧ chkL fr A R l = chkL fr (A.drop k) (R.drop k) (l.drop k)) (fun k => ⟨92, [(41, I k), (40, I l.length), (39, arrs l), (0, ints fr), (1, lists A), (2, ints R), (3, arrs l)], []⟩) (fun k => l.length - k) 0 ⟨Nat.zero_le _, rfl⟩ (by simp only [slot_is, aev, cv, cvc, Weak, ↓reduceIte, Bool.and_true, Bool.and_self, and_true, and_self, reduceCtorEq, Nat.reduceEqDiff]; simp) rfl (.inl rfl) ?_
  rintro k ⟨hk, hi⟩ K hK
  simp only at hK
  simp only [awp_reg, awp_seq, awp_cond, seqQ_n, awpOps_nil, awpOps_one, awpOp_is, putK_is, put_s, slot_is, pureOp, apureO, aev, cv, cvc, binK, ↓reduceIte, Bool.true_and, true_and, Nat.reduceEqDiff]
  refine condA_dec (fun hlt => ?_) (fun hge => ?_)
  · have g1 : k < A.length := by omega
    have g2 : k < R.length := by omega
    have g3 : k < l.length := by omega
    have hx : A[k]? = some A[k] := List.getElem?_eq_getElem g1
    have hy : R[k]? = some R[k] := List.getElem?_eq_getElem g2
    have hz : l[k]? = some l[k] := List.getElem?_eq_getElem g3
    rw [chkL_step g1 g2 g3] at hi
    have b1 := hb l[k] (List.getElem_mem _)
    have b2 := hq R[k] (List.getElem_mem _)
    have b3 := hAm A[k] (List.getElem_mem _)
    generalize A[k] = ax at *
    generalize R[k] = r at *
    generalize l[k] = a at *
    obtain ⟨e, ds, xs⟩ := a
    simp only at b1
    have hp := pick fr ax hf b3
    have hpl := pickE_len fr ax
    have hv := isValid e ds xs b1.1 b1.2
    obtain ⟨c1, hc1⟩ : ∃ c1, chk1 fr ax r (e, ds, xs) = c1 := ⟨_, rfl⟩
    rw [hc1] at hi
    unfold chk1 at hc1
    generalize pickE fr ax = p at *
    obtain ⟨own, okb⟩ := p
    simp only at hc1 hpl
    generalize checkE e ds xs = c at *
    simp only [awp_skip, awp_reg, awp_seq, awp_block, seqQ_n, awpOps_nil, awpOps_one, awpOp_is, isCallV, callW_is, callV_is, putK_is, updK_is, put_s, upd_n, upd_s, slot_is, pureOp, apureO, astepO, killT, aev, cv, cvc, elO_s, loadA_d, storeA, cellsA, cellOk, setAll, Int.natCast_nonneg, Bool.false_eq_true, ↓reduceIte, List.getElem?_cons_zero, List.length_cons, List.length_nil, List.map_cons, List.map_nil, List.nil_append, List.append_nil, List.set_cons_zero, List.set_cons_succ, Option.map_some, List.take_succ_cons, List.all_cons, List.all_nil, Bool.true_and, Bool.and_self, Value.oneCell', true_and, and_self, reduceCtorEq, Nat.reduceAdd, Nat.reduceEqDiff, Nat.zero_add, Int.toNat_natCast, Nat.le_refl, List.take_nil, Ty.td22, Ty.td24, Ty.td27, Ty.td40, List.getElem?_map, hx, hz]
    by_cases hc : c = 0
    case neg =>
      rw [if_pos (Or.inl hc)] at hc1
      rw [show (c == 0) = false by simpa using hc] at hv
      refine call_meets (hp) (by simp only [aev, cv, cvc, toD_sl, consO_some, toDL_nil, toDL_cons]) ?_; simp only [awp_reg, awp_seq, awp_block, seqQ_n, awpOps_nil, awpOps_one, awpOp_is, isCallV, callW_is, callV_is, putK_is, put_s, upd_s, slot_is, pureOp, apureO, killT, aev, cv, cvc, elO_s, loadA_p, flat_c, flat_tup, flat_sl, flatL_nil, flatL_cons, ownsV_sl, ownsL_nil, ownsL_cons, Bool.false_eq_true, ↓reduceIte, List.getElem?_cons_zero, List.getElem?_cons_succ, List.length_cons, List.length_nil, List.map_cons, List.map_nil, List.append_nil, List.take_succ_cons, List.drop_zero, Bool.and_true, Bool.true_and, Bool.and_self, Bool.or_true, true_and, and_true, and_self, Nat.reduceAdd, Nat.reduceEqDiff, Nat.zero_add, List.isEmpty_nil, Nat.le_refl, List.take_nil, Ty.td24]
      subst hc1
      refine call_meets (hv) (by simp only [aev, cv, cvc, toD_c, toD_agg, toD_sl, consO_some, toDL_nil, toDL_cons, Option.map_some, hi, show ((1 : Int) ≠ 0) = True by simp]) ?_; simp only [awp_reg, awp_seq, awp_cond, awp_ret, seqQ_n, seqQ_r, loopQ_r, blkQ_r, awpOps_nil, awpOps_one, awpOps_if, awpOp_is, putK_is, put_s, upd_s, slot_is, retA_is, pureOp, apureO, killT, aev, cv, cvc, yieldA, guardA_ft, condA_t, pickA_t, flat_c, ownsV_c, ownsV_agg, ownsV_sl, ownsL_nil, ownsL_cons, toD_c, notExit, resA_nil, resA_tmp, oneA_1, ↓reduceIte, List.getElem?_cons_zero, List.getElem?_cons_succ, List.append_nil, List.getElem?_toArray, Option.bind_some, Bool.and_self, Bool.or_true, Bool.not_false, and_self, Nat.reduceEqDiff, List.isEmpty_nil, hi, show ((1 : Int) ≠ 0) = True by simp]
    subst hc
    rw [beq_self_eq_true] at hv
    cases okb with
    | false =>
      rw [if_pos (Or.inr rfl)] at hc1
      refine call_meets (hp) (by simp only [aev, cv, cvc, toD_sl, consO_some, toDL_nil, toDL_cons]) ?_; simp only [awp_reg, awp_seq, awp_block, seqQ_n, awpOps_nil, awpOps_one, awpOp_is, isCallV, callW_is, callV_is, putK_is, put_s, upd_s, slot_is, pureOp, apureO, killT, aev, cv, cvc, elO_s, loadA_p, flat_c, flat_tup, flat_sl, flatL_nil, flatL_cons, ownsV_sl, ownsL_nil, ownsL_cons, Bool.false_eq_true, ↓reduceIte, List.getElem?_cons_zero, List.getElem?_cons_succ, List.length_cons, List.length_nil, List.map_cons, List.map_nil, List.append_nil, List.take_succ_cons, List.drop_zero, Bool.and_true, Bool.true_and, Bool.and_self, Bool.or_true, true_and, and_true, and_self, Nat.reduceAdd, Nat.reduceEqDiff, Nat.zero_add, List.isEmpty_nil, Nat.le_refl, List.take_nil, Ty.td24]
      subst hc1
      refine call_meets (hv) (by simp only [aev, cv, cvc, toD_c, toD_agg, toD_sl, consO_some, toDL_nil, toDL_cons, Option.map_some, hi, show ((1 : Int) ≠ 0) = True by simp]) ?_; simp only [awp_reg, awp_seq, awp_cond, awp_ret, seqQ_n, seqQ_r, loopQ_r, blkQ_r, awpOps_nil, awpOps_one, awpOps_if, awpOp_is, awpO_is, putK_is, put_s, upd_s, slot_is, retA_is, pureOp, apureO, killT, aev, cv, cvc, yieldA, guardA_ff, condA_t, pickA_f, flat_c, ownsV_c, ownsV_agg, ownsV_sl, ownsL_nil, ownsL_cons, toD_c, notExit, resA_nil, resA_tmp, oneA_1, ↓reduceIte, List.getElem?_cons_zero, List.getElem?_cons_succ, List.append_nil, List.getElem?_toArray, Option.bind_some, Bool.and_self, Bool.or_true, Bool.not_true, Bool.not_false, and_self, Nat.reduceEqDiff, List.isEmpty_nil, hi, show ((1 : Int) ≠ 0) = True by simp]
    | true =>
    rw [if_neg (by simp)] at hc1
    by_cases h5 : r < 0
    · rw [if_pos (Or.inl h5)] at hc1
      refine call_meets (hp) (by simp only [aev, cv, cvc, toD_sl, consO_some, toDL_nil, toDL_cons]) ?_; simp only [awp_reg, awp_seq, awp_block, seqQ_n, awpOps_nil, awpOps_one, awpOp_is, isCallV, callW_is, callV_is, putK_is, put_s, upd_s, slot_is, pureOp, apureO, killT, aev, cv, cvc, elO_s, loadA_p, flat_c, flat_tup, flat_sl, flatL_nil, flatL_cons, ownsV_sl, ownsL_nil, ownsL_cons, Bool.false_eq_true, ↓reduceIte, List.getElem?_cons_zero, List.getElem?_cons_succ, List.length_cons, List.length_nil, List.map_cons, List.map_nil, List.append_nil, List.take_succ_cons, List.drop_zero, Bool.and_true, Bool.true_and, Bool.and_self, Bool.or_true, true_and, and_true, and_self, Nat.reduceAdd, Nat.reduceEqDiff, Nat.zero_add, List.isEmpty_nil, Nat.le_refl, List.take_nil, Ty.td24]
      subst hc1
      refine call_meets (hv) (by simp only [aev, cv, cvc, toD_c, toD_agg, toD_sl, consO_some, toDL_nil, toDL_cons, Option.map_some, hy, h5, hi, show ((13 : Int) ≠ 0) = True by simp]) ?_; simp only [awp_reg, awp_regD, awp_seq, awp_cond, awp_ret, seqQ_n, seqQ_r, loopQ_r, blkQ_r, awpOps_nil, awpOps_one, awpOps_if, awpOpsD_nil, awpOpsD_one, awpOpsD_if, awpOp_is, awpOpD_is, awpO_is, lastOnly_nil, lastOnly_cons, putK_is, put_s, upd_s, slot_is, retA_is, keepOp, pureOp, apureO, killT, aev, cv, cvc, binK, elO_s, loadA_d, yieldA, guardA_ft, guardA_ff, condA_t, condA_f, pickA_t, pickA_f, flat_c, ownsV_c, ownsV_agg, ownsV_sl, ownsL_nil, ownsL_cons, toD_c, notExit, resA_nil, resA_tmp, oneA_1, Int.natCast_nonneg, Bool.false_eq_true, ↓reduceIte, List.getElem?_cons_zero, List.getElem?_cons_succ, List.append_nil, List.getElem?_toArray, Option.bind_some, Option.map_some, Bool.and_true, Bool.true_and, Bool.and_self, Bool.or_true, Bool.not_true, true_and, and_true, and_self, reduceCtorEq, Nat.reduceEqDiff, List.isEmpty_nil, Int.toNat_natCast, decide_true, Ty.td3, Ty.td22, List.getElem?_map, hy, h5, hi, show ((13 : Int) ≠ 0) = True by simp]
    by_cases h6 : (ds.length : Int) = IntKind.i64.wrap (r + own.length)
    case neg =>
      rw [if_pos (Or.inr h6)] at hc1
      refine call_meets (hp) (by simp only [aev, cv, cvc, toD_sl, consO_some, toDL_nil, toDL_cons]) ?_; simp only [awp_reg, awp_seq, awp_block, seqQ_n, awpOps_nil, awpOps_one, awpOp_is, isCallV, callW_is, callV_is, putK_is, put_s, upd_s, slot_is, pureOp, apureO, killT, aev, cv, cvc, elO_s, loadA_p, flat_c, flat_tup, flat_sl, flatL_nil, flatL_cons, ownsV_sl, ownsL_nil, ownsL_cons, Bool.false_eq_true, ↓reduceIte, List.getElem?_cons_zero, List.getElem?_cons_succ, List.length_cons, List.length_nil, List.map_cons, List.map_nil, List.append_nil, List.take_succ_cons, List.drop_zero, Bool.and_true, Bool.true_and, Bool.and_self, Bool.or_true, true_and, and_true, and_self, Nat.reduceAdd, Nat.reduceEqDiff, Nat.zero_add, List.isEmpty_nil, Nat.le_refl, List.take_nil, Ty.td24]
      subst hc1
      refine call_meets (hv) (by simp only [aev, cv, cvc, toD_c, toD_agg, toD_sl, consO_some, toDL_nil, toDL_cons, Option.map_some, hy, h5, show ((ds.length : Int) != IntKind.i64.wrap (r + own.length)) = true by simpa using h6, hi, show ((13 : Int) ≠ 0) = True by simp]) ?_; simp only [awp_reg, awp_regD, awp_seq, awp_cond, awp_ret, seqQ_n, seqQ_r, loopQ_r, blkQ_r, awpOps_nil, awpOps_one, awpOps_if, awpOpsD_nil, awpOpsD_one, awpOpsD_if, awpOp_is, awpOpD_is, awpO_is, awpOD_is, lastOnly_nil, lastOnly_cons, putK_is, put_s, upd_s, slot_is, retA_is, keepOp, pureOp, apureO, killT, aev, cv, cvc, binK, elO_s, elO_none, lenA, lenK, loadA_d, loadA_p, yieldA, guardA_ff, condA_t, condA_f, pickA_f, flat_c, ownsV_c, ownsV_agg, ownsV_sl, ownsL_nil, ownsL_cons, toD_c, notExit, resA_nil, resA_tmp, oneA_1, Int.natCast_nonneg, Bool.false_eq_true, ↓reduceIte, List.getElem?_cons_zero, List.getElem?_cons_succ, List.length_cons, List.length_nil, List.append_nil, List.getElem?_toArray, Option.bind_some, Option.map_some, Bool.and_true, Bool.true_and, Bool.and_self, Bool.or_true, Bool.not_true, true_and, and_true, and_self, ne_eq, not_false_eq_true, reduceCtorEq, Nat.reduceAdd, Nat.reduceEqDiff, Nat.zero_add, List.isEmpty_nil, Int.toNat_natCast, Option.isSome_some, decide_false, Ty.td3, Ty.td22, Ty.td24, List.getElem?_map, List.length_map, hy, h5, show ((ds.length : Int) != IntKind.i64.wrap (r + own.length)) = true by simpa using h6, hi, show ((13 : Int) ≠ 0) = True by simp]
    rw [if_neg (by simp only [not_or]; exact ⟨h5, by simpa using h6⟩)] at hc1
    have h6' : ((ds.length : Int) != IntKind.i64.wrap (r + own.length)) = false := by simpa using h6
    have h7 := wrap_len (by omega) b2 (by omega) h6
    have hsE := slEqual (ds.take own.length) own (by simp; omega) (by omega)
    by_cases h8 : ds.take own.length = own
    case neg =>
      rw [if_pos h8] at hc1
      rw [show (ds.take own.length == own) = false by simpa using h8] at hsE
      refine call_meets (hp) (by simp only [aev, cv, cvc, toD_sl, consO_some, toDL_nil, toDL_cons]) ?_; simp only [awp_reg, awp_seq, awp_block, seqQ_n, awpOps_nil, awpOps_one, awpOp_is, isCallV, callW_is, callV_is, putK_is, put_s, upd_s, slot_is, pureOp, apureO, killT, aev, cv, cvc, elO_s, loadA_p, flat_c, flat_tup, flat_sl, flatL_nil, flatL_cons, ownsV_sl, ownsL_nil, ownsL_cons, Bool.false_eq_true, ↓reduceIte, List.getElem?_cons_zero, List.getElem?_cons_succ, List.length_cons, List.length_nil, List.map_cons, List.map_nil, List.append_nil, List.take_succ_cons, List.drop_zero, Bool.and_true, Bool.true_and, Bool.and_self, Bool.or_true, true_and, and_true, and_self, Nat.reduceAdd, Nat.reduceEqDiff, Nat.zero_add, List.isEmpty_nil, Nat.le_refl, List.take_nil, Ty.td24]
      refine call_meets (hv) (by simp only [aev, cv, cvc, toD_c, toD_agg, toD_sl, consO_some, toDL_nil, toDL_cons, Option.map_some, hy, h5, h6', ← List.map_take]) ?_; simp only [awp_reg, awp_regD, awp_seq, awp_cond, seqQ_n, awpOps_nil, awpOps_one, awpOps_if, awpOpsD_nil, awpOpsD_one, awpOpsD_if, awpOp_is, isCallV, callW_is, callV_is, awpOpD_is, awpO_is, awpOD_is, lastOnly_nil, lastOnly_cons, putK_is, put_s, upd_s, slot_is, keepOp, pureOp, apureO, sliceA_sl, boundsA, killT, aev, cv, cvc, binK, elO_s, elO_none, lenA, lenK, loadA_d, loadA_p, yieldA, guardA_ff, condA_f, pickA_f, flat_c, ownsV_c, ownsV_agg, ownsV_sl, ownsL_nil, ownsL_cons, Int.natCast_nonneg, Bool.false_eq_true, ↓reduceIte, List.getElem?_cons_zero, List.getElem?_cons_succ, List.length_cons, List.length_nil, List.map_cons, List.map_nil, List.append_nil, List.getElem?_toArray, Option.bind_some, Option.map_some, Option.map_none, List.drop_zero, Bool.true_and, Bool.or_true, Bool.not_true, true_and, ne_eq, not_false_eq_true, reduceCtorEq, Nat.reduceAdd, Nat.reduceEqDiff, Nat.zero_add, Nat.sub_zero, List.isEmpty_nil, Int.toNat_natCast, Option.isSome_some, decide_false, Ty.td3, Ty.td22, Ty.td24, List.getElem?_map, List.length_map, hy, h5, h6', ← List.map_take]
      refine ⟨by omega, ?_⟩
      subst hc1
      refine call_meets (hsE) (by simp only [aev, cv, cvc, toD_sl, consO_some, toDL_nil, toDL_cons, hi, show ((14 : Int) ≠ 0) = True by simp]) ?_; simp only [awp_reg, awp_seq, awp_cond, awp_ret, seqQ_n, seqQ_r, loopQ_r, blkQ_r, awpOps_nil, awpOps_one, awpOp_is, putK_is, put_s, upd_s, slot_is, retA_is, pureOp, apureO, killT, aev, cv, cvc, condA_t, flat_c, ownsV_sl, ownsL_nil, ownsL_cons, toD_c, notExit, resA_nil, resA_tmp, oneA_1, ↓reduceIte, List.append_nil, Bool.and_self, Bool.or_true, Bool.not_false, and_self, List.isEmpty_nil, hi, show ((14 : Int) ≠ 0) = True by simp]
    rw [if_neg (by simpa using h8)] at hc1
    rw [show (ds.take own.length == own) = true by simpa using h8] at hsE
    refine call_meets (hp) (by simp only [aev, cv, cvc, toD_sl, consO_some, toDL_nil, toDL_cons]) ?_; simp only [awp_reg, awp_seq, awp_block, seqQ_n, awpOps_nil, awpOps_one, awpOp_is, isCallV, callW_is, callV_is, putK_is, put_s, upd_s, slot_is, pureOp, apureO, killT, aev, cv, cvc, elO_s, loadA_p, flat_c, flat_tup, flat_sl, flatL_nil, flatL_cons, ownsV_sl, ownsL_nil, ownsL_cons, Bool.false_eq_true, ↓reduceIte, List.getElem?_cons_zero, List.getElem?_cons_succ, List.length_cons, List.length_nil, List.map_cons, List.map_nil, List.append_nil, List.take_succ_cons, List.drop_zero, Bool.and_true, Bool.true_and, Bool.and_self, Bool.or_true, true_and, and_true, and_self, Nat.reduceAdd, Nat.reduceEqDiff, Nat.zero_add, List.isEmpty_nil, Nat.le_refl, List.take_nil, Ty.td24]
    refine call_meets (hv) (by simp only [aev, cv, cvc, toD_c, toD_agg, toD_sl, consO_some, toDL_nil, toDL_cons, Option.map_some, hy, h5, h6', ← List.map_take]) ?_; simp only [awp_reg, awp_regD, awp_seq, awp_cond, seqQ_n, awpOps_nil, awpOps_one, awpOps_if, awpOpsD_nil, awpOpsD_one, awpOpsD_if, awpOp_is, isCallV, callW_is, callV_is, awpOpD_is, awpO_is, awpOD_is, lastOnly_nil, lastOnly_cons, putK_is, put_s, upd_s, slot_is, keepOp, pureOp, apureO, sliceA_sl, boundsA, killT, aev, cv, cvc, binK, elO_s, elO_none, lenA, lenK, loadA_d, loadA_p, yieldA, guardA_ff, condA_f, pickA_f, flat_c, ownsV_c, ownsV_agg, ownsV_sl, ownsL_nil, ownsL_cons, Int.natCast_nonneg, Bool.false_eq_true, ↓reduceIte, List.getElem?_cons_zero, List.getElem?_cons_succ, List.length_cons, List.length_nil, List.map_cons, List.map_nil, List.append_nil, List.getElem?_toArray, Option.bind_some, Option.map_some, Option.map_none, List.drop_zero, Bool.true_and, Bool.or_true, Bool.not_true, true_and, ne_eq, not_false_eq_true, reduceCtorEq, Nat.reduceAdd, Nat.reduceEqDiff, Nat.zero_add, Nat.sub_zero, List.isEmpty_nil, Int.toNat_natCast, Option.isSome_some, decide_false, Ty.td3, Ty.td22, Ty.td24, List.getElem?_map, List.length_map, hy, h5, h6', ← List.map_take]
    refine ⟨by omega, ?_⟩
    subst hc1
    refine call_meets (hsE) (by simp only [aev, cv, cvc, toD_sl, consO_some, toDL_nil, toDL_cons, wrap_in (x := (k : Int) + 1) (by omega) (by omega)]) ?_; simp only [awp_skip, awp_reg, awp_cond, seqQ_n, loopQ_n, blkQ_n, awpOps_nil, awpOps_one, awpOp_is, putK_is, put_s, upd_s, slot_is, pureOp, apureO, killT, aev, cv, cvc, binK, condA_f, flat_c, ownsV_sl, ownsL_nil, ownsL_cons, ↓reduceIte, List.append_nil, Bool.true_and, Bool.or_true, Bool.not_true, true_and, Nat.reduceEqDiff, List.isEmpty_nil, wrap_in (x := (k : Int) + 1) (by omega) (by omega)]
    refine hK (k + 1) _ ⟨g3, by simpa using hi⟩ (by omega) ?_ rfl (.trim rfl rfl rfl)
    simp only [slot_is, aev, cv, cvc, Weak, ↓reduceIte, Bool.and_true, Bool.and_self, and_true, and_self, reduceCtorEq, Nat.reduceEqDiff]
    simp
  · have hk' : k = l.length := by omega
    have hd : l.drop k = [] := by rw [hk', List.drop_length]
    rw [hd, show chkL fr (A.drop k) (R.drop k) [] = 0 from by unfold chkL; split <;> first | rfl | (rename_i h; cases h)] at hi
    simp only [awp_reg, awp_seq, awp_exit, awp_ret, seqQ_n, seqQ_e, loopQ_e, blkQ_e, awpOps_nil, awpOps_one, awpOp_is, putK_is, put_s, slot_is, retA_is, pureOp, apureO, aev, cv, cvc, toD_c, notExit, resA_nil, resA_tmp, oneA_1, ↓reduceIte, Bool.and_self, and_self, hi]

theorem refCheck20 : Meets Try.prog 22 [ints fr, lists A, ints R, arrs l] (I (checkAll fr A R l)) := by
  have hs := refSize fr hf
  unfold checkAll
  refine meets_of (X := false) Ty.mixed Try.func22 (by kernel_rfl) rfl (by kernel_rfl) (by simp) ?_; rw [Try.ntmps22, Try.results22]
  generalize sizeE fr = s at *
  obtain ⟨n, er⟩ := s
  simp only at hs ⊢
  simp only [awp_reg, awp_seq, seqQ_n, awpOps_nil, awpOps_one, awpOp_is, isCallV, callW_is, callV_is, putK_is, put_s, slot_is, pureOp, apureO, aev, cv, cvc, argT, Bool.false_eq_true, ↓reduceIte, List.map_cons, List.map_nil, List.append_nil, ne_eq, reduceCtorEq, Nat.reduceAdd, Nat.zero_add]
  by_cases h4 : er = 0
  case neg =>
    have h4' : (er != 0) = true := by simpa using h4
    by_cases h3 : er = 3
    case neg =>
      have h3' : (er != 3) = true := by simpa using h3
      have e1 : (if A.length ≠ l.length ∨ R.length ≠ l.length then (1 : Int) else if er = 3 then 3 else if er ≠ 0 then 1 else chkL fr A R l) = 1 := by
        rw [if_neg h3, if_pos h4]; split <;> rfl
      rw [e1]
      refine call_meets (hs) (by simp only [aev, cv, cvc, toD_sl, consO_some, toDL_nil, toDL_cons, h4', h3']) ?_; simp only [awp_reg, awp_seq, awp_cond, awp_ret, seqQ_n, seqQ_r, awpOps_nil, awpOps_one, awpOps_if, awpOp_is, awpO_is, putK_is, put_s, upd_s, slot_is, retA_is, pureOp, apureO, killT, aev, cv, cvc, binK, elO_s, yieldA, guardA_tt, guardA_ft, condA_t, pickA_t, flat_c, flat_tup, flatL_nil, flatL_cons, ownsV_sl, ownsL_nil, ownsL_cons, toD_c, notExit, resA_nil, resA_tmp, oneA_1, ↓reduceIte, List.getElem?_cons_zero, List.getElem?_cons_succ, List.append_nil, List.getElem?_toArray, Option.bind_some, Bool.and_self, Bool.or_true, and_self, Nat.reduceEqDiff, List.isEmpty_nil, h4', h3']
    subst h3
    by_cases h1 : (A.length : Int) = l.length
    case neg =>
      rw [if_pos (by omega)]
      refine call_meets (hs) (by simp only [aev, cv, cvc, toD_sl, consO_some, toDL_nil, toDL_cons, h4', show ((A.length : Int) != (l.length : Int)) = true by simpa using h1]) ?_; simp only [awp_reg, awp_seq, awp_cond, awp_ret, seqQ_n, seqQ_r, awpOps_nil, awpOps_one, awpOps_if, awpOp_is, awpO_is, putK_is, put_s, upd_s, slot_is, retA_is, pureOp, apureO, killT, aev, cv, cvc, binK, elO_s, lenA, lenK, yieldA, guardA_tt, guardA_ft, guardA_ff, condA_t, pickA_t, pickA_f, flat_c, flat_tup, flatL_nil, flatL_cons, ownsV_sl, ownsL_nil, ownsL_cons, toD_c, notExit, resA_nil, resA_tmp, oneA_1, ↓reduceIte, List.getElem?_cons_zero, List.getElem?_cons_succ, List.append_nil, List.getElem?_toArray, Option.bind_some, Bool.and_true, Bool.true_and, Bool.and_self, Bool.or_true, true_and, and_true, and_self, reduceCtorEq, Nat.reduceEqDiff, List.isEmpty_nil, Option.isSome_some, Ty.td27, Ty.td40, h4', bne_self_eq_false, List.length_map, show ((A.length : Int) != (l.length : Int)) = true by simpa using h1]
    by_cases h2 : (R.length : Int) = l.length
    case neg =>
      rw [if_pos (by omega)]
      refine call_meets (hs) (by simp only [aev, cv, cvc, toD_sl, consO_some, toDL_nil, toDL_cons, h4', show ((A.length : Int) != (l.length : Int)) = false by simpa using h1, show ((R.length : Int) != (l.length : Int)) = true by simpa using h2]) ?_; simp only [awp_reg, awp_seq, awp_cond, awp_ret, seqQ_n, seqQ_r, awpOps_nil, awpOps_one, awpOps_if, awpOp_is, awpO_is, putK_is, put_s, upd_s, slot_is, retA_is, pureOp, apureO, killT, aev, cv, cvc, binK, elO_s, lenA, lenK, yieldA, guardA_tt, guardA_ff, condA_t, pickA_t, pickA_f, flat_c, flat_tup, flatL_nil, flatL_cons, ownsV_sl, ownsL_nil, ownsL_cons, toD_c, notExit, resA_nil, resA_tmp, oneA_1, ↓reduceIte, List.getElem?_cons_zero, List.getElem?_cons_succ, List.append_nil, List.getElem?_toArray, Option.bind_some, Bool.and_true, Bool.true_and, Bool.and_self, Bool.or_true, true_and, and_true, and_self, reduceCtorEq, Nat.reduceEqDiff, List.isEmpty_nil, Option.isSome_some, Ty.td22, Ty.td27, Ty.td40, h4', bne_self_eq_false, List.length_map, show ((A.length : Int) != (l.length : Int)) = false by simpa using h1, show ((R.length : Int) != (l.length : Int)) = true by simpa using h2]
    rw [if_neg (by omega), if_pos rfl]
    refine call_meets (hs) (by simp only [aev, cv, cvc, toD_sl, consO_some, toDL_nil, toDL_cons, h4', show ((A.length : Int) != (l.length : Int)) = false by simpa using h1, show ((R.length : Int) != (l.length : Int)) = false by simpa using h2]) ?_; simp only [awp_skip, awp_reg, awp_seq, awp_cond, awp_ret, seqQ_n, seqQ_r, awpOps_nil, awpOps_one, awpOps_if, awpOp_is, awpO_is, putK_is, put_s, upd_s, slot_is, retA_is, pureOp, apureO, killT, aev, cv, cvc, binK, elO_s, lenA, lenK, yieldA, guardA_tt, guardA_ff, condA_t, condA_f, pickA_t, pickA_f, flat_c, flat_tup, flatL_nil, flatL_cons, ownsV_sl, ownsL_nil, ownsL_cons, toD_c, notExit, resA_nil, resA_tmp, oneA_1, ↓reduceIte, List.getElem?_cons_zero, List.getElem?_cons_succ, List.append_nil, List.getElem?_toArray, Option.bind_some, Bool.and_true, Bool.true_and, Bool.and_self, Bool.or_true, true_and, and_true, and_self, reduceCtorEq, Nat.reduceEqDiff, List.isEmpty_nil, Option.isSome_some, Ty.td22, Ty.td27, Ty.td40, h4', bne_self_eq_false, List.length_map, show ((A.length : Int) != (l.length : Int)) = false by simpa using h1, show ((R.length : Int) != (l.length : Int)) = false by simpa using h2]
  subst h4
  by_cases h1 : (A.length : Int) = l.length
  case neg =>
    rw [if_pos (by omega)]
    refine call_meets (hs) (by simp only [aev, cv, cvc, toD_sl, consO_some, toDL_nil, toDL_cons, show ((A.length : Int) != (l.length : Int)) = true by simpa using h1]) ?_; simp only [awp_reg, awp_seq, awp_cond, awp_ret, seqQ_n, seqQ_r, awpOps_nil, awpOps_one, awpOps_if, awpOp_is, awpO_is, putK_is, put_s, upd_s, slot_is, retA_is, pureOp, apureO, killT, aev, cv, cvc, binK, elO_s, lenA, lenK, yieldA, guardA_tf, guardA_ft, guardA_ff, condA_t, pickA_t, pickA_f, flat_c, flat_tup, flatL_nil, flatL_cons, ownsV_sl, ownsL_nil, ownsL_cons, toD_c, notExit, resA_nil, resA_tmp, oneA_1, ↓reduceIte, List.getElem?_cons_zero, List.getElem?_cons_succ, List.append_nil, List.getElem?_toArray, Option.bind_some, Bool.and_true, Bool.true_and, Bool.and_self, Bool.or_true, true_and, and_true, and_self, reduceCtorEq, Nat.reduceEqDiff, List.isEmpty_nil, Option.isSome_some, Ty.td27, Ty.td40, bne_self_eq_false, List.length_map, show ((A.length : Int) != (l.length : Int)) = true by simpa using h1]
  by_cases h2 : (R.length : Int) = l.length
  case neg =>
    rw [if_pos (by omega)]
    refine call_meets (hs) (by simp only [aev, cv, cvc, toD_sl, consO_some, toDL_nil, toDL_cons, show ((A.length : Int) != (l.length : Int)) = false by simpa using h1, show ((R.length : Int) != (l.length : Int)) = true by simpa using h2]) ?_; simp only [awp_reg, awp_seq, awp_cond, awp_ret, seqQ_n, seqQ_r, awpOps_nil, awpOps_one, awpOps_if, awpOp_is, awpO_is, putK_is, put_s, upd_s, slot_is, retA_is, pureOp, apureO, killT, aev, cv, cvc, binK, elO_s, lenA, lenK, yieldA, guardA_tf, guardA_ff, condA_t, pickA_f, flat_c, flat_tup, flatL_nil, flatL_cons, ownsV_sl, ownsL_nil, ownsL_cons, toD_c, notExit, resA_nil, resA_tmp, oneA_1, ↓reduceIte, List.getElem?_cons_zero, List.getElem?_cons_succ, List.append_nil, List.getElem?_toArray, Option.bind_some, Bool.and_true, Bool.true_and, Bool.and_self, Bool.or_true, true_and, and_true, and_self, reduceCtorEq, Nat.reduceEqDiff, List.isEmpty_nil, Option.isSome_some, Ty.td22, Ty.td27, Ty.td40, bne_self_eq_false, List.length_map, show ((A.length : Int) != (l.length : Int)) = false by simpa using h1, show ((R.length : Int) != (l.length : Int)) = true by simpa using h2]
  rw [if_neg (by omega), if_neg (by simp), if_neg (by simp)]
  have h1' : ((A.length : Int) != (l.length : Int)) = false := by simpa using h1
  have h2' : ((R.length : Int) != (l.length : Int)) = false := by simpa using h2
  refine call_meets (hs) (by simp only [aev, cv, cvc, toD_sl, consO_some, toDL_nil, toDL_cons, h1', h2']) ?_; simp only [awp_skip, awp_reg, awp_seq, awp_cond, awp_block, awp_loop, seqQ_n, awpOps_nil, awpOps_one, awpOps_if, awpOp_is, awpO_is, putK_is, put_s, upd_s, slot_is, pureOp, apureO, killT, aev, cv, cvc, binK, elO_s, lenA, lenK, yieldA, guardA_tf, guardA_ff, condA_f, pickA_f, flat_c, flat_tup, flatL_nil, flatL_cons, ownsV_sl, ownsL_nil, ownsL_cons, ↓reduceIte, List.getElem?_cons_zero, List.getElem?_cons_succ, List.append_nil, List.getElem?_toArray, Option.bind_some, Bool.true_and, Bool.and_self, Bool.or_true, true_and, and_self, reduceCtorEq, Nat.reduceEqDiff, List.isEmpty_nil, Option.isSome_some, Ty.td22, Ty.td27, Ty.td40, bne_self_eq_false, List.length_map, h1', h2']
  refine loop_g (fun k : Nat => k ≤ l.length ∧ chkL fr A R l = chkL fr (A.drop k) (R.drop k) (l.drop k)) (fun k => ⟨105, [(11, I k), (0, ints fr), (1, lists A), (2, ints R), (3, arrs l)], []⟩) (fun k => l.length - k) 0 ⟨Nat.zero_le _, rfl⟩ (by simp only [slot_is, aev, cv, cvc, Weak, ↓reduceIte, Bool.and_true, Bool.and_self, and_true, and_self, reduceCtorEq, Nat.reduceEqDiff]; simp) rfl (.inl rfl) ?_
  rintro k ⟨hk, hi⟩ K hK
  simp only at hK
  simp only [awp_reg, awp_seq, awp_cond, seqQ_n, awpOps_nil, awpOps_one, awpOp_is, putK_is, put_s, slot_is, pureOp, apureO, aev, cv, cvc, binK, elO_s, lenA, lenK, ↓reduceIte, Bool.true_and, true_and, reduceCtorEq, Nat.reduceEqDiff, Option.isSome_some, Ty.td27, List.length_map]
  refine condA_dec (fun hlt => ?_) (fun hge => ?_)
  · have g1 : k < A.length := by omega
    have g2 : k < R.length := by omega
    have g3 : k < l.length := by omega
    have hx : A[k]? = some A[k] := List.getElem?_eq_getElem g1
    have hy : R[k]? = some R[k] := List.getElem?_eq_getElem g2
    have hz : l[k]? = some l[k] := List.getElem?_eq_getElem g3
    rw [chkL_step g1 g2 g3] at hi
    have b1 := hb l[k] (List.getElem_mem _)
    have b2 := hq R[k] (List.getElem_mem _)
    have b3 := hAm A[k] (List.getElem_mem _)
    generalize A[k] = ax at *
    generalize R[k] = r at *
    generalize l[k] = a at *
    obtain ⟨e, ds, xs⟩ := a
    simp only at b1
    have hp := refPick fr ax hf b3
    have hpl := pickE_len fr ax
    have hv := refValid e ds xs b1.1 b1.2
    have hdim := @checkE_dims e ds xs
    obtain ⟨c1, hc1⟩ : ∃ c1, chk1 fr ax r (e, ds, xs) = c1 := ⟨_, rfl⟩
    rw [hc1] at hi
    unfold chk1 at hc1
    generalize pickE fr ax = p at *
    obtain ⟨own, okb⟩ := p
    simp only at hc1 hpl
    generalize checkE e ds xs = c at *
    simp only [awp_skip, awp_reg, awp_seq, awp_block, seqQ_n, awpOps_one, awpOp_is, isCallV, callW_is, callV_is, putK_is, put_s, slot_is, pureOp, apureO, aev, cv, cvc, elO_s, loadA_d, Int.natCast_nonneg, Bool.false_eq_true, ↓reduceIte, List.getElem?_cons_zero, List.map_cons, List.map_nil, List.append_nil, Option.map_some, Bool.true_and, true_and, reduceCtorEq, Nat.reduceEqDiff, Int.toNat_natCast, Ty.td22, Ty.td40, List.getElem?_map, hx]
    cases okb with
    | false =>
      rw [if_pos (Or.inr rfl)] at hc1
      subst hc1
      refine call_meets (hp) (by simp only [aev, cv, cvc, toD_sl, consO_some, toDL_nil, toDL_cons, hi, show ((1 : Int) ≠ 0) = True by simp]) ?_; simp only [awp_reg, awp_seq, awp_cond, awp_ret, seqQ_n, seqQ_r, loopQ_r, blkQ_r, awpOps_nil, awpOps_one, awpOps_if, awpOp_is, putK_is, put_s, upd_s, slot_is, retA_is, pureOp, apureO, killT, aev, cv, cvc, elO_s, yieldA, guardA_ft, condA_t, pickA_t, flat_c, flat_tup, flat_sl, flatL_nil, flatL_cons, ownsV_sl, ownsL_nil, ownsL_cons, toD_c, notExit, resA_nil, resA_tmp, oneA_1, ↓reduceIte, List.getElem?_cons_zero, List.getElem?_cons_succ, List.append_nil, List.getElem?_toArray, Option.bind_some, Bool.and_true, Bool.and_self, Bool.or_true, Bool.not_false, and_true, and_self, Nat.reduceEqDiff, List.isEmpty_nil, hi, show ((1 : Int) ≠ 0) = True by simp]
    | true =>
    by_cases hc : c = 0
    case neg =>
      rw [if_pos (Or.inl hc)] at hc1
      rw [show (c == 0) = false by simpa using hc] at hv
      refine call_meets (hp) (by simp only [aev, cv, cvc, toD_sl, consO_some, toDL_nil, toDL_cons, hz]) ?_; simp only [awp_reg, awp_seq, seqQ_n, awpOps_nil, awpOps_one, awpOps_if, awpOp_is, isCallV, callW_is, callV_is, awpO_is, putK_is, put_s, upd_s, slot_is, pureOp, apureO, killT, aev, cv, cvc, elO_s, loadA_d, yieldA, guardA_ff, flat_c, flat_tup, flat_sl, flatL_nil, flatL_cons, ownsV_sl, ownsL_nil, ownsL_cons, Int.natCast_nonneg, Bool.false_eq_true, ↓reduceIte, List.getElem?_cons_zero, List.getElem?_cons_succ, List.length_cons, List.length_nil, List.map_cons, List.map_nil, List.append_nil, List.getElem?_toArray, Option.bind_some, Option.map_some, List.take_succ_cons, Bool.and_true, Bool.true_and, Bool.and_self, Bool.or_true, Bool.not_true, true_and, and_true, and_self, reduceCtorEq, Nat.reduceAdd, Nat.reduceEqDiff, Nat.zero_add, List.isEmpty_nil, Int.toNat_natCast, Nat.le_refl, List.take_nil, Ty.td24, Ty.td27, List.getElem?_map, hz]
      subst hc1
      refine call_meets (hv) (by simp only [aev, cv, cvc, toD_c, toD_agg, toD_sl, consO_some, toDL_nil, toDL_cons, Option.map_some, hi, show ((1 : Int) ≠ 0) = True by simp]) ?_; simp only [awp_reg, awp_seq, awp_cond, awp_ret, seqQ_n, seqQ_r, loopQ_r, blkQ_r, awpOps_nil, awpOps_one, awpOps_if, awpOp_is, awpO_is, putK_is, put_s, upd_s, slot_is, retA_is, pureOp, apureO, killT, aev, cv, cvc, yieldA, guardA_ff, condA_t, pickA_f, flat_c, ownsV_c, ownsV_agg, ownsV_sl, ownsL_nil, ownsL_cons, toD_c, notExit, resA_nil, resA_tmp, oneA_1, ↓reduceIte, List.getElem?_cons_zero, List.getElem?_cons_succ, List.append_nil, List.getElem?_toArray, Option.bind_some, Bool.and_self, Bool.or_true, Bool.not_false, and_self, Nat.reduceEqDiff, List.isEmpty_nil, hi, show ((1 : Int) ≠ 0) = True by simp]
    subst hc
    have hdim := hdim rfl
    rw [beq_self_eq_true] at hv
    rw [if_neg (by simp)] at hc1
    by_cases h5 : r < 0
    · rw [if_pos (Or.inl h5)] at hc1
      refine call_meets (hp) (by simp only [aev, cv, cvc, toD_sl, consO_some, toDL_nil, toDL_cons, hz]) ?_; simp only [awp_reg, awp_seq, seqQ_n, awpOps_nil, awpOps_one, awpOps_if, awpOp_is, isCallV, callW_is, callV_is, awpO_is, putK_is, put_s, upd_s, slot_is, pureOp, apureO, killT, aev, cv, cvc, elO_s, loadA_d, yieldA, guardA_ff, flat_c, flat_tup, flat_sl, flatL_nil, flatL_cons, ownsV_sl, ownsL_nil, ownsL_cons, Int.natCast_nonneg, Bool.false_eq_true, ↓reduceIte, List.getElem?_cons_zero, List.getElem?_cons_succ, List.length_cons, List.length_nil, List.map_cons, List.map_nil, List.append_nil, List.getElem?_toArray, Option.bind_some, Option.map_some, List.take_succ_cons, Bool.and_true, Bool.true_and, Bool.and_self, Bool.or_true, Bool.not_true, true_and, and_true, and_self, reduceCtorEq, Nat.reduceAdd, Nat.reduceEqDiff, Nat.zero_add, List.isEmpty_nil, Int.toNat_natCast, Nat.le_refl, List.take_nil, Ty.td24, Ty.td27, List.getElem?_map, hz]
      subst hc1
      refine call_meets (hv) (by simp only [aev, cv, cvc, toD_c, toD_agg, toD_sl, consO_some, toDL_nil, toDL_cons, Option.map_some, hy, h5, hi, show ((13 : Int) ≠ 0) = True by simp]) ?_; simp only [awp_skip, awp_reg, awp_regD, awp_seq, awp_cond, awp_ret, seqQ_n, seqQ_r, loopQ_r, blkQ_r, awpOps_nil, awpOps_one, awpOps_if, awpOpsD_nil, awpOpsD_one, awpOpsD_if, awpOp_is, awpOpD_is, awpO_is, lastOnly_nil, lastOnly_cons, putK_is, put_s, upd_s, slot_is, retA_is, keepOp, pureOp, apureO, killT, aev, cv, cvc, binK, elO_s, loadA_d, yieldA, guardA_ft, guardA_ff, condA_t, condA_f, pickA_t, pickA_f, flat_c, ownsV_c, ownsV_agg, ownsV_sl, ownsL_nil, ownsL_cons, toD_c, notExit, resA_nil, resA_tmp, oneA_1, Int.natCast_nonneg, Bool.false_eq_true, ↓reduceIte, List.getElem?_cons_zero, List.getElem?_cons_succ, List.append_nil, List.getElem?_toArray, Option.bind_some, Option.map_some, Bool.and_true, Bool.true_and, Bool.and_self, Bool.or_true, Bool.not_true, true_and, and_true, and_self, reduceCtorEq, Nat.reduceEqDiff, List.isEmpty_nil, Int.toNat_natCast, decide_true, Ty.td3, Ty.td22, List.getElem?_map, hy, h5, hi, show ((13 : Int) ≠ 0) = True by simp]
    by_cases h9 : 6 < r
    · have hne : ¬ (ds.length : Int) = IntKind.i64.wrap (r + own.length) := fun h => by
        have := wrap_len (by omega) b2 (by omega) h
        omega
      rw [if_pos (Or.inr hne)] at hc1
      refine call_meets (hp) (by simp only [aev, cv, cvc, toD_sl, consO_some, toDL_nil, toDL_cons, hz]) ?_; simp only [awp_reg, awp_seq, seqQ_n, awpOps_nil, awpOps_one, awpOps_if, awpOp_is, isCallV, callW_is, callV_is, awpO_is, putK_is, put_s, upd_s, slot_is, pureOp, apureO, killT, aev, cv, cvc, elO_s, loadA_d, yieldA, guardA_ff, flat_c, flat_tup, flat_sl, flatL_nil, flatL_cons, ownsV_sl, ownsL_nil, ownsL_cons, Int.natCast_nonneg, Bool.false_eq_true, ↓reduceIte, List.getElem?_cons_zero, List.getElem?_cons_succ, List.length_cons, List.length_nil, List.map_cons, List.map_nil, List.append_nil, List.getElem?_toArray, Option.bind_some, Option.map_some, List.take_succ_cons, Bool.and_true, Bool.true_and, Bool.and_self, Bool.or_true, Bool.not_true, true_and, and_true, and_self, reduceCtorEq, Nat.reduceAdd, Nat.reduceEqDiff, Nat.zero_add, List.isEmpty_nil, Int.toNat_natCast, Nat.le_refl, List.take_nil, Ty.td24, Ty.td27, List.getElem?_map, hz]
      subst hc1
      refine call_meets (hv) (by simp only [aev, cv, cvc, toD_c, toD_agg, toD_sl, consO_some, toDL_nil, toDL_cons, Option.map_some, hy, h5, h9, hi, show ((13 : Int) ≠ 0) = True by simp]) ?_; simp only [awp_skip, awp_reg, awp_regD, awp_seq, awp_cond, awp_ret, seqQ_n, seqQ_r, loopQ_r, blkQ_r, awpOps_nil, awpOps_one, awpOps_if, awpOpsD_nil, awpOpsD_one, awpOpsD_if, awpOp_is, awpOpD_is, awpO_is, awpOD_is, lastOnly_nil, lastOnly_cons, putK_is, put_s, upd_s, slot_is, retA_is, keepOp, pureOp, apureO, killT, aev, cv, cvc, binK, elO_s, loadA_d, yieldA, guardA_ft, guardA_ff, condA_t, condA_f, pickA_t, pickA_f, flat_c, ownsV_c, ownsV_agg, ownsV_sl, ownsL_nil, ownsL_cons, toD_c, notExit, resA_nil, resA_tmp, oneA_1, Int.natCast_nonneg, Bool.false_eq_true, ↓reduceIte, List.getElem?_cons_zero, List.getElem?_cons_succ, List.append_nil, List.getElem?_toArray, Option.bind_some, Option.map_some, Bool.and_true, Bool.true_and, Bool.and_self, Bool.or_true, Bool.not_true, true_and, and_true, and_self, reduceCtorEq, Nat.reduceEqDiff, List.isEmpty_nil, Int.toNat_natCast, decide_true, decide_false, Ty.td3, Ty.td22, List.getElem?_map, hy, h5, h9, hi, show ((13 : Int) ≠ 0) = True by simp]
    by_cases h6 : (ds.length : Int) = IntKind.i64.wrap (r + own.length)
    case neg =>
      rw [if_pos (Or.inr h6)] at hc1
      refine call_meets (hp) (by simp only [aev, cv, cvc, toD_sl, consO_some, toDL_nil, toDL_cons, hz]) ?_; simp only [awp_reg, awp_seq, seqQ_n, awpOps_nil, awpOps_one, awpOps_if, awpOp_is, isCallV, callW_is, callV_is, awpO_is, putK_is, put_s, upd_s, slot_is, pureOp, apureO, killT, aev, cv, cvc, elO_s, loadA_d, yieldA, guardA_ff, flat_c, flat_tup, flat_sl, flatL_nil, flatL_cons, ownsV_sl, ownsL_nil, ownsL_cons, Int.natCast_nonneg, Bool.false_eq_true, ↓reduceIte, List.getElem?_cons_zero, List.getElem?_cons_succ, List.length_cons, List.length_nil, List.map_cons, List.map_nil, List.append_nil, List.getElem?_toArray, Option.bind_some, Option.map_some, List.take_succ_cons, Bool.and_true, Bool.true_and, Bool.and_self, Bool.or_true, Bool.not_true, true_and, and_true, and_self, reduceCtorEq, Nat.reduceAdd, Nat.reduceEqDiff, Nat.zero_add, List.isEmpty_nil, Int.toNat_natCast, Nat.le_refl, List.take_nil, Ty.td24, Ty.td27, List.getElem?_map, hz]
      subst hc1
      refine call_meets (hv) (by simp only [aev, cv, cvc, toD_c, toD_agg, toD_sl, consO_some, toDL_nil, toDL_cons, Option.map_some, hy, hz, h5, h9, show ((ds.length : Int) != IntKind.i64.wrap (r + own.length)) = true by simpa using h6, hi, show ((13 : Int) ≠ 0) = True by simp]) ?_; simp only [awp_skip, awp_reg, awp_regD, awp_seq, awp_cond, awp_ret, seqQ_n, seqQ_r, loopQ_r, blkQ_r, awpOps_nil, awpOps_one, awpOps_if, awpOpsD_nil, awpOpsD_one, awpOpsD_if, awpOp_is, awpOpD_is, awpO_is, awpOD_is, lastOnly_nil, lastOnly_cons, putK_is, put_s, upd_s, slot_is, retA_is, keepOp, pureOp, apureO, killT, aev, cv, cvc, binK, elO_s, elO_none, lenA, lenK, loadA_d, yieldA, guardA_ff, condA_t, condA_f, pickA_f, flat_c, ownsV_c, ownsV_agg, ownsV_sl, ownsL_nil, ownsL_cons, toD_c, notExit, resA_nil, resA_tmp, oneA_1, Int.natCast_nonneg, Bool.false_eq_true, ↓reduceIte, List.getElem?_cons_zero, List.getElem?_cons_succ, List.append_nil, List.getElem?_toArray, Option.bind_some, Option.map_some, List.drop_succ_cons, List.drop_zero, Bool.and_true, Bool.true_and, Bool.and_self, Bool.or_true, Bool.not_true, true_and, and_true, and_self, ne_eq, not_false_eq_true, reduceCtorEq, Nat.reduceEqDiff, List.isEmpty_nil, Int.toNat_natCast, Option.isSome_some, decide_false, Ty.td3, Ty.td22, Ty.td24, Ty.td27, List.getElem?_map, List.length_map, hy, hz, h5, h9, show ((ds.length : Int) != IntKind.i64.wrap (r + own.length)) = true by simpa using h6, hi, show ((13 : Int) ≠ 0) = True by simp]
    rw [if_neg (by simp only [not_or]; exact ⟨h5, by simpa using h6⟩)] at hc1
    have h6' : ((ds.length : Int) != IntKind.i64.wrap (r + own.length)) = false := by simpa using h6
    have h7 := wrap_len (by omega) b2 (by omega) h6
    have hsE := sameInts own (ds.take own.length) (by omega) (by simp; omega)
    by_cases h8 : ds.take own.length = own
    case neg =>
      rw [if_pos h8] at hc1
      rw [show (own == ds.take own.length) = false by simpa using fun h => h8 h.symm] at hsE
      refine call_meets (hp) (by simp only [aev, cv, cvc, toD_sl, consO_some, toDL_nil, toDL_cons, hz]) ?_; simp only [awp_reg, awp_seq, seqQ_n, awpOps_nil, awpOps_one, awpOps_if, awpOp_is, isCallV, callW_is, callV_is, awpO_is, putK_is, put_s, upd_s, slot_is, pureOp, apureO, killT, aev, cv, cvc, elO_s, loadA_d, yieldA, guardA_ff, flat_c, flat_tup, flat_sl, flatL_nil, flatL_cons, ownsV_sl, ownsL_nil, ownsL_cons, Int.natCast_nonneg, Bool.false_eq_true, ↓reduceIte, List.getElem?_cons_zero, List.getElem?_cons_succ, List.length_cons, List.length_nil, List.map_cons, List.map_nil, List.append_nil, List.getElem?_toArray, Option.bind_some, Option.map_some, List.take_succ_cons, Bool.and_true, Bool.true_and, Bool.and_self, Bool.or_true, Bool.not_true, true_and, and_true, and_self, reduceCtorEq, Nat.reduceAdd, Nat.reduceEqDiff, Nat.zero_add, List.isEmpty_nil, Int.toNat_natCast, Nat.le_refl, List.take_nil, Ty.td24, Ty.td27, List.getElem?_map, hz]
      refine call_meets (hv) (by simp only [aev, cv, cvc, toD_c, toD_agg, toD_sl, consO_some, toDL_nil, toDL_cons, Option.map_some, hy, hz, h5, h9, h6', ← List.map_take]) ?_; simp only [awp_skip, awp_reg, awp_regD, awp_seq, awp_cond, seqQ_n, awpOps_nil, awpOps_one, awpOps_if, awpOpsD_nil, awpOpsD_one, awpOpsD_if, awpOp_is, isCallV, callW_is, callV_is, awpOpD_is, awpO_is, awpOD_is, lastOnly_nil, lastOnly_cons, putK_is, put_s, upd_s, slot_is, keepOp, pureOp, apureO, sliceA_sl, boundsA, killT, aev, cv, cvc, binK, elO_s, elO_none, lenA, lenK, loadA_d, yieldA, guardA_ff, condA_f, pickA_f, flat_c, ownsV_c, ownsV_agg, ownsV_sl, ownsL_nil, ownsL_cons, Int.natCast_nonneg, Bool.false_eq_true, ↓reduceIte, List.getElem?_cons_zero, List.getElem?_cons_succ, List.map_cons, List.map_nil, List.append_nil, List.getElem?_toArray, Option.bind_some, Option.map_some, Option.map_none, List.drop_succ_cons, List.drop_zero, Bool.true_and, Bool.or_true, Bool.not_true, true_and, ne_eq, not_false_eq_true, reduceCtorEq, Nat.reduceEqDiff, Nat.sub_zero, List.isEmpty_nil, Int.toNat_natCast, Option.isSome_some, decide_false, Ty.td3, Ty.td22, Ty.td24, Ty.td27, List.getElem?_map, List.length_map, hy, hz, h5, h9, h6', ← List.map_take]
      refine ⟨by omega, ?_⟩
      subst hc1
      refine call_meets (hsE) (by simp only [aev, cv, cvc, toD_sl, consO_some, toDL_nil, toDL_cons, hi, show ((14 : Int) ≠ 0) = True by simp]) ?_; simp only [awp_reg, awp_seq, awp_cond, awp_ret, seqQ_n, seqQ_r, loopQ_r, blkQ_r, awpOps_nil, awpOps_one, awpOp_is, putK_is, put_s, upd_s, slot_is, retA_is, pureOp, apureO, killT, aev, cv, cvc, condA_t, flat_c, ownsV_sl, ownsL_nil, ownsL_cons, toD_c, notExit, resA_nil, resA_tmp, oneA_1, ↓reduceIte, List.append_nil, Bool.and_self, Bool.or_true, Bool.not_false, and_self, List.isEmpty_nil, hi, show ((14 : Int) ≠ 0) = True by simp]
    rw [if_neg (by simpa using h8)] at hc1
    rw [show (own == ds.take own.length) = true by simpa using h8.symm] at hsE
    refine call_meets (hp) (by simp only [aev, cv, cvc, toD_sl, consO_some, toDL_nil, toDL_cons, hz]) ?_; simp only [awp_reg, awp_seq, seqQ_n, awpOps_nil, awpOps_one, awpOps_if, awpOp_is, isCallV, callW_is, callV_is, awpO_is, putK_is, put_s, upd_s, slot_is, pureOp, apureO, killT, aev, cv, cvc, elO_s, loadA_d, yieldA, guardA_ff, flat_c, flat_tup, flat_sl, flatL_nil, flatL_cons, ownsV_sl, ownsL_nil, ownsL_cons, Int.natCast_nonneg, Bool.false_eq_true, ↓reduceIte, List.getElem?_cons_zero, List.getElem?_cons_succ, List.length_cons, List.length_nil, List.map_cons, List.map_nil, List.append_nil, List.getElem?_toArray, Option.bind_some, Option.map_some, List.take_succ_cons, Bool.and_true, Bool.true_and, Bool.and_self, Bool.or_true, Bool.not_true, true_and, and_true, and_self, reduceCtorEq, Nat.reduceAdd, Nat.reduceEqDiff, Nat.zero_add, List.isEmpty_nil, Int.toNat_natCast, Nat.le_refl, List.take_nil, Ty.td24, Ty.td27, List.getElem?_map, hz]
    refine call_meets (hv) (by simp only [aev, cv, cvc, toD_c, toD_agg, toD_sl, consO_some, toDL_nil, toDL_cons, Option.map_some, hy, hz, h5, h9, h6', ← List.map_take]) ?_; simp only [awp_skip, awp_reg, awp_regD, awp_seq, awp_cond, seqQ_n, awpOps_nil, awpOps_one, awpOps_if, awpOpsD_nil, awpOpsD_one, awpOpsD_if, awpOp_is, isCallV, callW_is, callV_is, awpOpD_is, awpO_is, awpOD_is, lastOnly_nil, lastOnly_cons, putK_is, put_s, upd_s, slot_is, keepOp, pureOp, apureO, sliceA_sl, boundsA, killT, aev, cv, cvc, binK, elO_s, elO_none, lenA, lenK, loadA_d, yieldA, guardA_ff, condA_f, pickA_f, flat_c, ownsV_c, ownsV_agg, ownsV_sl, ownsL_nil, ownsL_cons, Int.natCast_nonneg, Bool.false_eq_true, ↓reduceIte, List.getElem?_cons_zero, List.getElem?_cons_succ, List.map_cons, List.map_nil, List.append_nil, List.getElem?_toArray, Option.bind_some, Option.map_some, Option.map_none, List.drop_succ_cons, List.drop_zero, Bool.true_and, Bool.or_true, Bool.not_true, true_and, ne_eq, not_false_eq_true, reduceCtorEq, Nat.reduceEqDiff, Nat.sub_zero, List.isEmpty_nil, Int.toNat_natCast, Option.isSome_some, decide_false, Ty.td3, Ty.td22, Ty.td24, Ty.td27, List.getElem?_map, List.length_map, hy, hz, h5, h9, h6', ← List.map_take]
    refine ⟨by omega, ?_⟩
    subst hc1
    refine call_meets (hsE) (by simp only [aev, cv, cvc, toD_sl, consO_some, toDL_nil, toDL_cons, wrap_in (x := (k : Int) + 1) (by omega) (by omega)]) ?_; simp only [awp_skip, awp_reg, awp_cond, seqQ_n, loopQ_n, blkQ_n, awpOps_nil, awpOps_one, awpOp_is, putK_is, put_s, upd_s, slot_is, pureOp, apureO, killT, aev, cv, cvc, binK, condA_f, flat_c, ownsV_sl, ownsL_nil, ownsL_cons, ↓reduceIte, List.append_nil, Bool.true_and, Bool.or_true, Bool.not_true, true_and, Nat.reduceEqDiff, List.isEmpty_nil, wrap_in (x := (k : Int) + 1) (by omega) (by omega)]
    refine hK (k + 1) _ ⟨g3, by simpa using hi⟩ (by omega) ?_ rfl (.inl rfl)
    simp only [slot_is, aev, cv, cvc, Weak, ↓reduceIte, Bool.and_true, Bool.and_self, and_true, and_self, reduceCtorEq, Nat.reduceEqDiff]
    simp
  · have hk' : k = l.length := by omega
    have hd : l.drop k = [] := by rw [hk', List.drop_length]
    rw [hd, show chkL fr (A.drop k) (R.drop k) [] = 0 from by unfold chkL; split <;> first | rfl | (rename_i h; cases h)] at hi
    simp only [awp_reg, awp_seq, awp_exit, awp_ret, seqQ_n, seqQ_e, loopQ_e, blkQ_e, awpOps_nil, awpOps_one, awpOp_is, putK_is, put_s, slot_is, retA_is, pureOp, apureO, aev, cv, cvc, toD_c, notExit, resA_nil, resA_tmp, oneA_1, ↓reduceIte, Bool.and_self, and_self, hi]
end
end Go.Proofs.Ytoobaeebgnbpjaa.B7
