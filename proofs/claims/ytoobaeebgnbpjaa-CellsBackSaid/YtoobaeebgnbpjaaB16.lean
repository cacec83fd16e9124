/- Cells: the law of the cells of an array, joined. -/
import Derived.Test.YtoobaeebgnbpjaaB15
namespace Go.Proofs.Ytoobaeebgnbpjaa.B16
open Go Go.Proofs.Ytoobaeebgnbpjaa.Eng Go.Proofs.Ytoobaeebgnbpjaa Go.RowKit Go.Proofs.Ytoobaeebgnbpjaa.A1 Go.Proofs.Ytoobaeebgnbpjaa.A2 Go.Proofs.Ytoobaeebgnbpjaa.A3 Go.Proofs.Ytoobaeebgnbpjaa.A4 Go.Proofs.Ytoobaeebgnbpjaa.A5 Go.Proofs.Ytoobaeebgnbpjaa.A8 Go.Proofs.Ytoobaeebgnbpjaa.A10 Go.Proofs.Ytoobaeebgnbpjaa.B1 Go.Proofs.Ytoobaeebgnbpjaa.B4 Go.Proofs.Ytoobaeebgnbpjaa.B9 Go.Proofs.Ytoobaeebgnbpjaa.B10 Go.Proofs.Ytoobaeebgnbpjaa.B12 Go.Proofs.Ytoobaeebgnbpjaa.B14 Go.Proofs.Ytoobaeebgnbpjaa.B15
set_option linter.unusedSimpArgs false
set_option linter.unusedVariables false
set_option maxRecDepth 100000

theorem size_len {ds : List Int} {n : Int} (h : sizeE ds = (n, 0)) : ds.length ≤ 6 := by
  unfold sizeE at h
  split at h
  · simp at h
  · omega

def backV (k : Nat) : AV := match k with | 0 => .nils | k + 1 => .own 4 3 (k + 1)
def backH (e : ByteArray) (ds xs cs ys : List Int) (k : Nat) : Heap := match k with
  | 0 => [some (.var 24 [S e, ints ds, ints xs]), some (.var 24 [S e, ints cs, ints ys])]
  | k + 1 => [some (.var 24 [S e, ints ds, ints xs]), some (.var 24 [S e, ints cs, ints ys]), none, none, some (.row 24 3 ((cellL e cs xs (ys.length : Int) (k + 1)).map encA))]

theorem law (e : ByteArray) (ds xs : List Int) (k : Int) (hk0 : 0 ≤ k) (hk1 : k ≤ 255) : Meets Try.prog 7 [arr e ds xs, .c (.int .u8 k)] (B true) := by
  have ha := awake
  have hfw := few e ds xs 100
  refine meets_of Ty.mixed Try.func7 (by kernel_rfl) rfl (by kernel_rfl) (by simp) ?_; rw [Try.ntmps7, Try.results7]
  simp only [awp_reg, awp_seq, seqQ_n, awpOps_nil, awpOps_one, awpOp_is, isCallV, callW_is, callV_is, putK_is, updK_is, put_s, upd_s, slot_is, pureOp, apureO, astepO, killT, aev, cv, cvc, cellsA, cellOk, argT, Bool.false_eq_true, ↓reduceIte, List.length_nil, List.map_nil, List.nil_append, List.append_nil, Bool.true_and, true_and, Nat.zero_add]
  refine call_meets (ha) (by simp only [aev, cv, cvc, toDL_nil]) ?_; simp only [awp_skip, awp_reg, awp_seq, awp_cond, seqQ_n, awpOps_nil, awpOps_one, awpOp_is, isCallV, callW_is, callV_is, putK_is, put_s, upd_s, slot_is, pureOp, apureO, killT, aev, cv, cvc, elO_s, loadA_p, condA_f, flat_c, ownsL_nil, Bool.false_eq_true, ↓reduceIte, List.getElem?_cons_zero, List.length_cons, List.length_nil, List.map_cons, List.map_nil, List.append_nil, List.take_succ_cons, List.drop_zero, Bool.true_and, Bool.or_true, Bool.not_true, true_and, Nat.reduceAdd, Nat.reduceEqDiff, Nat.zero_add, List.isEmpty_nil, Nat.le_refl, List.take_nil, Ty.td24]
  cases hfl : fewE e ds xs 100 with
  | false =>
    rw [hfl] at hfw
    refine call_meets (hfw) (by simp only [aev, cv, cvc, toD_c, toD_agg, toD_sl, consO_some, toDL_nil, toDL_cons, Option.map_some]) ?_; simp only [awp_reg, awp_seq, awp_cond, awp_ret, seqQ_n, seqQ_r, awpOps_nil, awpOps_one, awpOps_if, awpOp_is, putK_is, put_s, upd_s, slot_is, retA_is, pureOp, apureO, killT, aev, cv, cvc, yieldA, guardA_ft, condA_t, pickA_t, flat_c, ownsV_c, ownsV_agg, ownsV_sl, ownsL_nil, ownsL_cons, toD_c, notExit, resA_nil, resA_tmp, oneA_1, ↓reduceIte, List.getElem?_cons_zero, List.getElem?_cons_succ, List.append_nil, List.getElem?_toArray, Option.bind_some, Bool.and_self, Bool.or_true, Bool.not_false, and_self, Nat.reduceEqDiff, List.isEmpty_nil]
  | true =>
  rw [hfl] at hfw
  obtain ⟨hd, hx⟩ : ds.length ≤ 1000000 ∧ xs.length ≤ 1000000 := by
    simp only [fewE, Bool.and_eq_true, decide_eq_true_eq] at hfl
    omega
  have hval := refValid e ds xs hd hx
  by_cases hc : checkE e ds xs = 0
  case neg =>
    rw [show (checkE e ds xs == 0) = false by simpa using hc] at hval
    refine call_meets (hfw) (by simp only [aev, cv, cvc, toD_c, toD_agg, toD_sl, consO_some, toDL_nil, toDL_cons, Option.map_some]) ?_; simp only [awpOps_one, awpOps_if, awpOp_is, isCallV, callW_is, callV_is, awpO_is, putK_is, put_s, upd_s, slot_is, pureOp, apureO, killT, aev, cv, cvc, elO_s, loadA_p, yieldA, guardA_ff, flat_c, ownsV_c, ownsV_agg, ownsV_sl, ownsL_nil, ownsL_cons, Bool.false_eq_true, ↓reduceIte, List.getElem?_cons_zero, List.getElem?_cons_succ, List.length_cons, List.length_nil, List.map_cons, List.map_nil, List.append_nil, List.getElem?_toArray, Option.bind_some, List.take_succ_cons, List.drop_zero, Bool.true_and, Bool.or_true, Bool.not_true, true_and, Nat.reduceAdd, Nat.reduceEqDiff, Nat.zero_add, List.isEmpty_nil, Nat.le_refl, List.take_nil, Ty.td24]
    refine call_meets (hval) (by simp only [aev, cv, cvc, toD_c, toD_agg, toD_sl, consO_some, toDL_nil, toDL_cons, Option.map_some]) ?_; simp only [awp_reg, awp_seq, awp_cond, awp_ret, seqQ_n, seqQ_r, awpOps_nil, awpOps_one, awpOps_if, awpOp_is, awpO_is, putK_is, put_s, upd_s, slot_is, retA_is, pureOp, apureO, killT, aev, cv, cvc, yieldA, guardA_ff, condA_t, pickA_f, flat_c, ownsV_c, ownsV_agg, ownsV_sl, ownsL_nil, ownsL_cons, toD_c, notExit, resA_nil, resA_tmp, oneA_1, ↓reduceIte, List.getElem?_cons_zero, List.getElem?_cons_succ, List.append_nil, List.getElem?_toArray, Option.bind_some, Bool.and_self, Bool.or_true, Bool.not_false, and_self, Nat.reduceEqDiff, List.isEmpty_nil]
  rw [show (checkE e ds xs == 0) = true by simpa using hc] at hval
  refine call_meets (hfw) (by simp only [aev, cv, cvc, toD_c, toD_agg, toD_sl, consO_some, toDL_nil, toDL_cons, Option.map_some]) ?_; simp only [awpOps_one, awpOps_if, awpOp_is, isCallV, callW_is, callV_is, awpO_is, putK_is, put_s, upd_s, slot_is, pureOp, apureO, killT, aev, cv, cvc, elO_s, loadA_p, yieldA, guardA_ff, flat_c, ownsV_c, ownsV_agg, ownsV_sl, ownsL_nil, ownsL_cons, Bool.false_eq_true, ↓reduceIte, List.getElem?_cons_zero, List.getElem?_cons_succ, List.length_cons, List.length_nil, List.map_cons, List.map_nil, List.append_nil, List.getElem?_toArray, Option.bind_some, List.take_succ_cons, List.drop_zero, Bool.true_and, Bool.or_true, Bool.not_true, true_and, Nat.reduceAdd, Nat.reduceEqDiff, Nat.zero_add, List.isEmpty_nil, Nat.le_refl, List.take_nil, Ty.td24]
  refine call_meets (hval) (by simp only [aev, cv, cvc, toD_c, toD_agg, toD_sl, consO_some, toDL_nil, toDL_cons, Option.map_some, wrap_in (x := (ds.length : Int) + 1) (by omega) (by omega), wrap_in (x := k) (by omega) (by omega)]) ?_; simp only [awp_skip, awp_reg, awp_seq, awp_cond, seqQ_n, awpOps_nil, awpOps_one, awpOps_if, awpOp_is, isCallV, callW_is, callV_is, awpO_is, putK_is, updK_is, put_s, upd_s, slot_is, pureOp, apureO, astepO, convA_c, killT, aev, cv, cvc, binK, elO_s, elO_none, lenA, lenK, loadA_p, yieldA, guardA_ff, condA_f, pickA_f, flat_c, ownsV_c, ownsV_agg, ownsV_sl, ownsL_nil, ownsL_cons, Bool.false_eq_true, ↓reduceIte, List.getElem?_cons_zero, List.getElem?_cons_succ, List.length_cons, List.length_nil, List.map_cons, List.map_nil, List.append_nil, List.getElem?_toArray, Option.bind_some, List.take_succ_cons, List.drop_zero, Bool.true_and, Bool.and_self, Bool.or_true, Bool.not_true, true_and, and_self, ne_eq, not_false_eq_true, reduceCtorEq, Nat.reduceAdd, Nat.reduceEqDiff, Nat.zero_add, List.isEmpty_nil, Option.isSome_some, Option.isSome_none, Nat.le_refl, List.take_nil, Ty.td3, Ty.td5, Ty.td22, Ty.td24, List.length_map, wrap_in (x := (ds.length : Int) + 1) (by omega) (by omega), wrap_in (x := k) (by omega) (by omega)]
  refine ⟨by omega, ?_⟩
  have hr0 : 0 ≤ k.tmod (ds.length + 1) := Int.tmod_nonneg _ hk0
  have hr1 : k.tmod (ds.length + 1) < ds.length + 1 := Int.tmod_lt_of_pos _ (by omega)
  generalize k.tmod (ds.length + 1) = r at *
  have s1 := split e ds xs r hd hx (by omega)
  have hsp : splitE (e, ds, xs) r = ((ds.take ((ds.length : Int) - r).toNat, ds.drop ((ds.length : Int) - r).toNat), 0) := by
    unfold splitE
    rw [if_neg (by simpa using hc), if_neg (by simp only; omega)]
  have hfc : ds.take ((ds.length : Int) - r).toNat ++ ds.drop ((ds.length : Int) - r).toNat = ds := List.take_append_drop _ _
  generalize ds.take ((ds.length : Int) - r).toNat = fs at *
  generalize ds.drop ((ds.length : Int) - r).toNat = cs at *
  obtain ⟨c1, c2, c3⟩ := checkE_ok hc
  have hl6 := size_len c2
  have hfl6 : fs.length ≤ 6 ∧ cs.length ≤ 6 := by rw [← hfc, List.length_append] at hl6; omega
  have hcell := fun (i : Nat) => cell e ds xs r (idxR fs (i : Int)).1 hd hx (by omega) (by rw [idxR_len]; omega)
  have hsp1 := @cell_place e ds xs fs cs r
  have hjc := @join_cells e ds xs fs cs
  rw [hsp] at s1
  have hz := refSize fs (by omega)
  have hin := indicesP fs (by omega)
  have hzb := sizeE_bound fs
  refine call_meets (s1) (by simp only [aev, cv, cvc, toD_c, toD_agg, toD_sl, consO_some, toDL_nil, toDL_cons, Option.map_some]) ?_; simp only [awp_reg, awp_seq, seqQ_n, awpOps_nil, awpOps_one, awpOp_is, isCallV, callW_is, callV_is, putK_is, put_s, upd_s, slot_is, pureOp, apureO, killT, aev, cv, cvc, elO_s, flat_c, flat_tup, flat_sl, flatL_nil, flatL_cons, ownsV_c, ownsV_agg, ownsV_sl, ownsL_nil, ownsL_cons, Bool.false_eq_true, ↓reduceIte, List.getElem?_cons_zero, List.getElem?_cons_succ, List.map_cons, List.map_nil, List.append_nil, Bool.and_true, Bool.and_self, Bool.or_true, and_true, and_self, Nat.reduceEqDiff, List.isEmpty_nil]
  unfold indicesE at hin
  generalize hgz : sizeE fs = z at *
  obtain ⟨n, z⟩ := z
  simp only at hzb
  by_cases hz0 : z = 0
  case neg =>
    have hz' : (z != 0) = true := by simpa using hz0
    refine call_meets (hz) (by simp only [aev, cv, cvc, toD_sl, consO_some, toDL_nil, toDL_cons, hz']) ?_; simp only [awp_reg, awp_seq, awp_cond, awp_ret, seqQ_n, seqQ_r, awpOps_nil, awpOps_one, awpOps_if, awpOp_is, putK_is, put_s, upd_s, slot_is, retA_is, pureOp, apureO, killT, aev, cv, cvc, binK, elO_s, yieldA, guardA_ft, condA_t, pickA_t, flat_c, flat_tup, flatL_nil, flatL_cons, ownsV_sl, ownsL_nil, ownsL_cons, toD_c, notExit, resA_nil, resA_tmp, oneA_1, ↓reduceIte, List.getElem?_cons_zero, List.getElem?_cons_succ, List.append_nil, List.getElem?_toArray, Option.bind_some, Bool.and_self, Bool.or_true, and_self, Nat.reduceEqDiff, List.isEmpty_nil, hz', beq_self_eq_true]
  subst hz0
  by_cases hn : (100 : Int) < n
  · refine call_meets (hz) (by simp only [aev, cv, cvc, toD_sl, consO_some, toDL_nil, toDL_cons, hn]) ?_; simp only [awp_reg, awp_seq, awp_cond, awp_ret, seqQ_n, seqQ_r, awpOps_nil, awpOps_one, awpOps_if, awpOp_is, awpO_is, putK_is, put_s, upd_s, slot_is, retA_is, pureOp, apureO, killT, aev, cv, cvc, binK, elO_s, yieldA, guardA_ff, condA_t, pickA_f, flat_c, flat_tup, flatL_nil, flatL_cons, ownsV_sl, ownsL_nil, ownsL_cons, toD_c, notExit, resA_nil, resA_tmp, oneA_1, ↓reduceIte, List.getElem?_cons_zero, List.getElem?_cons_succ, List.append_nil, List.getElem?_toArray, Option.bind_some, Bool.and_self, Bool.or_true, and_self, Nat.reduceEqDiff, List.isEmpty_nil, decide_true, bne_self_eq_false, beq_self_eq_true, hn]
  refine call_meets (hz) (by simp only [aev, cv, cvc, toD_sl, consO_some, toDL_nil, toDL_cons, hn]) ?_; simp only [awp_skip, awp_reg, awp_seq, awp_cond, seqQ_n, awpOps_nil, awpOps_one, awpOps_if, awpOp_is, isCallV, callW_is, callV_is, awpO_is, putK_is, put_s, upd_s, slot_is, pureOp, apureO, killT, aev, cv, cvc, binK, elO_s, yieldA, guardA_ff, condA_f, pickA_f, flat_c, flat_tup, flatL_nil, flatL_cons, ownsV_sl, ownsL_nil, ownsL_cons, Bool.false_eq_true, ↓reduceIte, List.getElem?_cons_zero, List.getElem?_cons_succ, List.map_cons, List.map_nil, List.append_nil, List.getElem?_toArray, Option.bind_some, Bool.true_and, Bool.and_self, Bool.or_true, true_and, and_self, Nat.reduceEqDiff, List.isEmpty_nil, decide_false, bne_self_eq_false, hn]
  rw [if_neg (by simp)] at hin
  obtain ⟨n, rfl⟩ := Int.eq_ofNat_of_zero_le hzb.1
  simp only [Int.toNat_natCast] at hin
  refine call_meets (hin) (by simp only [aev, cv, cvc, toD_sl, consO_some, toDL_nil, toDL_cons]) ?_; simp only [awp_reg, awp_seq, seqQ_n, awpOps_nil, awpOps_one, awpOp_is, isCallV, callW_is, callV_is, putK_is, put_s, upd_s, slot_is, pureOp, apureO, killT, aev, cv, cvc, elO_s, loadA_p, flat_c, flat_tup, flat_sl, flatL_nil, flatL_cons, ownsV_sl, ownsL_nil, ownsL_cons, Bool.false_eq_true, ↓reduceIte, List.getElem?_cons_zero, List.getElem?_cons_succ, List.length_cons, List.length_nil, List.map_cons, List.map_nil, List.append_nil, Bool.and_true, Bool.true_and, Bool.and_self, Bool.or_true, true_and, and_true, and_self, ne_eq, not_false_eq_true, reduceCtorEq, Nat.reduceAdd, Nat.reduceEqDiff, Nat.zero_add, List.isEmpty_nil, Ty.td9, Ty.td24]
  have hzr := refZeros e cs (by omega)
  unfold zerosE ofE at hzr
  have hcsz : 0 < n → ∃ p : Nat, sizeE cs = ((p : Int), 0) := fun hp => by
    obtain ⟨hk, hl⟩ := kE_place (p := 0) hgz (by omega) (by omega)
    obtain ⟨p, h1, h2, _⟩ := sizes hfc.symm c2 hl.symm hk
    exact ⟨p.toNat, by rw [Int.toNat_of_nonneg h2]; exact h1⟩
  by_cases hq : checkE e cs (List.replicate (sizeE cs).1.toNat (0 : Int)) = 0
  case neg =>
    rw [if_neg hq] at hzr
    have hn0 : n = 0 := by
      by_cases hn0 : n = 0
      · exact hn0
      · obtain ⟨p, hp⟩ := hcsz (by omega)
        refine absurd (checkE_mk c1 ?_ ?_) hq
        · rw [hp, List.length_replicate]; simp
        · rw [List.any_eq_false]
          intro x hx
          obtain rfl := (List.mem_replicate.1 hx).2
          revert c1
          unfold validE
          cases isI e <;> cases isB e <;> simp
    subst hn0
    generalize checkE e cs (List.replicate (sizeE cs).1.toNat (0 : Int)) = q at *
    have hq' : (q != 0) = true := by simpa using hq
    refine call_meets (hzr) (by simp only [aev, cv, cvc, toD_c, toD_sl, consO_some, toDL_nil, toDL_cons, hq']) ?_; simp only [awp_skip, awp_reg, awp_seq, awp_cond, awp_ret, seqQ_n, seqQ_r, awpOps_nil, awpOps_one, awpOps_if, awpOp_is, isCallV, awpO_is, putK_is, updK_is, put_s, upd_n, upd_s, slot_is, retA_is, pureOp, apureO, astepO, killT, aev, cv, cvc, binK, elO_s, lenA, lenK, storeA, cellsA, cellOk, setAll, yieldA, guardA_ff, condA_t, condA_f, pickA_f, flat_c, flat_tup, flat_agg, flat_sl, flatL_nil, flatL_cons, ownsV_c, ownsV_sl, ownsL_nil, ownsL_cons, toD_c, notExit, resA_nil, resA_tmp, oneA_1, Bool.false_eq_true, ↓reduceIte, List.getElem?_cons_zero, List.getElem?_cons_succ, List.length_cons, List.length_nil, List.cons_append, List.nil_append, List.append_nil, List.set_cons_zero, List.set_cons_succ, List.getElem?_toArray, Option.bind_some, List.all_cons, List.all_nil, Bool.and_true, Bool.true_and, Bool.and_false, Bool.and_self, Bool.or_true, Value.oneCell', true_and, and_true, and_self, Nat.reduceAdd, Nat.reduceEqDiff, Nat.zero_add, List.isEmpty_nil, Option.isSome_some, Nat.le_refl, Ty.td24, Ty.td40, bne_self_eq_false, hq', List.length_map, firstI_len]
    simp
  rw [if_pos hq] at hzr
  generalize List.replicate (sizeE cs).1.toNat (0 : Int) = ys at *
  obtain ⟨_, p2, _⟩ := checkE_ok hq
  refine call_meets (hzr) (by simp only [aev, cv, cvc, toD_c, toD_sl, consO_some, toDL_nil, toDL_cons]) ?_; simp only [awp_skip, awp_reg, awp_seq, awp_cond, awp_block, awp_loop, seqQ_n, awpOps_nil, awpOps_one, awpOps_if, awpOp_is, isCallV, awpO_is, putK_is, updK_is, put_s, upd_n, upd_s, slot_is, pureOp, apureO, astepO, killT, aev, cv, cvc, binK, elO_s, lenA, lenK, storeA, cellsA, cellOk, setAll, yieldA, guardA_ff, condA_f, pickA_f, flat_c, flat_tup, flat_agg, flat_sl, flatL_nil, flatL_cons, ownsV_c, ownsV_sl, ownsL_nil, ownsL_cons, Bool.false_eq_true, ↓reduceIte, List.getElem?_cons_zero, List.getElem?_cons_succ, List.length_cons, List.length_nil, List.map_cons, List.map_nil, List.cons_append, List.nil_append, List.append_nil, List.set_cons_zero, List.set_cons_succ, List.getElem?_toArray, Option.bind_some, List.all_cons, List.all_nil, Bool.and_true, Bool.true_and, Bool.and_false, Bool.and_self, Bool.or_true, Value.oneCell', true_and, and_true, and_self, Nat.reduceAdd, Nat.reduceEqDiff, Nat.zero_add, List.isEmpty_nil, Option.isSome_some, Nat.le_refl, Ty.td24, Ty.td40, bne_self_eq_false, List.length_map, firstI_len]
  have hyb : ys.length ≤ 4096 := by have := sizeE_bound cs; rw [p2] at this; simp only at this; omega
  have hjm := join fs (cellL e cs xs (ys.length : Int) n) (e, cs, ys) (by omega) (by rw [cellL_len]; omega) (fun c hc => by
    simp only [cellL, List.mem_map, List.mem_range] at hc
    obtain ⟨i, _, rfl⟩ := hc
    refine ⟨by simp only; omega, ?_⟩
    simp only [partE, List.length_take, List.length_drop]
    omega) (by simp only; omega) (by simp only; omega) (by
    have h := congrArg List.length (cells_flat (e := e) (cs := cs) (xs := xs) (p := ys.length) n (by
      have h1 : n * ys.length ≤ 100 * 4096 := Nat.mul_le_mul (by omega) hyb
      omega))
    rw [List.length_flatten, List.map_map, List.length_take] at h
    have e1 : (fun a : Ar => a.2.2.length) = List.length ∘ fun c : Ar => c.2.2 := rfl
    rw [e1, h]
    omega)
  rw [hjc hc hsp rfl p2 hq] at hjm
  have heq := refEqual e ds xs e ds xs hd hx hd hx
  rw [show eqA e ds xs e ds xs = true by simp [eqA]] at heq
  refine loop_g (fun k : Nat => k ≤ n) (fun k => ⟨116, [(84, I k), (83, I n), (82, listsV (firstI fs n)), (15, backV k), (2, .ptr 0 0), (5, I r), (6, ints fs), (13, .ptr 1 0)], backH e ds xs cs ys k⟩) (fun k => n - k) 0 (Nat.zero_le _) (by simp only [slot_is, aev, cv, cvc, Weak, ↓reduceIte, Bool.and_true, Bool.and_self, and_true, and_self, Nat.reduceEqDiff, backV]; simp) rfl (.inl rfl) ?_
  intro k hk K hK
  simp only at hK
  cases k with
  | zero =>
    simp only [awp_reg, awp_seq, awp_cond, seqQ_n, awpOps_nil, awpOps_one, awpOp_is, putK_is, put_s, slot_is, pureOp, apureO, aev, cv, cvc, binK, ↓reduceIte, Bool.true_and, true_and, Nat.reduceEqDiff, backV, backH]
    refine condA_dec (fun hlt => ?_) (fun hge => ?_)
    · have hlt' : 0 < n := by omega
      have hc1 := hcell 0
      rw [hsp1 hsp rfl p2 (i := 0) hlt] at hc1
      have hx1 : cellL e cs xs (ys.length : Int) 1 = [(e, cs, partE xs ((0 : Nat) : Int) ys.length)] := rfl
      have hf : (firstI fs n)[0]? = some (idxR fs ((0 : Nat) : Int)).1 := by rw [List.getElem?_eq_getElem (by rw [firstI_len]; exact hlt')]; simp [firstI]
      generalize (idxR fs ((0 : Nat) : Int)).1 = ix at *
      generalize partE xs ((0 : Nat) : Int) ys.length = px at *
      simp only [awp_skip, awp_reg, awp_seq, awp_block, seqQ_n, awpOps_nil, awpOps_one, awpOp_is, isCallV, callW_is, callV_is, putK_is, put_s, slot_is, pureOp, apureO, aev, cv, cvc, elO_s, loadA_d, loadA_p, Int.natCast_nonneg, Bool.false_eq_true, ↓reduceIte, List.getElem?_cons_zero, List.length_cons, List.length_nil, List.map_cons, List.map_nil, List.append_nil, Option.map_some, List.take_succ_cons, List.drop_zero, Bool.true_and, true_and, Nat.reduceAdd, Nat.reduceEqDiff, Nat.zero_add, Nat.le_refl, List.take_nil, Ty.td22, Ty.td24, Ty.td40, List.getElem?_map, hf, show Int.toNat ((0 : Nat) : Int) = 0 from rfl]
      refine call_meets (hc1) (by simp only [aev, cv, cvc, toD_c, toD_agg, toD_sl, consO_some, toDL_nil, toDL_cons, Option.map_some, wrap_in (x := ((0 : Nat) : Int) + 1) (by omega) (by omega)]) ?_; simp only [awp_skip, awp_reg, awp_seq, awp_cond, seqQ_n, loopQ_n, blkQ_n, awpOps_nil, awpOps_one, awpOp_is, isCallV, putK_is, updK_is, put_s, upd_n, upd_s, slot_is, slot.eq_1, pureOp, apureO, astepO, appA_own, appV, killT, aev, cv, cvc, binK, elO_s, loadA_p, storeA, cellsA, cellOk, setAll, fillA, condA_f, elemsA, elemsN, chunk, flat_c, flat_tup, flat_agg, flat_sl, flatL_nil, flatL_cons, isD_c, isD_sl, isDL_nil, isDL_cons, ownsV_c, ownsV_agg, ownsV_sl, ownsL_nil, ownsL_cons, Bool.false_eq_true, ↓reduceIte, List.getElem?_cons_zero, List.getElem?_cons_succ, List.length_cons, List.length_nil, List.map_cons, List.map_nil, List.cons_append, List.nil_append, List.append_nil, List.set_cons_zero, List.set_cons_succ, Option.getD_some, List.take_succ_cons, List.drop_zero, List.all_cons, List.all_nil, Bool.and_true, Bool.true_and, Bool.and_false, Bool.and_self, Bool.or_true, Value.oneCell', true_and, and_true, and_self, Nat.reduceAdd, Nat.reduceMul, Nat.reduceLT, Nat.reduceLeDiff, Nat.reduceEqDiff, Nat.reduceMod, Nat.zero_add, List.isEmpty_nil, List.range_succ, List.range_zero, Nat.le_refl, List.take_nil, Ty.td24, Ty.td27, bne_self_eq_false, wrap_in (x := ((0 : Nat) : Int) + 1) (by omega) (by omega)]
      refine hK 1 _ hlt' (by omega) ?_ rfl (.weak (by simp [backH]) (by simp [WeakH, backH, hx1]) rfl rfl)
      simp only [slot_is, aev, cv, cvc, Weak, ↓reduceIte, Bool.and_true, Bool.and_self, and_true, and_self, Nat.reduceEqDiff, Nat.zero_add, backV]
      simp
    · have hk' : n = 0 := by omega
      subst hk'
      have hjm := Meets.nil (pre := [ints fs]) (post := [arrV (e, cs, ys)]) (st := 3) hjm
      simp only [awp_reg, awp_seq, awp_exit, seqQ_n, seqQ_e, loopQ_e, blkQ_e, awpOps_one, awpOp_is, isCallV, callW_is, callV_is, putK_is, put_s, slot_is, pureOp, apureO, aev, cv, cvc, elO_s, loadA_p, Bool.false_eq_true, ↓reduceIte, List.getElem?_cons_zero, List.getElem?_cons_succ, List.length_cons, List.length_nil, List.map_cons, List.map_nil, List.append_nil, List.take_succ_cons, List.drop_zero, Bool.true_and, true_and, Nat.reduceAdd, Nat.reduceEqDiff, Nat.zero_add, Nat.le_refl, List.take_nil, Ty.td24]
      refine call_meets (hjm) (by simp only [aev, cv, cvc, toD_c, toD_nils, toD_agg, toD_sl, consO_some, toDL_nil, toDL_cons, List.cons_append, List.nil_append, Option.map_some]) ?_; simp only [awp_reg, awp_seq, seqQ_n, awpOps_nil, awpOps_one, awpOps_if, awpOp_is, isCallV, callW_is, callV_is, awpO_is, putK_is, updK_is, put_s, upd_n, upd_s, slot_is, pureOp, apureO, astepO, killT, aev, cv, cvc, binK, elO_s, loadA_p, storeA, cellsA, cellOk, setAll, yieldA, guardA_tt, flat_c, flat_tup, flat_agg, flat_sl, flatL_nil, flatL_cons, ownsV_c, ownsV_nils, ownsV_agg, ownsV_sl, ownsL_nil, ownsL_cons, Bool.false_eq_true, ↓reduceIte, List.getElem?_cons_zero, List.getElem?_cons_succ, List.length_cons, List.length_nil, List.map_cons, List.map_nil, List.cons_append, List.nil_append, List.append_nil, List.set_cons_zero, List.set_cons_succ, List.getElem?_toArray, Option.bind_some, List.take_succ_cons, List.drop_zero, List.all_cons, List.all_nil, Bool.and_true, Bool.true_and, Bool.and_false, Bool.and_self, Bool.or_true, Value.oneCell', true_and, and_true, and_self, Nat.reduceAdd, Nat.reduceEqDiff, Nat.zero_add, List.isEmpty_nil, Nat.le_refl, List.take_nil, Ty.td24, beq_self_eq_true]
      refine call_meets (heq) (by simp only [aev, cv, cvc, toD_c, toD_agg, toD_sl, consO_some, toDL_nil, toDL_cons, Option.map_some]) ?_; simp only [awp_ret, seqQ_n, awpOps_nil, awpOps_one, awpOp_is, putK_is, put_s, upd_s, slot_is, retA_is, pureOp, apureO, killT, aev, cv, cvc, pickA_t, flat_c, ownsV_c, ownsV_agg, ownsV_sl, ownsL_nil, ownsL_cons, toD_c, notExit, resA_nil, resA_tmp, oneA_1, ↓reduceIte, List.append_nil, Bool.and_self, Bool.or_true, and_self, Nat.reduceEqDiff, List.isEmpty_nil]
  | succ k =>
    have hbt : List.take (k + 1) (List.map encA (cellL e cs xs (ys.length : Int) (k + 1))) = List.map encA (cellL e cs xs (ys.length : Int) (k + 1)) := List.take_of_length_le (by simp [cellL_len])
    simp only [awp_reg, awp_seq, awp_cond, seqQ_n, awpOps_nil, awpOps_one, awpOp_is, putK_is, put_s, slot_is, pureOp, apureO, aev, cv, cvc, binK, ↓reduceIte, Bool.true_and, true_and, Nat.reduceEqDiff, backV, backH]
    refine condA_dec (fun hlt => ?_) (fun hge => ?_)
    · have hlt' : k + 1 < n := by omega
      have hc1 := hcell (k + 1)
      rw [hsp1 hsp rfl p2 (i := k + 1) hlt] at hc1
      have hst := cellL_step e cs xs (ys.length : Int) (k + 1)
      have hf : (firstI fs n)[k + 1]? = some (idxR fs ((k + 1 : Nat) : Int)).1 := by rw [List.getElem?_eq_getElem (by rw [firstI_len]; exact hlt')]; simp [firstI]
      generalize (idxR fs ((k + 1 : Nat) : Int)).1 = ix at *
      generalize partE xs ((k + 1 : Nat) : Int) ys.length = px at *
      simp only [awp_skip, awp_reg, awp_seq, awp_block, seqQ_n, awpOps_nil, awpOps_one, awpOp_is, isCallV, callW_is, callV_is, putK_is, put_s, slot_is, pureOp, apureO, aev, cv, cvc, elO_s, loadA_d, loadA_p, Int.natCast_nonneg, Bool.false_eq_true, ↓reduceIte, List.getElem?_cons_zero, List.length_cons, List.length_nil, List.map_cons, List.map_nil, List.append_nil, Option.map_some, List.take_succ_cons, List.drop_zero, Bool.true_and, true_and, Nat.reduceAdd, Nat.reduceEqDiff, Nat.zero_add, Int.toNat_natCast, Nat.le_refl, List.take_nil, Ty.td22, Ty.td24, Ty.td40, List.getElem?_map, hf]
      refine call_meets (hc1) (by simp only [aev, cv, cvc, toD_c, toD_agg, toD_sl, consO_some, toDL_nil, toDL_cons, Option.map_some, hbt, wrap_in (x := ((k + 1 : Nat) : Int) + 1) (by omega) (by omega)]) ?_; simp only [awp_skip, awp_reg, awp_seq, awp_cond, seqQ_n, loopQ_n, blkQ_n, awpOps_nil, awpOps_one, awpOp_is, isCallV, putK_is, updK_is, put_s, upd_n, upd_s, slot_is, slot.eq_1, pureOp, apureO, astepO, appA_own, appV, killT, killB, killH, aev, cv, cvc, binK, elO_s, loadA_p, storeA, cellsA, cellOk, setAll, fillA, condA_f, elemsA, elemsN, rowE, chunk, flat_c, flat_tup, flat_agg, flat_sl, flatL_nil, flatL_cons, isD_c, isD_sl, isDL_nil, isDL_cons, ownsV_c, ownsV_agg, ownsV_sl, ownsL_nil, ownsL_cons, killV_c, killV_tup, killV_agg, killV_sl, killV_own, killV_dptr, killV_ptr, killL_nil, killL_cons, Bool.false_eq_true, ↓reduceIte, List.getElem?_cons_zero, List.getElem?_cons_succ, List.length_cons, List.length_nil, List.map_cons, List.map_nil, List.cons_append, List.nil_append, List.append_nil, List.set_cons_zero, List.set_cons_succ, Option.map_some, Option.map_none, Option.getD_some, List.take_succ_cons, List.drop_zero, List.all_cons, List.all_nil, Bool.and_true, Bool.true_and, Bool.and_false, Bool.and_self, Bool.or_true, Bool.or_false, Value.oneCell', true_and, and_true, and_self, reduceCtorEq, Nat.reduceAdd, Nat.reduceMul, Nat.reduceLT, Nat.reduceLeDiff, Nat.reduceEqDiff, Nat.reduceMod, Nat.zero_add, List.isEmpty_nil, List.mem_cons, List.not_mem_nil, or_false, List.range_succ, List.range_zero, Nat.le_refl, List.take_nil, Ty.td24, Ty.td27, bne_self_eq_false, hbt, List.length_map, cellL_len, wrap_in (x := ((k + 1 : Nat) : Int) + 1) (by omega) (by omega)]
      refine ⟨by omega, by omega, ?_⟩
      refine hK (k + 1 + 1) _ hlt' (by omega) ?_ rfl (.weak (by simp [backH]) (by simp [WeakH, backH, hst]) rfl rfl)
      simp only [slot_is, aev, cv, cvc, Weak, ↓reduceIte, Bool.and_true, Bool.and_self, and_true, and_self, Nat.reduceEqDiff, backV]
      simp
    · have hk' : n = k + 1 := by omega
      subst hk'
      simp only [awp_reg, awp_seq, awp_exit, seqQ_n, seqQ_e, loopQ_e, blkQ_e, awpOps_one, awpOp_is, isCallV, callW_is, callV_is, putK_is, put_s, slot_is, pureOp, apureO, aev, cv, cvc, elO_s, loadA_p, Bool.false_eq_true, ↓reduceIte, List.getElem?_cons_zero, List.getElem?_cons_succ, List.length_cons, List.length_nil, List.map_cons, List.map_nil, List.append_nil, List.take_succ_cons, List.drop_zero, Bool.true_and, true_and, Nat.reduceAdd, Nat.reduceEqDiff, Nat.zero_add, Nat.le_refl, List.take_nil, Ty.td24]
      refine call_meets (hjm) (by simp only [aev, cv, cvc, elemsA, toD_c, toD_agg, toD_sl, toD_own, consO_some, toDL_nil, toDL_cons, ↓reduceIte, List.getElem?_cons_zero, List.getElem?_cons_succ, Option.map_some, Bool.and_self, and_self, Nat.le_refl, hbt, List.length_map, cellL_len]) ?_; simp only [awp_reg, awp_seq, seqQ_n, awpOps_nil, awpOps_one, awpOps_if, awpOp_is, isCallV, callW_is, callV_is, awpO_is, putK_is, updK_is, put_s, upd_n, upd_s, slot_is, pureOp, apureO, astepO, killT, killB, killH, aev, cv, cvc, binK, elO_s, loadA_p, storeA, cellsA, cellOk, setAll, yieldA, guardA_tt, elemsA, dropL, flat_c, flat_tup, flat_agg, flat_sl, flatL_nil, flatL_cons, ownsV_c, ownsV_agg, ownsV_sl, ownsV_own, ownsL_nil, ownsL_cons, killV_c, killV_agg, killV_sl, killV_own, killV_ptr, killL_nil, killL_cons, Bool.false_eq_true, ↓reduceIte, List.getElem?_cons_zero, List.getElem?_cons_succ, List.length_cons, List.length_nil, List.map_cons, List.map_nil, List.cons_append, List.nil_append, List.append_nil, List.set_cons_zero, List.set_cons_succ, List.getElem?_toArray, Option.bind_some, Option.map_some, Option.map_none, List.take_succ_cons, List.drop_zero, List.all_cons, List.all_nil, Bool.and_true, Bool.true_and, Bool.and_false, Bool.and_self, Bool.or_false, Value.oneCell', true_and, and_true, and_self, reduceCtorEq, Nat.reduceAdd, Nat.reduceEqDiff, Nat.zero_add, List.isEmpty_cons, List.mem_cons, List.not_mem_nil, or_false, List.zipIdx_cons, List.zipIdx_nil, Nat.le_refl, List.take_nil, Ty.td24, hbt, List.length_map, cellL_len, beq_self_eq_true]
      refine call_meets (heq) (by simp only [aev, cv, cvc, toD_c, toD_agg, toD_sl, consO_some, toDL_nil, toDL_cons, Option.map_some]) ?_; simp only [awp_ret, seqQ_n, awpOps_nil, awpOps_one, awpOp_is, putK_is, put_s, upd_s, slot_is, retA_is, pureOp, apureO, killT, aev, cv, cvc, pickA_t, flat_c, ownsV_c, ownsV_agg, ownsV_sl, ownsL_nil, ownsL_cons, toD_c, notExit, resA_nil, resA_tmp, oneA_1, ↓reduceIte, List.append_nil, Bool.and_self, Bool.or_true, and_self, Nat.reduceEqDiff, List.isEmpty_nil]


theorem end_ (W : World) {v0 : Value} (s : ByteArray) (xs ys : List Int) (h0 : RepD (fun b => b < W.heap.size) W (arr s xs ys) v0) (k : Int) (hk : (Lit.int .u8 k).wf = true) :
    Calls Try.prog 7 #[v0, .int .u8 k] W fun e w' => e = .returned (.bool true) ∧ Below W.heap.size W w' := by
  have h : 0 ≤ k ∧ k ≤ 255 := by simpa [Lit.wf, IntKind.min, IntKind.max, IntKind.signed, IntKind.bits] using hk
  exact law_of (law s xs ys k h.1 h.2) (vs := [v0, .int .u8 k]) ⟨_, _, rfl, h0, _, _, rfl, rfl, rfl⟩
end Go.Proofs.Ytoobaeebgnbpjaa.B16
