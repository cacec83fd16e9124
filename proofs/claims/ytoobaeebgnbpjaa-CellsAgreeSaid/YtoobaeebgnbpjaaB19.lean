/- Cells: the law CellsAgree. -/
import Derived.Test.YtoobaeebgnbpjaaB4
import Derived.Test.YtoobaeebgnbpjaaB18
namespace Go.Proofs.Ytoobaeebgnbpjaa.B19
open Go Go.Proofs.Ytoobaeebgnbpjaa.Eng Go.Proofs.Ytoobaeebgnbpjaa Go.RowKit Go.Proofs.Ytoobaeebgnbpjaa.A1 Go.Proofs.Ytoobaeebgnbpjaa.A2 Go.Proofs.Ytoobaeebgnbpjaa.A3 Go.Proofs.Ytoobaeebgnbpjaa.A4 Go.Proofs.Ytoobaeebgnbpjaa.A5 Go.Proofs.Ytoobaeebgnbpjaa.B1 Go.Proofs.Ytoobaeebgnbpjaa.B2 Go.Proofs.Ytoobaeebgnbpjaa.B4 Go.Proofs.Ytoobaeebgnbpjaa.B5 Go.Proofs.Ytoobaeebgnbpjaa.B7 Go.Proofs.Ytoobaeebgnbpjaa.B18
set_option linter.unusedSimpArgs false
set_option linter.unusedVariables false
set_option linter.unusedSectionVars false
set_option maxRecDepth 100000

def bkV (L st : Nat) : Nat → AV
  | 0 => .nils
  | k + 1 => .own L st (k + 1)
def bkH (X : List Ar) (Y : List Int) : Nat → Heap
  | 0 => []
  | _ + 1 => [none, some (.row 24 3 (X.map encA)), none, some (.row 3 1 (Y.map enc))]

/-- The axes as they lie: nil where an array has no frame. -/
def axV (m : Nat) (b : Bool) : AV := if b then ints (rng m) else .nils
abbrev axR (m : Nat) (bs : List Bool) : List (List AV) := bs.map fun b => [axV m b]
theorem ax_es {ok : Nat → Prop} {w : World} {m b : Nat} : ∀ (bs : List Bool) (o : Nat), RepEs ok w 1 b o (axR m bs) → RepEs ok w 1 b o ((axes m bs).map fun ax => [ints ax])
  | [], _, _ => trivial
  | x :: bs, o, ⟨h1, ⟨⟨u, hu, h1u, hx⟩, _⟩, h3⟩ => by
    refine ⟨rfl, ⟨⟨u, hu, h1u, ?_⟩, trivial⟩, ax_es bs _ h3⟩
    cases x with
    | true => exact hx
    | false => exact nil_imp hx
theorem ax_imp {ok : Nat → Prop} {w : World} {m : Nat} {bs : List Bool} {v : Value} (h : RepD ok w (.sl false 1 (axR m bs)) v) : RepD ok w (lists (axes m bs)) v := by
  obtain ⟨A, cap, h1, h2, h3⟩ := h
  have hl : ((axes m bs).map fun ax => [ints ax]).length = (axR m bs).length := by simp [axes]
  refine ⟨A, cap, by rw [hl]; exact h1, by rw [hl]; exact h2, fun h0 => ?_⟩
  obtain ⟨b, o, q1, q2, q3⟩ := h3 (by rw [← hl]; exact h0)
  exact ⟨b, o, q1, q2, ax_es bs o q3⟩

def axH1 (m : Nat) (bs : List Bool) : Nat → Heap
  | 0 => []
  | i + 1 => [none, some (.row 22 1 (axR m (bs.take (i + 1))))]
def axH3 (m : Nat) (bs : List Bool) : Nat → Heap
  | 0 => []
  | i + 1 => [none, none, none, some (.row 22 1 (axR m (bs.take (i + 1))))]
def inH (H : Heap) : Nat → Heap
  | 0 => H
  | j + 1 => H ++ [none, some (.row 3 1 ((rng (j + 1)).map enc))]
theorem headD_of {bs : List Bool} (b : Bool) (h : bs[0]? = some b) : bs.headD false = b := by cases bs <;> simp_all
theorem ax_step {m i : Nat} {bs : List Bool} {b : Bool} (h : bs[i]? = some b) : axR m (bs.take (i + 1)) = axR m (bs.take i) ++ [[axV m b]] := by
  have hi := (List.getElem?_eq_some_iff.1 h).1
  rw [List.take_add_one, h]
  simp [axR]

theorem zeroZ : Meets Try.prog 31 [.nils] (arr ⟨#[105, 110, 116]⟩ [] [0]) := by
  refine Meets.nil (pre := []) (post := []) (st := 1) ?_
  exact zerosOf [] ⟨#[105, 110, 116]⟩ [] [0] 0 (by simp) (by kernel_rfl)
theorem split0 : splitE (⟨#[105, 110, 116]⟩, [], [0]) 0 = (([], []), 0) := by kernel_rfl

theorem rev_step {α : Type} {l : List α} {k : Nat} (h : k < l.length) : (l.drop (l.length - (k + 1))).reverse = (l.drop (l.length - k)).reverse ++ [l[l.length - (k + 1)]] := by
  have h1 : l.length - (k + 1) < l.length := by omega
  rw [List.drop_eq_getElem_cons h1, List.reverse_cons, show l.length - (k + 1) + 1 = l.length - k by omega]

set_option maxHeartbeats 8000000 in
theorem law (l : List Ar) (rs : List Int) (hlm : l.length ≤ maxLen) (hrm : rs.length ≤ maxLen) (hq : ∀ r ∈ rs, r ≤ 9223372036854775807) : Meets Try.prog 8 [arrs l, ints rs] (B true) := by
  have ha := awake
  have hfw := fewList l hlm
  refine meets_of (X := false) Ty.mixed Try.func8 (by kernel_rfl) rfl (by kernel_rfl) (by simp) ?_; rw [Try.ntmps8, Try.results8]
  simp only [awp_reg, awp_seq, seqQ_n, awpOps_nil, awpOps_one, awpOp_is, isCallV, callW_is, callV_is, putK_is, put_s, pureOp, apureO, aev, cv, cvc, argT, Bool.false_eq_true, ↓reduceIte, List.map_nil, List.append_nil, Nat.zero_add]
  refine call_meets (ha) (by simp only [aev, cv, cvc, toDL_nil]) ?_; simp only [awp_skip, awp_reg, awp_seq, awp_cond, seqQ_n, awpOps_nil, awpOps_one, awpOp_is, isCallV, callW_is, callV_is, putK_is, put_s, upd_s, slot_is, pureOp, apureO, killT, aev, cv, cvc, condA_f, flat_c, ownsL_nil, Bool.false_eq_true, ↓reduceIte, List.map_cons, List.map_nil, List.append_nil, Bool.or_true, Bool.not_true, reduceCtorEq, List.isEmpty_nil]
  cases hfl : fewL l with
  | false =>
    rw [hfl] at hfw
    refine call_meets (hfw) (by simp only [aev, cv, cvc, toD_sl, consO_some, toDL_nil, toDL_cons]) ?_; simp only [awp_reg, awp_seq, awp_cond, awp_ret, seqQ_n, seqQ_r, awpOps_nil, awpOps_one, awpOps_if, awpOp_is, putK_is, put_s, upd_s, slot_is, retA_is, pureOp, apureO, killT, aev, cv, cvc, yieldA, guardA_ft, condA_t, pickA_t, flat_c, ownsV_sl, ownsL_nil, ownsL_cons, toD_c, notExit, resA_nil, resA_tmp, oneA_1, ↓reduceIte, List.getElem?_cons_zero, List.getElem?_cons_succ, List.append_nil, List.getElem?_toArray, Option.bind_some, Bool.and_self, Bool.or_true, Bool.not_false, and_self, Nat.reduceEqDiff, List.isEmpty_nil]
  | true =>
  rw [hfl] at hfw
  obtain ⟨l1, l2⟩ := fewL_ex hfl
  by_cases hlr : (rs.length : Int) = l.length
  case neg => refine call_meets (hfw) (by simp only [aev, cv, cvc, toD_sl, consO_some, toDL_nil, toDL_cons, show ((rs.length : Int) != l.length) = true by simpa using hlr]) ?_; simp only [awp_reg, awp_seq, awp_cond, awp_ret, seqQ_n, seqQ_r, awpOps_nil, awpOps_one, awpOps_if, awpOp_is, awpO_is, putK_is, put_s, upd_s, slot_is, retA_is, pureOp, apureO, killT, aev, cv, cvc, binK, elO_s, lenA, lenK, yieldA, guardA_ff, condA_t, pickA_f, flat_c, ownsV_sl, ownsL_nil, ownsL_cons, toD_c, notExit, resA_nil, resA_tmp, oneA_1, ↓reduceIte, List.getElem?_cons_zero, List.getElem?_cons_succ, List.append_nil, List.getElem?_toArray, Option.bind_some, Bool.and_true, Bool.true_and, Bool.and_self, Bool.or_true, Bool.not_true, true_and, and_true, and_self, reduceCtorEq, Nat.reduceEqDiff, List.isEmpty_nil, Option.isSome_some, Ty.td22, Ty.td27, List.length_map, show ((rs.length : Int) != l.length) = true by simpa using hlr]
  have hll : l.length = rs.length := by omega
  refine call_meets (hfw) (by simp only [aev, cv, cvc, toD_sl, consO_some, toDL_nil, toDL_cons, show ((rs.length : Int) != l.length) = false by simpa using hlr]) ?_; simp only [awp_skip, awp_reg, awp_seq, awp_cond, seqQ_n, awpOps_nil, awpOps_one, awpOps_if, awpOp_is, isCallV, callW_is, callV_is, awpO_is, putK_is, put_s, upd_s, slot_is, pureOp, apureO, killT, aev, cv, cvc, binK, elO_s, lenA, lenK, yieldA, guardA_ff, condA_f, pickA_f, flat_c, ownsV_sl, ownsL_nil, ownsL_cons, Bool.false_eq_true, ↓reduceIte, List.getElem?_cons_zero, List.getElem?_cons_succ, List.map_cons, List.map_nil, List.append_nil, List.getElem?_toArray, Option.bind_some, Bool.true_and, Bool.or_true, Bool.not_true, true_and, reduceCtorEq, Nat.reduceEqDiff, List.isEmpty_nil, Option.isSome_some, Ty.td22, Ty.td27, List.length_map, show ((rs.length : Int) != l.length) = false by simpa using hlr]
  have c1 := frame l rs (by omega) (by omega) l2 hq
  have c2 := frame (l.reverse ++ [(⟨#[105, 110, 116]⟩, [], [0])]) (rs.reverse ++ [0]) (by simp; omega) (by simp; omega) (fun a ha => by
    simp only [List.mem_append, List.mem_reverse, List.mem_singleton] at ha
    rcases ha with ha | rfl
    · exact l2 a ha
    · simp) (fun r hr => by
    simp only [List.mem_append, List.mem_reverse, List.mem_singleton] at hr
    rcases hr with hr | rfl
    · exact hq r hr
    · omega)
  obtain ⟨g1, g2⟩ := agree (z := (⟨#[105, 110, 116]⟩, [], [0])) hll (by rw [split0]) (by simp only [fst1]; rw [split0])
  have hlen : (frameA l rs).1.1.length ≤ 1000000 := by
    unfold frameA
    split
    · simp
    · exact (frameE_len 1000000 l rs [] [] (fun a ha => (l2 a ha).1) (by simp)).1
  have hchk := fun fr bs n => @check_of l rs fr bs n hll
  have hff := fun fr bs => @frame_facts l rs fr bs hll
  have hz0 := zeroZ
  generalize frameA (l.reverse ++ [(⟨#[105, 110, 116]⟩, [], [0])]) (rs.reverse ++ [0]) = y at *
  obtain ⟨⟨fr', bs'⟩, er'⟩ := y
  generalize frameA l rs = x at *
  obtain ⟨⟨fr, bs⟩, er⟩ := x
  simp only at g1 g2 hlen
  refine call_meets (c1) (by simp only [aev, cv, cvc, toD_sl, consO_some, toDL_nil, toDL_cons]) ?_; simp only [awp_reg, awp_seq, awp_block, awp_loop, seqQ_n, awpOps_nil, awpOps_one, awpOp_is, putK_is, put_s, upd_s, slot_is, pureOp, apureO, killT, aev, cv, cvc, binK, elO_s, lenA, lenK, flat_c, flat_tup, flat_sl, flatL_nil, flatL_cons, ownsV_sl, ownsL_nil, ownsL_cons, ↓reduceIte, List.getElem?_cons_zero, List.getElem?_cons_succ, List.append_nil, Bool.and_true, Bool.true_and, Bool.and_self, Bool.or_true, true_and, and_true, and_self, reduceCtorEq, Nat.reduceEqDiff, List.isEmpty_nil, Option.isSome_some, Ty.td27, List.length_map]
  refine loop_g (fun k : Nat => k ≤ l.length) (fun k => ⟨128, [(10, I ((l.length : Int) - 1 - k)), (8, bkV 1 3 k), (9, bkV 3 1 k), (0, arrs l), (1, ints rs), (5, ints fr), (6, bools bs), (7, I er)], bkH (l.drop (l.length - k)).reverse (rs.drop (rs.length - k)).reverse k⟩) (fun k => l.length - k) 0 (Nat.zero_le _) (by simp only [slot_is, aev, cv, cvc, Weak, ↓reduceIte, Bool.and_true, Bool.and_self, and_true, and_self, reduceCtorEq, Nat.reduceEqDiff, bkV, wrap_in (x := (l.length : Int) - 1) (by omega) (by omega)]; simp) rfl (.inl rfl) ?_
  intro k hk K hK
  simp only at hK
  rcases k with _ | k
  case' zero =>
    simp only [awp_reg, awp_seq, awp_cond, seqQ_n, awpOps_nil, awpOps_one, awpOp_is, putK_is, put_s, slot_is, pureOp, apureO, aev, cv, cvc, binK, ↓reduceIte, Bool.true_and, true_and, bkV, bkH]
    refine condA_dec (fun hge => ?a) (fun hlt => ?b)
    case a =>
      have hk' : 0 < l.length := by omega
      have s1 := rev_step (l := l) hk'
      have s2 := rev_step (l := rs) (k := 0) (by omega)
      have hx : l[l.length - 1]? = some l[l.length - 1] := List.getElem?_eq_getElem (by omega)
      have hx2 : rs[l.length - 1]? = some rs[rs.length - 1] := by rw [hll]; exact List.getElem?_eq_getElem (by omega)
      simp only [Nat.zero_add, Nat.sub_zero] at s1 s2
      rw [List.drop_length, List.reverse_nil, List.nil_append] at s1 s2
      generalize l[l.length - 1] = c at *
      generalize rs[rs.length - 1] = r at *
      have hi : ((l.length : Int) - 1 - ((0 : Nat) : Int)).toNat = l.length - 1 := by omega
      obtain ⟨ce, cd, cx⟩ := c
      refine drawS_wild ?_; simp (config := {maxSteps := 2000000}) only [awp_reg, seqQ_n, loopQ_n, blkQ_n, awpOps_nil, awpOps_one, awpOp_is, isCallV, putK_is, put_s, slot_is, slot.eq_1, pureOp, apureO, astepO, bsEnd_is, appA_own, appV, killT, killB, aev, cv, cvc, binK, elO_s, loadA_d, cellsA, cellOk, setAll, fillA, elemsA, elemsN, chunk, isD_c, isD_sl, isDL_nil, isDL_cons, Bool.false_eq_true, ↓reduceIte, List.getElem?_cons_zero, List.getElem?_cons_succ, List.length_cons, List.length_nil, List.map_cons, List.map_nil, List.cons_append, List.nil_append, List.append_nil, List.set_cons_zero, List.set_cons_succ, Option.map_some, Option.getD_some, List.take_succ_cons, List.drop_succ_cons, List.drop_zero, List.all_cons, List.all_nil, Bool.and_true, Bool.true_and, Bool.and_self, Bool.or_true, Bool.false_or, Bool.or_false, Value.oneCell', true_and, and_true, and_self, reduceCtorEq, Nat.reduceAdd, Nat.reduceMul, Nat.reduceLT, Nat.reduceLeDiff, Nat.reduceEqDiff, Nat.reduceMod, Nat.zero_add, List.mem_cons, List.not_mem_nil, or_false, false_or, List.range_succ, List.range_zero, decide_true, decide_false, List.zipIdx_cons, List.zipIdx_nil, Nat.le_refl, List.drop_nil, List.take_nil, List.any_cons, List.any_nil, List.getElem?_nil, awpW_nil, awpW_one, wRun_is, wOp_is, keepK_is, stepK_is, contW_is, nextW_s, confs_nil, confs_cons, conf_is, meet_nil, meet_cons, opV_move, opV_assign, opV_load, opV_indexAddr, opV_buildSlice, opV_builtin, tch_move, tch_assign, tch_load, tch_indexAddr, tch_buildSlice, tch_app, rd_move, rd_assign, rd_load, rd_indexAddr, rd_buildSlice, rd_app, namesV_c, namesV_nils, namesV_sl, namesV_dptr, namesV_own, namesV_agg, namesL_nil, namesL_cons, namesH_nil, namesH_cons, namesB_row, namesB_none, killO_s, killO_no, allLt_is, allIn_is, maskH_is, mergeH_is, setH_is, newL_is, refsT, refsH, refsV, Bool.or_self, Nat.reduceBEq, List.getElem?_nil, Ty.td3, Ty.td22, Ty.td24, Ty.td27, List.getElem?_map, hi, hx, hx2, List.length_map]
      repeat refine ⟨by omega, ?_⟩
      refine ⟨by kernel_rfl, ?_⟩
      refine hK (0 + 1) _ hk' (by omega) ?_ rfl (.weak (by simp [bkH]) (by simp [WeakH, bkH, s1, s2]) rfl rfl)
      simp only [slot_is, aev, cv, cvc, Weak, ↓reduceIte, Bool.and_true, Bool.and_self, and_true, and_self, reduceCtorEq, Nat.reduceEqDiff, Nat.zero_add, bkV, wrap_in (x := (l.length : Int) - 1 - ((0 : Nat) : Int) - 1) (by omega) (by omega)]
      simp
    have h0 : l = [] := List.eq_nil_of_length_eq_zero (by omega)
    have h0' : rs = [] := List.eq_nil_of_length_eq_zero (by omega)
    have e1 : l.reverse ++ [((⟨#[105, 110, 116]⟩, [], [0]) : Ar)] = [(⟨#[105, 110, 116]⟩, [], [0])] := by rw [h0]; rfl
    have e2 : rs.reverse ++ [(0 : Int)] = [0] := by rw [h0']; rfl
    rw [e1, e2] at c2
    simp only [arrs, ints, List.map_cons, List.map_nil] at c2
    have tkA : (0 : Nat) = 0 := rfl
    have tkB : (0 : Nat) = 0 := rfl
    have tk3 : (0 : Nat) = 0 := rfl
    have tk4 : (0 : Nat) = 0 := rfl
    simp only [awp_reg, awp_seq, awp_exit, seqQ_n, seqQ_e, loopQ_e, blkQ_e, awpOps_one, awpOp_is, isCallV, callW_is, callV_is, putK_is, put_s, slot_is, pureOp, apureO, aev, cv, cvc, Bool.false_eq_true, ↓reduceIte, List.map_cons, List.map_nil, List.append_nil, Nat.reduceEqDiff]
    refine call_meets (hz0) (by simp only [aev, cv, cvc, toD_nils, consO_some, toDL_nil, toDL_cons]) ?_; simp only [awpOps_one, awpOp_is, isCallV, callW_is, callV_is, putK_is, updK_is, put_s, upd_s, slot_is, slot.eq_1, pureOp, apureO, astepO, bsEnd_is, appA_own, appV, killT, aev, cv, cvc, elO_s, cellsA, cellOk, setAll, fillA, elemsA, elemsN, chunk, flat_c, flat_agg, flat_sl, flatL_nil, flatL_cons, isD_c, isD_sl, isDL_nil, isDL_cons, ownsV_nils, ownsL_nil, ownsL_cons, Bool.false_eq_true, ↓reduceIte, List.getElem?_cons_zero, List.getElem?_cons_succ, List.length_cons, List.length_nil, List.map_cons, List.map_nil, List.cons_append, List.nil_append, List.append_nil, List.set_cons_zero, List.set_cons_succ, List.take_succ_cons, List.drop_zero, List.all_cons, List.all_nil, Bool.and_true, Bool.true_and, Bool.and_false, Bool.and_self, Bool.or_true, Value.oneCell', true_and, and_true, and_self, Nat.reduceAdd, Nat.reduceMul, Nat.reduceLT, Nat.reduceLeDiff, Nat.reduceEqDiff, Nat.reduceMod, Nat.zero_add, List.isEmpty_nil, List.range_succ, List.range_zero, Nat.le_refl, List.take_nil, Ty.td3, Ty.td22, Ty.td24, Ty.td27]
  case' succ =>
    simp only [awp_reg, awp_seq, awp_cond, seqQ_n, awpOps_nil, awpOps_one, awpOp_is, putK_is, put_s, slot_is, pureOp, apureO, aev, cv, cvc, binK, ↓reduceIte, Bool.true_and, true_and, bkV, bkH]
    refine condA_dec (fun hge => ?a) (fun hlt => ?b)
    case a =>
      have hk' : k + 1 < l.length := by omega
      have s1 := rev_step (l := l) hk'
      have s2 := rev_step (l := rs) (k := k + 1) (by omega)
      have hx : l[l.length - (k + 1 + 1)]? = some l[l.length - (k + 1 + 1)] := List.getElem?_eq_getElem (by omega)
      have hx2 : rs[l.length - (k + 1 + 1)]? = some rs[rs.length - (k + 1 + 1)] := by rw [hll]; exact List.getElem?_eq_getElem (by omega)
      generalize l[l.length - (k + 1 + 1)] = c at *
      generalize rs[rs.length - (k + 1 + 1)] = r at *
      have hi : ((l.length : Int) - 1 - ((k + 1 : Nat) : Int)).toNat = l.length - (k + 1 + 1) := by omega
      obtain ⟨ce, cd, cx⟩ := c
      have hlX : (l.drop (l.length - (k + 1))).reverse.length = k + 1 := by simp; omega
      have hlY : (rs.drop (rs.length - (k + 1))).reverse.length = k + 1 := by simp; omega
      generalize (l.drop (l.length - (k + 1))).reverse = X at *
      generalize (rs.drop (rs.length - (k + 1))).reverse = Y at *
      have t1 : List.take (k + 1) (List.map encA X) = List.map encA X := List.take_of_length_le (by simp [hlX])
      have t2 : List.take (k + 1) (List.map enc Y) = List.map enc Y := List.take_of_length_le (by simp [hlY])
      refine drawS_wild ?_; simp (config := {maxSteps := 2000000}) only [awp_reg, seqQ_n, loopQ_n, blkQ_n, awpOps_nil, awpOps_one, awpOp_is, isCallV, putK_is, put_s, slot_is, slot.eq_1, pureOp, apureO, astepO, bsEnd_is, appA_own, appV, killT, killB, killH, aev, cv, cvc, binK, elO_s, loadA_d, cellsA, cellOk, setAll, fillA, elemsA, elemsN, rowE, chunk, isD_c, isD_sl, isDL_nil, isDL_cons, killV_c, killV_junk, killV_agg, killV_sl, killV_own, killV_dptr, killL_nil, killL_cons, Bool.false_eq_true, ↓reduceIte, List.getElem?_cons_zero, List.getElem?_cons_succ, List.length_cons, List.length_nil, List.map_cons, List.map_nil, List.cons_append, List.nil_append, List.append_nil, List.set_cons_zero, List.set_cons_succ, Option.map_some, Option.map_none, Option.getD_some, List.take_succ_cons, List.drop_succ_cons, List.drop_zero, List.all_cons, List.all_nil, Bool.and_true, Bool.true_and, Bool.and_self, Bool.or_true, Bool.false_or, Bool.or_false, Value.oneCell', true_and, and_true, and_self, reduceCtorEq, Nat.reduceAdd, Nat.reduceMul, Nat.reduceLT, Nat.reduceLeDiff, Nat.reduceEqDiff, Nat.reduceMod, Nat.zero_add, List.mem_cons, List.not_mem_nil, or_false, false_or, List.range_succ, List.range_zero, decide_true, decide_false, List.zipIdx_cons, List.zipIdx_nil, Nat.le_refl, List.drop_nil, List.take_nil, List.any_cons, List.any_nil, List.getElem?_nil, awpW_nil, awpW_one, wRun_is, wOp_is, keepK_is, stepK_is, contW_is, nextW_s, confs_nil, confs_cons, conf_is, meet_nil, meet_cons, opV_move, opV_assign, opV_load, opV_indexAddr, opV_buildSlice, opV_builtin, tch_move, tch_assign, tch_load, tch_indexAddr, tch_buildSlice, tch_app, rd_move, rd_assign, rd_load, rd_indexAddr, rd_buildSlice, rd_app, namesV_c, namesV_sl, namesV_dptr, namesV_own, namesV_agg, namesL_nil, namesL_cons, namesH_nil, namesH_cons, namesB_row, namesB_none, killO_s, killO_n, allLt_is, allIn_is, maskH_is, mergeH_is, setH_is, newL_is, refsT, refsH, refsV, Bool.or_self, Nat.reduceBEq, List.getElem?_nil, Ty.td3, Ty.td22, Ty.td24, Ty.td27, List.getElem?_map, hi, hx, hx2, List.length_map, hlX, hlY, t1, t2]
      repeat refine ⟨by omega, ?_⟩
      refine ⟨by kernel_rfl, ?_⟩
      refine hK (k + 1 + 1) _ hk' (by omega) ?_ rfl (.weak (by simp [bkH]) (by simp [WeakH, bkH, s1, s2]) rfl rfl)
      simp only [slot_is, aev, cv, cvc, Weak, ↓reduceIte, Bool.and_true, Bool.and_self, and_true, and_self, reduceCtorEq, Nat.reduceEqDiff, bkV, wrap_in (x := (l.length : Int) - 1 - ((k + 1 : Nat) : Int) - 1) (by omega) (by omega)]
      simp
      omega
    have hk' : k + 1 = l.length := by omega
    rw [hk', Nat.sub_self, List.drop_zero, show rs.length - l.length = 0 by omega, List.drop_zero]
    have tk1 : List.take l.length (List.map encA l.reverse) = List.map encA l.reverse := List.take_of_length_le (by simp)
    have tk2 : List.take l.length (List.map enc rs.reverse) = List.map enc rs.reverse := List.take_of_length_le (by simp; omega)
    have tk3 : l.reverse.length = l.length := by simp
    have tk4 : rs.reverse.length = l.length := by simp [hll]
    have tkA : List.take (l.length + 1) (List.map encA l.reverse ++ [[S ⟨#[105, 110, 116]⟩, ints [], ints [0]]]) = List.map encA l.reverse ++ [[S ⟨#[105, 110, 116]⟩, ints [], ints [0]]] := List.take_of_length_le (by simp)
    have tkB : List.take (l.length + 1) (List.map enc rs.reverse ++ [[.c (.int .i64 0)]]) = List.map enc rs.reverse ++ [[.c (.int .i64 0)]] := List.take_of_length_le (by simp [hll])
    simp only [arrs, ints, List.map_append, List.map_cons, List.map_nil] at c2
    simp only [awp_reg, awp_seq, awp_exit, seqQ_n, seqQ_e, loopQ_e, blkQ_e, awpOps_one, awpOp_is, isCallV, callW_is, callV_is, putK_is, put_s, slot_is, pureOp, apureO, aev, cv, cvc, Bool.false_eq_true, ↓reduceIte, List.map_cons, List.map_nil, List.append_nil, Nat.reduceEqDiff]
    refine call_meets (hz0) (by simp only [aev, cv, cvc, toD_nils, consO_some, toDL_nil, toDL_cons, tk1, tk2, tk3, tk4]) ?_; simp only [awpOps_one, awpOp_is, isCallV, callW_is, callV_is, putK_is, updK_is, put_s, upd_s, slot_is, slot.eq_1, pureOp, apureO, astepO, bsEnd_is, appA_own, appV, killT, killB, killH, aev, cv, cvc, elO_s, cellsA, cellOk, setAll, fillA, elemsA, elemsN, rowE, chunk, flat_c, flat_agg, flat_sl, flatL_nil, flatL_cons, isD_c, isD_sl, isDL_nil, isDL_cons, ownsV_nils, ownsL_nil, ownsL_cons, killV_c, killV_junk, killV_agg, killV_sl, killV_own, killL_nil, killL_cons, Bool.false_eq_true, ↓reduceIte, List.getElem?_cons_zero, List.getElem?_cons_succ, List.length_cons, List.length_nil, List.map_cons, List.map_nil, List.cons_append, List.nil_append, List.append_nil, List.set_cons_zero, List.set_cons_succ, Option.map_some, Option.map_none, List.take_succ_cons, List.drop_zero, List.all_cons, List.all_nil, Bool.and_true, Bool.true_and, Bool.and_false, Bool.and_self, Bool.or_true, Bool.or_false, Value.oneCell', true_and, and_true, and_self, Nat.reduceAdd, Nat.reduceMul, Nat.reduceLT, Nat.reduceLeDiff, Nat.reduceEqDiff, Nat.reduceMod, Nat.zero_add, List.isEmpty_nil, List.mem_cons, List.not_mem_nil, or_false, List.range_succ, List.range_zero, Nat.le_refl, List.take_nil, List.getElem?_nil, Ty.td3, Ty.td22, Ty.td24, Ty.td27, tk1, tk2, tk3, tk4, List.length_map]
    repeat refine ⟨by omega, ?_⟩
  all_goals
    by_cases her : er = 0
    case neg =>
      have her' : er' ≠ 0 := fun h => her (g1.1 h)
      refine call_meets (c2) (by simp only [aev, cv, cvc, elemsA, toD_own, consO_some, toDL_nil, toDL_cons, ↓reduceIte, List.getElem?_cons_zero, List.getElem?_cons_succ, List.length_cons, List.length_nil, Option.map_some, List.take_succ_cons, Bool.and_self, and_self, Nat.zero_add, Nat.le_refl, List.take_nil, tkA, tkB, tk3, tk4, List.length_append, List.length_map, show (er != 0) = true by simpa using her, show (er' != 0) = true by simpa using her']) ?_; simp only [awp_reg, awp_seq, awp_cond, awp_ret, seqQ_n, seqQ_r, awpOps_nil, awpOps_one, awpOp_is, putK_is, put_s, upd_s, slot_is, retA_is, pureOp, apureO, killT, killB, killH, aev, cv, cvc, binK, elO_s, condA_t, elemsA, dropL, flat_c, flat_tup, flat_sl, flatL_nil, flatL_cons, ownsV_own, ownsL_nil, ownsL_cons, toD_c, killV_c, killV_nils, killV_junk, killV_agg, killV_sl, killV_own, killL_nil, killL_cons, notExit, resA_nil, resA_tmp, oneA_1, Bool.false_eq_true, ↓reduceIte, List.getElem?_cons_zero, List.getElem?_cons_succ, List.length_cons, List.length_nil, List.map_cons, List.map_nil, List.cons_append, List.nil_append, List.append_nil, Option.map_some, Option.map_none, List.take_succ_cons, Bool.and_true, Bool.and_self, Bool.false_or, Bool.or_false, and_true, and_self, reduceCtorEq, Nat.reduceAdd, Nat.reduceEqDiff, Nat.zero_add, List.isEmpty_cons, List.mem_cons, List.not_mem_nil, or_false, false_or, List.zipIdx_cons, List.zipIdx_nil, Nat.le_refl, List.take_nil, tkA, tkB, tk3, tk4, List.length_append, List.length_map, show (er != 0) = true by simpa using her, show (er' != 0) = true by simpa using her']
    have her' : er' = 0 := g1.2 her
    have hfr := g2 her
    subst her her'
    rw [hfr] at c2
    obtain ⟨hbl, hbf⟩ := hff fr bs rfl
    have s1 := sameInts fr fr hlen hlen
    rw [beq_self_eq_true] at s1
    have hz := refSize fr hlen
    have hck := hchk fr bs
    have hb1 : ((bs.length : Int) != l.length) = false := by simp [hbl]
    refine call_meets (c2) (by simp only [aev, cv, cvc, elemsA, toD_own, consO_some, toDL_nil, toDL_cons, ↓reduceIte, List.getElem?_cons_zero, List.getElem?_cons_succ, List.length_cons, List.length_nil, Option.map_some, List.take_succ_cons, Bool.and_self, and_self, Nat.zero_add, Nat.le_refl, List.take_nil, tkA, tkB, tk3, tk4, List.length_append, List.length_map]) ?_; simp only [awp_skip, awp_reg, awp_seq, awp_cond, seqQ_n, awpOps_nil, awpOps_one, awpOps_if, awpOp_is, isCallV, callW_is, callV_is, awpO_is, putK_is, put_s, upd_s, slot_is, pureOp, apureO, killT, killB, killH, aev, cv, cvc, binK, elO_s, yieldA, guardA_ff, condA_f, elemsA, dropL, flat_c, flat_tup, flat_sl, flatL_nil, flatL_cons, ownsV_own, ownsL_nil, ownsL_cons, killV_c, killV_nils, killV_junk, killV_agg, killV_sl, killV_own, killL_nil, killL_cons, Bool.false_eq_true, ↓reduceIte, List.getElem?_cons_zero, List.getElem?_cons_succ, List.length_cons, List.length_nil, List.map_cons, List.map_nil, List.cons_append, List.nil_append, List.append_nil, List.getElem?_toArray, Option.bind_some, Option.map_some, Option.map_none, List.take_succ_cons, Bool.and_true, Bool.true_and, Bool.and_self, Bool.false_or, Bool.or_false, true_and, and_true, and_self, reduceCtorEq, Nat.reduceAdd, Nat.reduceEqDiff, Nat.zero_add, List.isEmpty_cons, List.mem_cons, List.not_mem_nil, or_false, false_or, List.zipIdx_cons, List.zipIdx_nil, Nat.le_refl, List.take_nil, tkA, tkB, tk3, tk4, List.length_append, List.length_map, bne_self_eq_false]
    refine call_meets (s1) (by simp only [aev, cv, cvc, toD_sl, consO_some, toDL_nil, toDL_cons, hb1]) ?_; simp only [awp_skip, awp_reg, awp_seq, awp_cond, seqQ_n, awpOps_nil, awpOps_one, awpOps_if, awpOp_is, isCallV, callW_is, callV_is, awpO_is, putK_is, put_s, upd_s, slot_is, pureOp, apureO, killT, aev, cv, cvc, binK, elO_s, lenA, lenK, yieldA, guardA_ff, condA_f, pickA_f, flat_c, ownsV_sl, ownsL_nil, ownsL_cons, Bool.false_eq_true, ↓reduceIte, List.getElem?_cons_zero, List.getElem?_cons_succ, List.map_cons, List.map_nil, List.append_nil, List.getElem?_toArray, Option.bind_some, Bool.true_and, Bool.or_true, Bool.not_true, true_and, reduceCtorEq, Nat.reduceEqDiff, List.isEmpty_nil, Option.isSome_some, Ty.td27, Ty.td36, hb1, List.length_map]
    by_cases hz1 : (sizeE fr).2 = 0
    case neg =>
      generalize sizeE fr = z at *
      refine call_meets (hz) (by simp only [aev, cv, cvc, toD_sl, consO_some, toDL_nil, toDL_cons, show (z.2 != 0) = true by simpa using hz1]) ?_; simp only [awp_reg, awp_seq, awp_cond, awp_ret, seqQ_n, seqQ_r, awpOps_nil, awpOps_one, awpOp_is, putK_is, put_s, upd_s, slot_is, retA_is, pureOp, apureO, killT, aev, cv, cvc, binK, elO_s, condA_t, flat_c, flat_tup, flatL_nil, flatL_cons, ownsV_sl, ownsL_nil, ownsL_cons, toD_c, notExit, resA_nil, resA_tmp, oneA_1, ↓reduceIte, List.getElem?_cons_zero, List.getElem?_cons_succ, List.append_nil, Bool.and_self, Bool.or_true, and_self, Nat.reduceEqDiff, List.isEmpty_nil, show (z.2 != 0) = true by simpa using hz1]
    have hck2 := (hck (sizeE fr).1 rfl (Prod.ext rfl hz1)).1
    clear hck hchk
    generalize sizeE fr = z at *
    have c3 := check20 fr (axes fr.length bs) rs l hlen (fun a ha => by
      simp only [axes, List.mem_map] at ha
      obtain ⟨b, _, rfl⟩ := ha
      split
      · rw [rng_len]; exact hlen
      · simp) (by omega) l2 hq
    rw [hck2] at c3
    have c4 := c3.args (args' := [ints fr, .sl false 1 (axR fr.length bs), ints rs, arrs l]) fun ok w vs ⟨u1, us1, e1, h1, u2, us2, e2, h2, h3⟩ => ⟨u1, us1, e1, h1, u2, us2, e2, ax_imp h2, h3⟩
    refine call_meets (hz) (by simp only [aev, cv, cvc, toD_sl, consO_some, toDL_nil, toDL_cons, show (z.2 != 0) = false by simpa using hz1]) ?_; simp only [awp_skip, awp_reg, awp_seq, awp_cond, awp_block, awp_loop, seqQ_n, awpOps_nil, awpOps_one, awpOp_is, putK_is, put_s, upd_s, slot_is, pureOp, apureO, killT, aev, cv, cvc, binK, elO_s, lenA, lenK, condA_f, flat_c, flat_tup, flatL_nil, flatL_cons, ownsV_sl, ownsL_nil, ownsL_cons, ↓reduceIte, List.getElem?_cons_zero, List.getElem?_cons_succ, List.append_nil, Bool.true_and, Bool.and_self, Bool.or_true, true_and, and_self, reduceCtorEq, Nat.reduceEqDiff, List.isEmpty_nil, Option.isSome_some, Ty.td27, show (z.2 != 0) = false by simpa using hz1, List.length_map]
    have hhd := fun b => @headD_of bs b
    cases hb0 : bs.headD false
    case false =>
      refine loop_g (fun i : Nat => i ≤ l.length) (fun i => ⟨128, [(100, I i), (99, I l.length), (16, bkV 1 1 i), (5, ints fr), (6, bools bs), (0, arrs l), (1, ints rs)], axH1 fr.length bs i⟩) (fun i => l.length - i) 0 (Nat.zero_le _) (by simp only [slot_is, aev, cv, cvc, Weak, ↓reduceIte, Bool.and_true, Bool.and_self, and_true, and_self, reduceCtorEq, Nat.reduceEqDiff, bkV]; simp) rfl (.weak (by simp [axH1]) (by simp [WeakH, axH1]) rfl rfl) ?_
      intro i hi K2 hK2
      simp only at hK2
      cases i with
      | zero =>
        simp only [awp_reg, awp_seq, awp_cond, seqQ_n, awpOps_nil, awpOps_one, awpOp_is, putK_is, put_s, slot_is, pureOp, apureO, aev, cv, cvc, binK, ↓reduceIte, Bool.true_and, true_and, Nat.reduceEqDiff, bkV, axH1]
        refine condA_dec (fun hlt => ?_) (fun hge => ?_)
        · have hlt' : 0 < l.length := by omega
          have hx : bs[0]? = some false := by
            have h1 : bs[0]? = some bs[0] := List.getElem?_eq_getElem (by omega)
            rw [h1, ← hb0, hhd _ h1]
          have hst := ax_step (m := fr.length) hx
          simp only [List.take_zero, axR, List.map_nil, List.nil_append] at hst
          simp only [awp_skip, awp_reg, awp_seq, awp_block, awp_loop, seqQ_n, awpOps_nil, awpOps_one, awpOp_is, putK_is, put_s, slot_is, pureOp, apureO, aev, cv, cvc, elO_s, lenA, lenK, ↓reduceIte, Bool.true_and, true_and, Nat.reduceEqDiff, Option.isSome_some, Ty.td22, List.length_map]
          refine loop_k (fun j : Nat => j ≤ fr.length) (fun j => ⟨128, [(105, I j), (104, I fr.length), (18, .nils), (17, I ((0 : Nat) : Int)), (100, I ((0 : Nat) : Int)), (99, I l.length), (16, bkV 1 1 (0)), (5, ints fr), (6, bools bs), (0, arrs l), (1, ints rs)], []⟩) (fun j => fr.length - j) 0 (Nat.zero_le _) (by simp only [slot_is, aev, cv, cvc, Weak, ↓reduceIte, Bool.and_true, Bool.and_self, and_true, and_self, reduceCtorEq, Nat.reduceEqDiff, bkV]; simp) rfl rfl ?_
          intro j hj K3 hK3
          simp only at hK3
          simp only [awp_reg, awp_seq, awp_cond, seqQ_n, awpOps_nil, awpOps_one, awpOp_is, putK_is, put_s, slot_is, pureOp, apureO, aev, cv, cvc, binK, ↓reduceIte, Bool.true_and, true_and, Nat.reduceEqDiff, bkV]
          refine condA_dec (fun hjl => ?_) (fun hjg => ?_)
          · simp only [awp_skip, awp_reg, awp_seq, awp_cond, awp_block, seqQ_n, loopQ_n, blkQ_n, awpOps_nil, awpOps_one, awpOp_is, putK_is, put_s, slot_is, pureOp, apureO, aev, cv, cvc, binK, elO_s, loadA_d, condA_f, Int.natCast_nonneg, Bool.false_eq_true, ↓reduceIte, List.getElem?_cons_zero, Option.map_some, Bool.true_and, true_and, Nat.reduceEqDiff, Int.toNat_natCast, Ty.td4, Ty.td36, List.getElem?_map, hx, wrap_in (x := (j : Int) + 1) (by omega) (by omega)]
            refine hK3 (j + 1) _ (by omega) (by omega) ?_ rfl rfl
            simp only [slot_is, aev, cv, cvc, Weak, ↓reduceIte, Bool.and_true, Bool.and_self, and_true, and_self, reduceCtorEq, Nat.reduceEqDiff, bkV]
            simp
          · simp only [awp_reg, awp_exit, seqQ_n, seqQ_e, loopQ_n, loopQ_e, blkQ_n, blkQ_e, awpOps_nil, awpOps_one, awpOp_is, isCallV, putK_is, updK_is, put_s, upd_s, slot_is, slot.eq_1, pureOp, apureO, astepO, bsEnd_is, appA_own, appV, killT, aev, cv, cvc, binK, elO_s, cellsA, cellOk, setAll, fillA, elemsA, elemsN, chunk, isD_nils, isDL_nil, isDL_cons, Bool.false_eq_true, ↓reduceIte, List.getElem?_cons_zero, List.length_cons, List.length_nil, List.map_cons, List.map_nil, List.cons_append, List.nil_append, List.set_cons_zero, List.take_succ_cons, List.drop_zero, List.all_cons, List.all_nil, Bool.true_and, Bool.and_self, Value.oneCell', true_and, and_self, Nat.reduceMul, Nat.reduceLT, Nat.reduceLeDiff, Nat.reduceEqDiff, Nat.reduceMod, Nat.zero_add, List.range_succ, List.range_zero, Nat.le_refl, List.take_nil, Ty.td22, Ty.td40, wrap_in (x := (((0 : Nat) : Int)) + 1) (by omega) (by omega)]
            repeat refine ⟨by omega, ?_⟩
            refine hK2 (0 + 1) _ hlt' (by omega) ?_ rfl (.weak (by simp [axH1]) (by simp [WeakH, axH1, hst, axV]) rfl rfl)
            simp only [slot_is, aev, cv, cvc, Weak, ↓reduceIte, Bool.and_true, Bool.and_self, and_true, and_self, reduceCtorEq, Nat.reduceEqDiff, Nat.zero_add, bkV]
            simp
        · have h0 : bs = [] := List.eq_nil_of_length_eq_zero (by omega)
          rw [h0] at c4
          have c5 := Meets.nil (pre := [ints fr]) (post := [ints rs, arrs l]) (st := 1) c4
          simp only [awp_reg, awp_seq, awp_exit, seqQ_n, seqQ_e, loopQ_e, blkQ_e, awpOps_one, awpOp_is, isCallV, callW_is, callV_is, putK_is, put_s, slot_is, pureOp, apureO, aev, cv, cvc, Bool.false_eq_true, ↓reduceIte, List.map_cons, List.map_nil, List.append_nil, reduceCtorEq, Nat.reduceEqDiff]
          refine call_meets (c5) (by simp only [aev, cv, cvc, toD_nils, toD_sl, consO_some, toDL_nil, toDL_cons, List.cons_append, List.nil_append]) ?_; simp only [awp_ret, seqQ_n, awpOps_nil, awpOps_one, awpOp_is, putK_is, put_s, upd_s, slot_is, retA_is, pureOp, apureO, killT, aev, cv, cvc, binK, flat_c, ownsV_nils, ownsV_sl, ownsL_nil, ownsL_cons, toD_c, notExit, resA_nil, resA_tmp, oneA_1, ↓reduceIte, List.append_nil, Bool.and_self, Bool.or_true, and_self, List.isEmpty_nil, beq_self_eq_true]
      | succ i =>
        have hal : (axR fr.length (bs.take (i + 1))).length = i + 1 := by simp; omega
        have tkR : List.take (i + 1) (axR fr.length (bs.take (i + 1))) = axR fr.length (bs.take (i + 1)) := List.take_of_length_le (by omega)
        simp only [awp_reg, awp_seq, awp_cond, seqQ_n, awpOps_nil, awpOps_one, awpOp_is, putK_is, put_s, slot_is, pureOp, apureO, aev, cv, cvc, binK, ↓reduceIte, Bool.true_and, true_and, Nat.reduceEqDiff, bkV, axH1]
        refine condA_dec (fun hlt => ?_) (fun hge => ?_)
        · have hlt' : i + 1 < l.length := by omega
          have h1 : bs[i + 1]? = some bs[i + 1] := List.getElem?_eq_getElem (by omega)
          have hmem : bs[i + 1] ∈ bs := List.getElem_mem _
          generalize bs[i + 1] = b at *
          have hst := ax_step (m := fr.length) h1
          simp only [awp_skip, awp_reg, awp_seq, awp_block, awp_loop, seqQ_n, awpOps_nil, awpOps_one, awpOp_is, putK_is, put_s, slot_is, pureOp, apureO, aev, cv, cvc, elO_s, lenA, lenK, ↓reduceIte, Bool.true_and, true_and, Nat.reduceEqDiff, Option.isSome_some, Ty.td22, List.length_map]
          cases b with
          | false =>
            refine loop_k (fun j : Nat => j ≤ fr.length) (fun j => ⟨128, [(105, I j), (104, I fr.length), (18, .nils), (17, I ((i + 1 : Nat) : Int)), (100, I ((i + 1 : Nat) : Int)), (99, I l.length), (16, bkV 1 1 (i + 1)), (5, ints fr), (6, bools bs), (0, arrs l), (1, ints rs)], [none, some (.row 22 1 (axR fr.length (bs.take (i + 1))))]⟩) (fun j => fr.length - j) 0 (Nat.zero_le _) (by simp only [slot_is, aev, cv, cvc, Weak, ↓reduceIte, Bool.and_true, Bool.and_self, and_true, and_self, reduceCtorEq, Nat.reduceEqDiff, bkV]; simp) rfl rfl ?_
            intro j hj K3 hK3
            simp only at hK3
            simp only [awp_reg, awp_seq, awp_cond, seqQ_n, awpOps_nil, awpOps_one, awpOp_is, putK_is, put_s, slot_is, pureOp, apureO, aev, cv, cvc, binK, ↓reduceIte, Bool.true_and, true_and, Nat.reduceEqDiff, bkV]
            refine condA_dec (fun hjl => ?_) (fun hjg => ?_)
            · simp only [awp_skip, awp_reg, awp_seq, awp_cond, awp_block, seqQ_n, loopQ_n, blkQ_n, awpOps_nil, awpOps_one, awpOp_is, putK_is, put_s, slot_is, pureOp, apureO, aev, cv, cvc, binK, elO_s, loadA_d, condA_f, Int.natCast_nonneg, Bool.false_eq_true, ↓reduceIte, List.getElem?_cons_zero, Option.map_some, Bool.true_and, true_and, Nat.reduceEqDiff, Int.toNat_natCast, Ty.td4, Ty.td36, List.getElem?_map, h1, wrap_in (x := (j : Int) + 1) (by omega) (by omega)]
              refine hK3 (j + 1) _ (by omega) (by omega) ?_ rfl rfl
              simp only [slot_is, aev, cv, cvc, Weak, ↓reduceIte, Bool.and_true, Bool.and_self, and_true, and_self, reduceCtorEq, Nat.reduceEqDiff, bkV]
              simp
            · simp only [awp_reg, awp_exit, seqQ_n, seqQ_e, loopQ_n, loopQ_e, blkQ_n, blkQ_e, awpOps_nil, awpOps_one, awpOp_is, isCallV, putK_is, updK_is, put_s, upd_s, slot_is, slot.eq_1, pureOp, apureO, astepO, bsEnd_is, appA_own, appV, killT, killB, killH, aev, cv, cvc, binK, elO_s, cellsA, cellOk, setAll, fillA, elemsA, elemsN, rowE, chunk, isD_nils, isDL_nil, isDL_cons, killV_c, killV_nils, killV_sl, killV_own, Bool.false_eq_true, ↓reduceIte, List.getElem?_cons_zero, List.getElem?_cons_succ, List.length_cons, List.length_nil, List.map_cons, List.map_nil, List.cons_append, List.nil_append, List.set_cons_zero, List.set_cons_succ, Option.map_some, Option.map_none, List.take_succ_cons, List.drop_zero, List.all_cons, List.all_nil, Bool.true_and, Bool.and_self, Bool.or_false, Value.oneCell', true_and, and_self, Nat.reduceAdd, Nat.reduceMul, Nat.reduceLT, Nat.reduceLeDiff, Nat.reduceEqDiff, Nat.reduceMod, Nat.zero_add, List.mem_cons, List.not_mem_nil, or_false, List.range_succ, List.range_zero, Nat.le_refl, List.take_nil, List.getElem?_nil, Ty.td22, Ty.td40, tkR, hal, wrap_in (x := (((i + 1 : Nat) : Int)) + 1) (by omega) (by omega)]
              repeat refine ⟨by omega, ?_⟩
              refine hK2 (i + 1 + 1) _ hlt' (by omega) ?_ rfl (.weak (by simp [axH1]) (by simp [WeakH, axH1, hst, axV]) rfl rfl)
              simp only [slot_is, aev, cv, cvc, Weak, ↓reduceIte, Bool.and_true, Bool.and_self, and_true, and_self, reduceCtorEq, Nat.reduceEqDiff, bkV]
              simp
          | true =>
            have hm : 0 < fr.length := by
              rcases Nat.eq_zero_or_pos fr.length with h | h
              · have := hbf (List.eq_nil_of_length_eq_zero h) true hmem
                cases this
              · exact h
            refine loop_g (fun j : Nat => j ≤ fr.length) (fun j => ⟨128, [(105, I j), (104, I fr.length), (18, bkV 3 1 j), (17, I ((i + 1 : Nat) : Int)), (100, I ((i + 1 : Nat) : Int)), (99, I l.length), (16, bkV 1 1 (i + 1)), (5, ints fr), (6, bools bs), (0, arrs l), (1, ints rs)], inH [none, some (.row 22 1 (axR fr.length (bs.take (i + 1))))] j⟩) (fun j => fr.length - j) 0 (Nat.zero_le _) (by simp only [slot_is, aev, cv, cvc, Weak, ↓reduceIte, Bool.and_true, Bool.and_self, and_true, and_self, reduceCtorEq, Nat.reduceEqDiff, bkV]; simp) rfl (.inl rfl) ?_
            intro j hj K3 hK3
            simp only at hK3
            have hrs := rng_succ j
            cases j with
            | zero =>
              simp only [awp_reg, awp_seq, awp_cond, seqQ_n, awpOps_nil, awpOps_one, awpOp_is, putK_is, put_s, slot_is, pureOp, apureO, aev, cv, cvc, binK, ↓reduceIte, Bool.true_and, true_and, Nat.reduceEqDiff, bkV, inH]
              refine condA_dec (fun hjl => ?_) (fun hjg => ?_)
              · simp only [awp_skip, awp_reg, awp_seq, awp_cond, awp_block, seqQ_n, loopQ_n, blkQ_n, awpOps_nil, awpOps_one, awpOp_is, isCallV, putK_is, updK_is, put_s, upd_s, slot_is, slot.eq_1, pureOp, apureO, astepO, bsEnd_is, appA_own, appV, killT, aev, cv, cvc, binK, elO_s, loadA_d, cellsA, cellOk, setAll, fillA, condA_t, elemsA, elemsN, chunk, isD_c, isDL_nil, isDL_cons, Int.natCast_nonneg, Bool.false_eq_true, ↓reduceIte, List.getElem?_cons_zero, List.getElem?_cons_succ, List.length_cons, List.length_nil, List.map_cons, List.map_nil, List.cons_append, List.nil_append, List.set_cons_zero, Option.map_some, List.take_succ_cons, List.drop_zero, List.all_cons, List.all_nil, Bool.true_and, Bool.and_self, Value.oneCell', true_and, and_self, Nat.reduceAdd, Nat.reduceMul, Nat.reduceLT, Nat.reduceLeDiff, Nat.reduceEqDiff, Nat.reduceMod, Nat.zero_add, Int.toNat_natCast, List.range_succ, List.range_zero, Nat.le_refl, List.take_nil, Ty.td3, Ty.td4, Ty.td22, Ty.td36, List.getElem?_map, h1, wrap_in (x := ((0 : Nat) : Int) + 1) (by omega) (by omega)]
                refine hK3 (0 + 1) _ (by omega) (by omega) ?_ rfl (.weak (by simp [inH]) (by simp [WeakH, inH, rng]) rfl rfl)
                simp only [slot_is, aev, cv, cvc, Weak, ↓reduceIte, Bool.and_true, Bool.and_self, and_true, and_self, reduceCtorEq, Nat.reduceEqDiff, Nat.zero_add, bkV]
                simp
              · exact absurd hjg (by omega)
            | succ j =>
              have tj : List.take (j + 1) (List.map enc (rng (j + 1))) = List.map enc (rng (j + 1)) := List.take_of_length_le (by simp [rng_len])
              simp only [awp_reg, awp_seq, awp_cond, seqQ_n, awpOps_nil, awpOps_one, awpOp_is, putK_is, put_s, slot_is, pureOp, apureO, aev, cv, cvc, binK, ↓reduceIte, List.cons_append, List.nil_append, Bool.true_and, true_and, Nat.reduceEqDiff, bkV, inH]
              refine condA_dec (fun hjl => ?_) (fun hjg => ?_)
              · simp only [awp_skip, awp_reg, awp_seq, awp_cond, awp_block, seqQ_n, loopQ_n, blkQ_n, awpOps_nil, awpOps_one, awpOp_is, isCallV, putK_is, updK_is, put_s, upd_s, slot_is, slot.eq_1, pureOp, apureO, astepO, bsEnd_is, appA_own, appV, killT, killB, killH, aev, cv, cvc, binK, elO_s, loadA_d, cellsA, cellOk, setAll, fillA, condA_t, elemsA, elemsN, rowE, chunk, isD_c, isDL_nil, isDL_cons, killV_c, killV_sl, killV_own, killV_dptr, Int.natCast_nonneg, Bool.false_eq_true, ↓reduceIte, List.getElem?_cons_zero, List.getElem?_cons_succ, List.length_cons, List.length_nil, List.map_cons, List.map_nil, List.cons_append, List.nil_append, List.set_cons_zero, List.set_cons_succ, Option.map_some, Option.map_none, List.take_succ_cons, List.drop_zero, List.all_cons, List.all_nil, Bool.true_and, Bool.and_self, Bool.or_false, Value.oneCell', true_and, and_self, Nat.reduceAdd, Nat.reduceMul, Nat.reduceLT, Nat.reduceLeDiff, Nat.reduceEqDiff, Nat.reduceMod, Nat.zero_add, List.mem_cons, List.not_mem_nil, or_false, Int.toNat_natCast, List.range_succ, List.range_zero, Nat.le_refl, List.take_nil, List.getElem?_nil, Ty.td3, Ty.td4, Ty.td22, Ty.td36, List.getElem?_map, h1, tj, List.length_map, rng_len, wrap_in (x := ((j + 1 : Nat) : Int) + 1) (by omega) (by omega)]
                repeat refine ⟨by omega, ?_⟩
                refine hK3 (j + 1 + 1) _ (by omega) (by omega) ?_ rfl (.weak (by simp [inH]) (by simp [WeakH, inH, hrs]) rfl rfl)
                simp only [slot_is, aev, cv, cvc, Weak, ↓reduceIte, Bool.and_true, Bool.and_self, and_true, and_self, reduceCtorEq, Nat.reduceEqDiff, bkV]
                simp
              · have hjm : j + 1 = fr.length := by omega
                rw [hjm] at tj ⊢
                simp only [awp_reg, awp_exit, seqQ_n, seqQ_e, loopQ_n, loopQ_e, blkQ_n, blkQ_e, awpOps_nil, awpOps_one, awpOp_is, isCallV, putK_is, updK_is, put_s, upd_s, slot_is, slot.eq_1, pureOp, apureO, astepO, bsF2_is, bsF1_is, bsEnd_is, appA_own, appV, killT, killB, killH, aev, cv, cvc, binK, elO_s, cellsA, cellOk, setAll, fillA, elemsA, elemsN, rowE, chunk, dropL, isD_sl, isD_own, isDL_nil, isDL_cons, ownsV_own, ownsL_nil, ownsL_cons, toD_own, consO_some, toDL_nil, toDL_cons, killV_c, killV_sl, killV_own, Bool.false_eq_true, ↓reduceIte, List.getElem?_cons_zero, List.getElem?_cons_succ, List.length_cons, List.length_nil, List.map_cons, List.map_nil, List.cons_append, List.nil_append, List.append_nil, List.set_cons_zero, List.set_cons_succ, Option.map_some, Option.map_none, List.take_succ_cons, List.drop_zero, List.all_cons, List.all_nil, Bool.and_true, Bool.true_and, Bool.and_self, Bool.or_false, Value.oneCell', true_and, and_true, and_self, reduceCtorEq, Nat.reduceAdd, Nat.reduceMul, Nat.reduceLT, Nat.reduceLeDiff, Nat.reduceEqDiff, Nat.reduceMod, Nat.zero_add, List.mem_cons, List.not_mem_nil, or_false, List.range_succ, List.range_zero, List.zipIdx_cons, List.zipIdx_nil, Nat.le_refl, List.take_nil, List.zip_cons_cons, List.zip_nil_right, List.getElem?_nil, Ty.td22, Ty.td40, tkR, hal, tj, List.length_map, rng_len, wrap_in (x := (((i + 1 : Nat) : Int)) + 1) (by omega) (by omega)]
                repeat refine ⟨by omega, ?_⟩
                refine hK2 (i + 1 + 1) _ hlt' (by omega) ?_ rfl (.weak (by simp [axH1]) (by simp [WeakH, axH1, hst, axV]) rfl rfl)
                simp only [slot_is, aev, cv, cvc, Weak, ↓reduceIte, Bool.and_true, Bool.and_self, and_true, and_self, reduceCtorEq, Nat.reduceEqDiff, bkV]
                simp
        · have hk2 : i + 1 = l.length := by omega
          have hbt : bs.take (i + 1) = bs := List.take_of_length_le (by omega)
          rw [hbt] at hal tkR ⊢
          rw [hk2] at hal tkR ⊢
          simp only [awp_reg, awp_seq, awp_exit, seqQ_n, seqQ_e, loopQ_e, blkQ_e, awpOps_one, awpOp_is, isCallV, callW_is, callV_is, putK_is, put_s, slot_is, pureOp, apureO, aev, cv, cvc, Bool.false_eq_true, ↓reduceIte, List.map_cons, List.map_nil, List.append_nil, reduceCtorEq, Nat.reduceEqDiff]
          refine call_meets (c4) (by simp only [aev, cv, cvc, elemsA, toD_sl, toD_own, consO_some, toDL_nil, toDL_cons, ↓reduceIte, List.getElem?_cons_zero, List.getElem?_cons_succ, Option.map_some, Bool.and_self, and_self, Nat.le_refl, tkR, hal]) ?_; simp only [awp_ret, seqQ_n, awpOps_nil, awpOps_one, awpOp_is, putK_is, put_s, upd_s, slot_is, retA_is, pureOp, apureO, killT, aev, cv, cvc, binK, flat_c, ownsV_sl, ownsV_own, ownsL_nil, ownsL_cons, toD_c, notExit, resA_nil, resA_tmp, oneA_1, ↓reduceIte, List.nil_append, List.append_nil, Bool.and_self, Bool.or_false, and_self, List.isEmpty_cons, or_false, tkR, hal, beq_self_eq_true]
    case true =>
      refine loop_g (fun i : Nat => i ≤ l.length) (fun i => ⟨128, [(100, I i), (99, I l.length), (16, bkV 3 1 i), (5, ints fr), (6, bools bs), (0, arrs l), (1, ints rs)], axH3 fr.length bs i⟩) (fun i => l.length - i) 0 (Nat.zero_le _) (by simp only [slot_is, aev, cv, cvc, Weak, ↓reduceIte, Bool.and_true, Bool.and_self, and_true, and_self, reduceCtorEq, Nat.reduceEqDiff, bkV]; simp) rfl (.weak (by simp [axH3]) (by simp [WeakH, axH3]) rfl rfl) ?_
      intro i hi K2 hK2
      simp only at hK2
      cases i with
      | zero =>
        simp only [awp_reg, awp_seq, awp_cond, seqQ_n, awpOps_nil, awpOps_one, awpOp_is, putK_is, put_s, slot_is, pureOp, apureO, aev, cv, cvc, binK, ↓reduceIte, Bool.true_and, true_and, Nat.reduceEqDiff, bkV, axH3]
        refine condA_dec (fun hlt => ?_) (fun hge => ?_)
        · have hlt' : 0 < l.length := by omega
          have hx : bs[0]? = some true := by
            have h1 : bs[0]? = some bs[0] := List.getElem?_eq_getElem (by omega)
            rw [h1, ← hb0, hhd _ h1]
          have hst := ax_step (m := fr.length) hx
          simp only [List.take_zero, axR, List.map_nil, List.nil_append] at hst
          simp only [awp_skip, awp_reg, awp_seq, awp_block, awp_loop, seqQ_n, awpOps_nil, awpOps_one, awpOp_is, putK_is, put_s, slot_is, pureOp, apureO, aev, cv, cvc, elO_s, lenA, lenK, ↓reduceIte, Bool.true_and, true_and, Nat.reduceEqDiff, Option.isSome_some, Ty.td22, List.length_map]
          have hm : 0 < fr.length := by
            rcases Nat.eq_zero_or_pos fr.length with h | h
            · have := hbf (List.eq_nil_of_length_eq_zero h) true (List.mem_of_getElem? hx)
              cases this
            · exact h
          refine loop_g (fun j : Nat => j ≤ fr.length) (fun j => ⟨128, [(105, I j), (104, I fr.length), (18, bkV 1 1 j), (17, I ((0 : Nat) : Int)), (100, I ((0 : Nat) : Int)), (99, I l.length), (16, bkV 3 1 (0)), (5, ints fr), (6, bools bs), (0, arrs l), (1, ints rs)], inH [] j⟩) (fun j => fr.length - j) 0 (Nat.zero_le _) (by simp only [slot_is, aev, cv, cvc, Weak, ↓reduceIte, Bool.and_true, Bool.and_self, and_true, and_self, reduceCtorEq, Nat.reduceEqDiff, bkV]; simp) rfl (.inl rfl) ?_
          intro j hj K3 hK3
          simp only at hK3
          have hrs := rng_succ j
          cases j with
          | zero =>
            simp only [awp_reg, awp_seq, awp_cond, seqQ_n, awpOps_nil, awpOps_one, awpOp_is, putK_is, put_s, slot_is, pureOp, apureO, aev, cv, cvc, binK, ↓reduceIte, Bool.true_and, true_and, Nat.reduceEqDiff, bkV, inH]
            refine condA_dec (fun hjl => ?_) (fun hjg => ?_)
            · simp only [awp_skip, awp_reg, awp_seq, awp_cond, awp_block, seqQ_n, loopQ_n, blkQ_n, awpOps_nil, awpOps_one, awpOp_is, isCallV, putK_is, updK_is, put_s, upd_s, slot_is, slot.eq_1, pureOp, apureO, astepO, bsEnd_is, appA_own, appV, killT, aev, cv, cvc, binK, elO_s, loadA_d, cellsA, cellOk, setAll, fillA, condA_t, elemsA, elemsN, chunk, isD_c, isDL_nil, isDL_cons, Int.natCast_nonneg, Bool.false_eq_true, ↓reduceIte, List.getElem?_cons_zero, List.length_cons, List.length_nil, List.map_cons, List.map_nil, List.cons_append, List.nil_append, List.set_cons_zero, Option.map_some, List.take_succ_cons, List.drop_zero, List.all_cons, List.all_nil, Bool.true_and, Bool.and_self, Value.oneCell', true_and, and_self, Nat.reduceMul, Nat.reduceLT, Nat.reduceLeDiff, Nat.reduceEqDiff, Nat.reduceMod, Nat.zero_add, Int.toNat_natCast, List.range_succ, List.range_zero, Nat.le_refl, List.take_nil, Ty.td3, Ty.td4, Ty.td22, Ty.td36, List.getElem?_map, hx, wrap_in (x := ((0 : Nat) : Int) + 1) (by omega) (by omega)]
              refine hK3 (0 + 1) _ (by omega) (by omega) ?_ rfl (.weak (by simp [inH]) (by simp [WeakH, inH, rng]) rfl rfl)
              simp only [slot_is, aev, cv, cvc, Weak, ↓reduceIte, Bool.and_true, Bool.and_self, and_true, and_self, reduceCtorEq, Nat.reduceEqDiff, Nat.zero_add, bkV]
              simp
            · exact absurd hjg (by omega)
          | succ j =>
            have tj : List.take (j + 1) (List.map enc (rng (j + 1))) = List.map enc (rng (j + 1)) := List.take_of_length_le (by simp [rng_len])
            simp only [awp_reg, awp_seq, awp_cond, seqQ_n, awpOps_nil, awpOps_one, awpOp_is, putK_is, put_s, slot_is, pureOp, apureO, aev, cv, cvc, binK, ↓reduceIte, List.nil_append, Bool.true_and, true_and, Nat.reduceEqDiff, bkV, inH]
            refine condA_dec (fun hjl => ?_) (fun hjg => ?_)
            · simp only [awp_skip, awp_reg, awp_seq, awp_cond, awp_block, seqQ_n, loopQ_n, blkQ_n, awpOps_nil, awpOps_one, awpOp_is, isCallV, putK_is, updK_is, put_s, upd_s, slot_is, slot.eq_1, pureOp, apureO, astepO, bsEnd_is, appA_own, appV, killT, killB, killH, aev, cv, cvc, binK, elO_s, loadA_d, cellsA, cellOk, setAll, fillA, condA_t, elemsA, elemsN, rowE, chunk, isD_c, isDL_nil, isDL_cons, killV_c, killV_nils, killV_sl, killV_own, killV_dptr, Int.natCast_nonneg, Bool.false_eq_true, ↓reduceIte, List.getElem?_cons_zero, List.getElem?_cons_succ, List.length_cons, List.length_nil, List.map_cons, List.map_nil, List.cons_append, List.nil_append, List.set_cons_zero, List.set_cons_succ, Option.map_some, Option.map_none, List.take_succ_cons, List.drop_zero, List.all_cons, List.all_nil, Bool.true_and, Bool.and_self, Bool.or_false, Value.oneCell', true_and, and_self, Nat.reduceAdd, Nat.reduceMul, Nat.reduceLT, Nat.reduceLeDiff, Nat.reduceEqDiff, Nat.reduceMod, Nat.zero_add, List.mem_cons, List.not_mem_nil, or_false, Int.toNat_natCast, List.range_succ, List.range_zero, Nat.le_refl, List.take_nil, List.getElem?_nil, Ty.td3, Ty.td4, Ty.td22, Ty.td36, List.getElem?_map, hx, tj, List.length_map, rng_len, wrap_in (x := ((j + 1 : Nat) : Int) + 1) (by omega) (by omega)]
              repeat refine ⟨by omega, ?_⟩
              refine hK3 (j + 1 + 1) _ (by omega) (by omega) ?_ rfl (.weak (by simp [inH]) (by simp [WeakH, inH, hrs]) rfl rfl)
              simp only [slot_is, aev, cv, cvc, Weak, ↓reduceIte, Bool.and_true, Bool.and_self, and_true, and_self, reduceCtorEq, Nat.reduceEqDiff, bkV]
              simp
            · have hjm : j + 1 = fr.length := by omega
              rw [hjm] at tj ⊢
              simp only [awp_reg, awp_exit, seqQ_n, seqQ_e, loopQ_n, loopQ_e, blkQ_n, blkQ_e, awpOps_nil, awpOps_one, awpOp_is, isCallV, putK_is, updK_is, put_s, upd_s, slot_is, slot.eq_1, pureOp, apureO, astepO, bsF2_is, bsF1_is, bsEnd_is, appA_own, appV, killT, killH, aev, cv, cvc, binK, elO_s, cellsA, cellOk, setAll, fillA, elemsA, elemsN, chunk, dropL, isD_sl, isD_own, isDL_nil, isDL_cons, ownsV_own, ownsL_nil, ownsL_cons, toD_own, consO_some, toDL_nil, toDL_cons, killV_c, killV_nils, killV_sl, killV_own, Bool.false_eq_true, ↓reduceIte, List.getElem?_cons_zero, List.getElem?_cons_succ, List.length_cons, List.length_nil, List.map_cons, List.map_nil, List.cons_append, List.nil_append, List.append_nil, List.set_cons_zero, Option.map_some, Option.map_none, List.take_succ_cons, List.drop_zero, List.all_cons, List.all_nil, Bool.and_true, Bool.true_and, Bool.and_self, Bool.or_false, Value.oneCell', true_and, and_true, and_self, reduceCtorEq, Nat.reduceAdd, Nat.reduceMul, Nat.reduceLT, Nat.reduceLeDiff, Nat.reduceEqDiff, Nat.reduceMod, Nat.zero_add, List.mem_cons, List.not_mem_nil, or_false, List.range_succ, List.range_zero, List.zipIdx_cons, List.zipIdx_nil, Nat.le_refl, List.take_nil, List.zip_cons_cons, List.zip_nil_right, Ty.td22, Ty.td40, tj, List.length_map, rng_len, wrap_in (x := (((0 : Nat) : Int)) + 1) (by omega) (by omega)]
              repeat refine ⟨by omega, ?_⟩
              refine hK2 (0 + 1) _ hlt' (by omega) ?_ rfl (.weak (by simp [axH3]) (by simp [WeakH, axH3, hst, axV]) rfl rfl)
              simp only [slot_is, aev, cv, cvc, Weak, ↓reduceIte, Bool.and_true, Bool.and_self, and_true, and_self, reduceCtorEq, Nat.reduceEqDiff, Nat.zero_add, bkV]
              simp
        · have h0 : bs = [] := List.eq_nil_of_length_eq_zero (by omega)
          rw [h0] at c4
          have c5 := Meets.nil (pre := [ints fr]) (post := [ints rs, arrs l]) (st := 1) c4
          simp only [awp_reg, awp_seq, awp_exit, seqQ_n, seqQ_e, loopQ_e, blkQ_e, awpOps_one, awpOp_is, isCallV, callW_is, callV_is, putK_is, put_s, slot_is, pureOp, apureO, aev, cv, cvc, Bool.false_eq_true, ↓reduceIte, List.map_cons, List.map_nil, List.append_nil, reduceCtorEq, Nat.reduceEqDiff]
          refine call_meets (c5) (by simp only [aev, cv, cvc, toD_nils, toD_sl, consO_some, toDL_nil, toDL_cons, List.cons_append, List.nil_append]) ?_; simp only [awp_ret, seqQ_n, awpOps_nil, awpOps_one, awpOp_is, putK_is, put_s, upd_s, slot_is, retA_is, pureOp, apureO, killT, aev, cv, cvc, binK, flat_c, ownsV_nils, ownsV_sl, ownsL_nil, ownsL_cons, toD_c, notExit, resA_nil, resA_tmp, oneA_1, ↓reduceIte, List.append_nil, Bool.and_self, Bool.or_true, and_self, List.isEmpty_nil, beq_self_eq_true]
      | succ i =>
        have hal : (axR fr.length (bs.take (i + 1))).length = i + 1 := by simp; omega
        have tkR : List.take (i + 1) (axR fr.length (bs.take (i + 1))) = axR fr.length (bs.take (i + 1)) := List.take_of_length_le (by omega)
        simp only [awp_reg, awp_seq, awp_cond, seqQ_n, awpOps_nil, awpOps_one, awpOp_is, putK_is, put_s, slot_is, pureOp, apureO, aev, cv, cvc, binK, ↓reduceIte, Bool.true_and, true_and, Nat.reduceEqDiff, bkV, axH3]
        refine condA_dec (fun hlt => ?_) (fun hge => ?_)
        · have hlt' : i + 1 < l.length := by omega
          have h1 : bs[i + 1]? = some bs[i + 1] := List.getElem?_eq_getElem (by omega)
          have hmem : bs[i + 1] ∈ bs := List.getElem_mem _
          generalize bs[i + 1] = b at *
          have hst := ax_step (m := fr.length) h1
          simp only [awp_skip, awp_reg, awp_seq, awp_block, awp_loop, seqQ_n, awpOps_nil, awpOps_one, awpOp_is, putK_is, put_s, slot_is, pureOp, apureO, aev, cv, cvc, elO_s, lenA, lenK, ↓reduceIte, Bool.true_and, true_and, Nat.reduceEqDiff, Option.isSome_some, Ty.td22, List.length_map]
          cases b with
          | false =>
            refine loop_k (fun j : Nat => j ≤ fr.length) (fun j => ⟨128, [(105, I j), (104, I fr.length), (18, .nils), (17, I ((i + 1 : Nat) : Int)), (100, I ((i + 1 : Nat) : Int)), (99, I l.length), (16, bkV 3 1 (i + 1)), (5, ints fr), (6, bools bs), (0, arrs l), (1, ints rs)], [none, none, none, some (.row 22 1 (axR fr.length (bs.take (i + 1))))]⟩) (fun j => fr.length - j) 0 (Nat.zero_le _) (by simp only [slot_is, aev, cv, cvc, Weak, ↓reduceIte, Bool.and_true, Bool.and_self, and_true, and_self, reduceCtorEq, Nat.reduceEqDiff, bkV]; simp) rfl rfl ?_
            intro j hj K3 hK3
            simp only at hK3
            simp only [awp_reg, awp_seq, awp_cond, seqQ_n, awpOps_nil, awpOps_one, awpOp_is, putK_is, put_s, slot_is, pureOp, apureO, aev, cv, cvc, binK, ↓reduceIte, Bool.true_and, true_and, Nat.reduceEqDiff, bkV]
            refine condA_dec (fun hjl => ?_) (fun hjg => ?_)
            · simp only [awp_skip, awp_reg, awp_seq, awp_cond, awp_block, seqQ_n, loopQ_n, blkQ_n, awpOps_nil, awpOps_one, awpOp_is, putK_is, put_s, slot_is, pureOp, apureO, aev, cv, cvc, binK, elO_s, loadA_d, condA_f, Int.natCast_nonneg, Bool.false_eq_true, ↓reduceIte, List.getElem?_cons_zero, Option.map_some, Bool.true_and, true_and, Nat.reduceEqDiff, Int.toNat_natCast, Ty.td4, Ty.td36, List.getElem?_map, h1, wrap_in (x := (j : Int) + 1) (by omega) (by omega)]
              refine hK3 (j + 1) _ (by omega) (by omega) ?_ rfl rfl
              simp only [slot_is, aev, cv, cvc, Weak, ↓reduceIte, Bool.and_true, Bool.and_self, and_true, and_self, reduceCtorEq, Nat.reduceEqDiff, bkV]
              simp
            · simp only [awp_reg, awp_exit, seqQ_n, seqQ_e, loopQ_n, loopQ_e, blkQ_n, blkQ_e, awpOps_nil, awpOps_one, awpOp_is, isCallV, putK_is, updK_is, put_s, upd_s, slot_is, slot.eq_1, pureOp, apureO, astepO, bsEnd_is, appA_own, appV, killT, killB, killH, aev, cv, cvc, binK, elO_s, cellsA, cellOk, setAll, fillA, elemsA, elemsN, rowE, chunk, isD_nils, isDL_nil, isDL_cons, killV_c, killV_nils, killV_sl, killV_own, Bool.false_eq_true, ↓reduceIte, List.getElem?_cons_zero, List.getElem?_cons_succ, List.length_cons, List.length_nil, List.map_cons, List.map_nil, List.cons_append, List.nil_append, List.set_cons_zero, List.set_cons_succ, Option.map_some, Option.map_none, List.take_succ_cons, List.drop_zero, List.all_cons, List.all_nil, Bool.true_and, Bool.and_self, Bool.or_false, Value.oneCell', true_and, and_self, Nat.reduceAdd, Nat.reduceMul, Nat.reduceLT, Nat.reduceLeDiff, Nat.reduceEqDiff, Nat.reduceMod, Nat.zero_add, List.mem_cons, List.not_mem_nil, or_false, List.range_succ, List.range_zero, Nat.le_refl, List.take_nil, List.getElem?_nil, Ty.td22, Ty.td40, tkR, hal, wrap_in (x := (((i + 1 : Nat) : Int)) + 1) (by omega) (by omega)]
              repeat refine ⟨by omega, ?_⟩
              refine hK2 (i + 1 + 1) _ hlt' (by omega) ?_ rfl (.weak (by simp [axH3]) (by simp [WeakH, axH3, hst, axV]) rfl rfl)
              simp only [slot_is, aev, cv, cvc, Weak, ↓reduceIte, Bool.and_true, Bool.and_self, and_true, and_self, reduceCtorEq, Nat.reduceEqDiff, bkV]
              simp
          | true =>
            have hm : 0 < fr.length := by
              rcases Nat.eq_zero_or_pos fr.length with h | h
              · have := hbf (List.eq_nil_of_length_eq_zero h) true hmem
                cases this
              · exact h
            refine loop_g (fun j : Nat => j ≤ fr.length) (fun j => ⟨128, [(105, I j), (104, I fr.length), (18, bkV 5 1 j), (17, I ((i + 1 : Nat) : Int)), (100, I ((i + 1 : Nat) : Int)), (99, I l.length), (16, bkV 3 1 (i + 1)), (5, ints fr), (6, bools bs), (0, arrs l), (1, ints rs)], inH [none, none, none, some (.row 22 1 (axR fr.length (bs.take (i + 1))))] j⟩) (fun j => fr.length - j) 0 (Nat.zero_le _) (by simp only [slot_is, aev, cv, cvc, Weak, ↓reduceIte, Bool.and_true, Bool.and_self, and_true, and_self, reduceCtorEq, Nat.reduceEqDiff, bkV]; simp) rfl (.inl rfl) ?_
            intro j hj K3 hK3
            simp only at hK3
            have hrs := rng_succ j
            cases j with
            | zero =>
              simp only [awp_reg, awp_seq, awp_cond, seqQ_n, awpOps_nil, awpOps_one, awpOp_is, putK_is, put_s, slot_is, pureOp, apureO, aev, cv, cvc, binK, ↓reduceIte, Bool.true_and, true_and, Nat.reduceEqDiff, bkV, inH]
              refine condA_dec (fun hjl => ?_) (fun hjg => ?_)
              · simp only [awp_skip, awp_reg, awp_seq, awp_cond, awp_block, seqQ_n, loopQ_n, blkQ_n, awpOps_nil, awpOps_one, awpOp_is, isCallV, putK_is, updK_is, put_s, upd_s, slot_is, slot.eq_1, pureOp, apureO, astepO, bsEnd_is, appA_own, appV, killT, aev, cv, cvc, binK, elO_s, loadA_d, cellsA, cellOk, setAll, fillA, condA_t, elemsA, elemsN, chunk, isD_c, isDL_nil, isDL_cons, Int.natCast_nonneg, Bool.false_eq_true, ↓reduceIte, List.getElem?_cons_zero, List.getElem?_cons_succ, List.length_cons, List.length_nil, List.map_cons, List.map_nil, List.cons_append, List.nil_append, List.set_cons_zero, Option.map_some, List.take_succ_cons, List.drop_zero, List.all_cons, List.all_nil, Bool.true_and, Bool.and_self, Value.oneCell', true_and, and_self, Nat.reduceAdd, Nat.reduceMul, Nat.reduceLT, Nat.reduceLeDiff, Nat.reduceEqDiff, Nat.reduceMod, Nat.zero_add, Int.toNat_natCast, List.range_succ, List.range_zero, Nat.le_refl, List.take_nil, Ty.td3, Ty.td4, Ty.td22, Ty.td36, List.getElem?_map, h1, wrap_in (x := ((0 : Nat) : Int) + 1) (by omega) (by omega)]
                refine hK3 (0 + 1) _ (by omega) (by omega) ?_ rfl (.weak (by simp [inH]) (by simp [WeakH, inH, rng]) rfl rfl)
                simp only [slot_is, aev, cv, cvc, Weak, ↓reduceIte, Bool.and_true, Bool.and_self, and_true, and_self, reduceCtorEq, Nat.reduceEqDiff, Nat.zero_add, bkV]
                simp
              · exact absurd hjg (by omega)
            | succ j =>
              have tj : List.take (j + 1) (List.map enc (rng (j + 1))) = List.map enc (rng (j + 1)) := List.take_of_length_le (by simp [rng_len])
              simp only [awp_reg, awp_seq, awp_cond, seqQ_n, awpOps_nil, awpOps_one, awpOp_is, putK_is, put_s, slot_is, pureOp, apureO, aev, cv, cvc, binK, ↓reduceIte, List.cons_append, List.nil_append, Bool.true_and, true_and, Nat.reduceEqDiff, bkV, inH]
              refine condA_dec (fun hjl => ?_) (fun hjg => ?_)
              · simp only [awp_skip, awp_reg, awp_seq, awp_cond, awp_block, seqQ_n, loopQ_n, blkQ_n, awpOps_nil, awpOps_one, awpOp_is, isCallV, putK_is, updK_is, put_s, upd_s, slot_is, slot.eq_1, pureOp, apureO, astepO, bsEnd_is, appA_own, appV, killT, killB, killH, aev, cv, cvc, binK, elO_s, loadA_d, cellsA, cellOk, setAll, fillA, condA_t, elemsA, elemsN, rowE, chunk, isD_c, isDL_nil, isDL_cons, killV_c, killV_sl, killV_own, killV_dptr, Int.natCast_nonneg, Bool.false_eq_true, ↓reduceIte, List.getElem?_cons_zero, List.getElem?_cons_succ, List.length_cons, List.length_nil, List.map_cons, List.map_nil, List.cons_append, List.nil_append, List.set_cons_zero, List.set_cons_succ, Option.map_some, Option.map_none, List.take_succ_cons, List.drop_zero, List.all_cons, List.all_nil, Bool.true_and, Bool.and_self, Bool.or_false, Value.oneCell', true_and, and_self, Nat.reduceAdd, Nat.reduceMul, Nat.reduceLT, Nat.reduceLeDiff, Nat.reduceEqDiff, Nat.reduceMod, Nat.zero_add, List.mem_cons, List.not_mem_nil, or_false, Int.toNat_natCast, List.range_succ, List.range_zero, Nat.le_refl, List.take_nil, List.getElem?_nil, Ty.td3, Ty.td4, Ty.td22, Ty.td36, List.getElem?_map, h1, tj, List.length_map, rng_len, wrap_in (x := ((j + 1 : Nat) : Int) + 1) (by omega) (by omega)]
                repeat refine ⟨by omega, ?_⟩
                refine hK3 (j + 1 + 1) _ (by omega) (by omega) ?_ rfl (.weak (by simp [inH]) (by simp [WeakH, inH, hrs]) rfl rfl)
                simp only [slot_is, aev, cv, cvc, Weak, ↓reduceIte, Bool.and_true, Bool.and_self, and_true, and_self, reduceCtorEq, Nat.reduceEqDiff, bkV]
                simp
              · have hjm : j + 1 = fr.length := by omega
                rw [hjm] at tj ⊢
                simp only [awp_reg, awp_exit, seqQ_n, seqQ_e, loopQ_n, loopQ_e, blkQ_n, blkQ_e, awpOps_nil, awpOps_one, awpOp_is, isCallV, putK_is, updK_is, put_s, upd_s, slot_is, slot.eq_1, pureOp, apureO, astepO, bsF2_is, bsF1_is, bsEnd_is, appA_own, appV, killT, killB, killH, aev, cv, cvc, binK, elO_s, cellsA, cellOk, setAll, fillA, elemsA, elemsN, rowE, chunk, dropL, isD_sl, isD_own, isDL_nil, isDL_cons, ownsV_own, ownsL_nil, ownsL_cons, toD_own, consO_some, toDL_nil, toDL_cons, killV_c, killV_sl, killV_own, Bool.false_eq_true, ↓reduceIte, List.getElem?_cons_zero, List.getElem?_cons_succ, List.length_cons, List.length_nil, List.map_cons, List.map_nil, List.cons_append, List.nil_append, List.append_nil, List.set_cons_zero, List.set_cons_succ, Option.map_some, Option.map_none, List.take_succ_cons, List.drop_zero, List.all_cons, List.all_nil, Bool.and_true, Bool.true_and, Bool.and_self, Bool.or_false, Value.oneCell', true_and, and_true, and_self, reduceCtorEq, Nat.reduceAdd, Nat.reduceMul, Nat.reduceLT, Nat.reduceLeDiff, Nat.reduceEqDiff, Nat.reduceMod, Nat.zero_add, List.mem_cons, List.not_mem_nil, or_false, List.range_succ, List.range_zero, List.zipIdx_cons, List.zipIdx_nil, Nat.le_refl, List.take_nil, List.zip_cons_cons, List.zip_nil_right, List.getElem?_nil, Ty.td22, Ty.td40, tkR, hal, tj, List.length_map, rng_len, wrap_in (x := (((i + 1 : Nat) : Int)) + 1) (by omega) (by omega)]
                repeat refine ⟨by omega, ?_⟩
                refine hK2 (i + 1 + 1) _ hlt' (by omega) ?_ rfl (.weak (by simp [axH3]) (by simp [WeakH, axH3, hst, axV]) rfl rfl)
                simp only [slot_is, aev, cv, cvc, Weak, ↓reduceIte, Bool.and_true, Bool.and_self, and_true, and_self, reduceCtorEq, Nat.reduceEqDiff, bkV]
                simp
        · have hk2 : i + 1 = l.length := by omega
          have hbt : bs.take (i + 1) = bs := List.take_of_length_le (by omega)
          rw [hbt] at hal tkR ⊢
          rw [hk2] at hal tkR ⊢
          simp only [awp_reg, awp_seq, awp_exit, seqQ_n, seqQ_e, loopQ_e, blkQ_e, awpOps_one, awpOp_is, isCallV, callW_is, callV_is, putK_is, put_s, slot_is, pureOp, apureO, aev, cv, cvc, Bool.false_eq_true, ↓reduceIte, List.map_cons, List.map_nil, List.append_nil, reduceCtorEq, Nat.reduceEqDiff]
          refine call_meets (c4) (by simp only [aev, cv, cvc, elemsA, toD_sl, toD_own, consO_some, toDL_nil, toDL_cons, ↓reduceIte, List.getElem?_cons_zero, List.getElem?_cons_succ, Option.map_some, Bool.and_self, and_self, Nat.le_refl, tkR, hal]) ?_; simp only [awp_ret, seqQ_n, awpOps_nil, awpOps_one, awpOp_is, putK_is, put_s, upd_s, slot_is, retA_is, pureOp, apureO, killT, aev, cv, cvc, binK, flat_c, ownsV_sl, ownsV_own, ownsL_nil, ownsL_cons, toD_c, notExit, resA_nil, resA_tmp, oneA_1, ↓reduceIte, List.nil_append, List.append_nil, Bool.and_self, Bool.or_false, and_self, List.isEmpty_cons, or_false, tkR, hal, beq_self_eq_true]

theorem end_ (W : World) {v0 v1 : Value} (l : List Ar) (h0 : RepD (fun b => b < W.heap.size) W (arrs l) v0) (hl : l.length ≤ maxLen) (rs : List Int) (h1 : RepD (fun b => b < W.heap.size) W (ints rs) v1) (hr : rs.length ≤ maxLen) (hw : ∀ z ∈ rs, (Lit.int .i64 z).wf = true) :
    Calls Try.prog 8 #[v0, v1] W fun e w' => e = .returned (.bool true) ∧ Below W.heap.size W w' :=
  law_of (law l rs hl hr (wf_le hw)) (vs := [v0, v1]) ⟨_, _, rfl, h0, _, _, rfl, h1, rfl⟩
end Go.Proofs.Ytoobaeebgnbpjaa.B19
