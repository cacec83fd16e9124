/- Arrays: At and Set, the law ArrayElements. -/
import Derived.Test.YtnoaknemndjpmaaDoorA5
import Derived.Test.YtnoaknemndjpmaaDoorA8
import Derived.Test.YtnoaknemndjpmaaDoorA10
namespace Go.Proofs.YtnoaknemndjpmaaDoor.A12
open Go Go.Proofs.YtnoaknemndjpmaaDoor.Eng Go.Proofs.YtnoaknemndjpmaaDoor Go.RowKit Go.Proofs.YtnoaknemndjpmaaDoor.A1 Go.Proofs.YtnoaknemndjpmaaDoor.A2 Go.Proofs.YtnoaknemndjpmaaDoor.A3 Go.Proofs.YtnoaknemndjpmaaDoor.A4 Go.Proofs.YtnoaknemndjpmaaDoor.A5 Go.Proofs.YtnoaknemndjpmaaDoor.A8 Go.Proofs.YtnoaknemndjpmaaDoor.A10
set_option linter.unusedSimpArgs false
set_option linter.unusedVariables false
set_option maxRecDepth 100000

theorem off_inR : ∀ {ds is : List Int} {m k : Int}, is.length = ds.length → offE ds is m = (k, 0) → inR ds is
  | [], [], _, _, _, _ => trivial
  | [], _ :: _, _, _, h, _ => by simp at h
  | _ :: _, [], _, _, h, _ => by simp at h
  | d :: ds, i :: is, m, k, h, e => by
    rw [offE] at e
    split at e
    · simp at e
    · exact ⟨by omega, by omega, off_inR (by simpa using h) e⟩
theorem inR_fine : ∀ {ds is : List Int}, inR ds is → fine ds
  | [], [], _ => fun d h => by cases h
  | [], _ :: _, h => h.elim
  | _ :: _, [], h => h.elim
  | d :: ds, i :: is, ⟨h1, h2, h3⟩ => fun z hz => by
    rcases List.mem_cons.1 hz with rfl | hz
    · omega
    · exact inR_fine h3 z hz
/-- An offset lies within the size. -/
theorem off_in {ds is : List Int} {n k : Int} (h : sizeE ds = (n, 0)) (ho : offsetE ds is = (k, 0)) : 0 ≤ k ∧ k < n ∧ inR ds is ∧ k = val ds is := by
  unfold offsetE at ho
  rw [h, if_neg (by simp)] at ho
  split at ho
  · simp at ho
  rename_i hl
  have hr := off_inR (by simpa using hl) ho
  have hf := inR_fine hr
  have hn : n ≠ 0 := fun h0 => by
    subst h0
    have hb := h
    unfold sizeE at hb
    split at hb
    · simp at hb
    split at hb
    · simp at hb
    rename_i hbad
    split at hb
    · rename_i hz
      obtain ⟨d, hd, h0⟩ := List.any_eq_true.1 hz
      have := hf d hd
      simp at h0
      omega
    · have := prodE_prod (by simpa using hbad) hf (by omega) (by omega) hb
      have := prod_pos hf
      omega
  obtain ⟨_, hn2, _, hn3, _⟩ := size_fine h hn
  have hv := offE_val hf hr (m := 0) (by omega) (by rw [Int.zero_add, Int.one_mul]; omega)
  rw [hv] at ho
  simp only [Prod.mk.injEq, Int.zero_mul, Int.zero_add, and_true] at ho
  have := val_range hf hr
  exact ⟨by omega, by omega, hr, ho.symm⟩

/-! Contracts with blocks that are handed over. -/
theorem MeetsO.parts {P : Program} {f : FuncId} {pre post : List AV} {st : Nat} {es : List (List AV)} {res : AV} {hr : Heap} (h1 : MeetsO P f (pre ++ .sl true st es :: post) res hr) (h2 : es = [] → MeetsO P f (pre ++ .nils :: post) res hr) : MeetsO P f (pre ++ .sl false st es :: post) res hr := by
  refine ⟨h1.1, fun ok w vs hok hd => ?_⟩
  obtain ⟨us, v, vs', rfl, a1, a2, a3⟩ := hd.split
  obtain ⟨A, cap, rfl, ⟨_, hc, hcl⟩, hr⟩ := a2
  cases A with
  | none =>
    obtain rfl := hc rfl
    have he : es = [] := by
      rcases Nat.eq_zero_or_pos es.length with h0 | h0
      · exact List.eq_nil_of_length_eq_zero h0
      · obtain ⟨b, o, h, _⟩ := hr h0; cases h
    subst he
    exact (h2 rfl).2 ok w _ hok (RepDL.join a1 rfl a3)
  | some a => exact h1.2 ok w _ hok (RepDL.join a1 ⟨_, cap, rfl, ⟨fun _ h => (by cases h), fun h => (by cases h), hcl⟩, hr⟩ a3)
/-- A nil slice is one of the caller's own. -/
theorem MeetsO.nil_own {P : Program} {f : FuncId} {args : List AV} (e : TypeId) (st : Nat) (h : MeetsO P f args .nils []) : MeetsO P f args (.own 0 st 0) [some (.row e st [])] := by
  refine ⟨h.1, fun ok w vs hok hd => (h.2 ok w vs hok hd).mono fun en w' hp => ?_⟩
  obtain ⟨v, m1, ok1, he, hmo, r, hv⟩ := hp
  refine ⟨v, [none], ok1, he, hmo, ⟨rfl, fun L blk hL => ?_, fun L L' b h1 _ => ?_, fun L b blk _ hm => ?_, fun L b hm => ?_, r.okb, r.oko, r.bel⟩, none, rfl, rfl, hv⟩
  · cases L with
    | zero => cases hL; exact ⟨none, rfl, rfl⟩
    | succ L => cases hL
  · cases L with
    | zero => cases h1
    | succ L => cases h1
  · cases L with
    | zero => cases hm
    | succ L => cases hm
  · cases L with
    | zero => cases hm
    | succ L => cases hm

theorem cloneIntsO (zs : List Int) (hz : zs.length ≤ 1000000) : MeetsO Tryd.prog 57 [ints zs] (.own 0 1 zs.length) [some (.row 3 1 (zs.map enc))] := by
  refine MeetsO.parts (pre := []) ?_ fun h => ?_
  · refine meetsO_of (X := false) Ty.mixed Tryd.func57 (by kernel_rfl) rfl (by kernel_rfl) (by simp) ?_; rw [Tryd.ntmps57, Tryd.results57]
    simp only [awp_skip, awp_reg, awp_seq, awp_cond, awp_ret, seqQ_n, awpOps_nil, awpOps_one, awpOp_is, isCallV, retO_is, putK_is, updK_is, put_s, upd_s, slot_is, slot.eq_1, pureOp, apureO, astepO, appA_sl, appV, killT, killB, killH, aev, cv, cvc, binK, elO_s, fillA, condA_f, elemsA, elemsN, rowE, chunk, dropL, isDL_nil, ownsL_nil, toDL_nil, killV_c, killV_nils, killV_sl, killV_own, notExit, resA_nil, resA_tmp, oneA_1, argT, Bool.false_eq_true, ↓reduceIte, List.getElem?_cons_zero, List.length_cons, List.length_nil, List.map_cons, List.map_nil, List.nil_append, List.set_cons_zero, Option.map_some, List.all_cons, List.all_nil, Bool.true_and, Bool.and_self, Bool.or_false, Value.oneCell', true_and, and_self, reduceCtorEq, Nat.reduceMul, Nat.reduceLT, Nat.reduceLeDiff, Nat.reduceEqDiff, Nat.zero_add, List.mem_cons, List.not_mem_nil, or_false, List.range_zero, Option.isSome_some, List.zipIdx_nil, Nat.le_refl, List.take_nil, List.zip_nil_left, List.getElem?_nil, Ty.td3, Ty.td22, List.length_map, List.length_nil]
    refine ⟨by omega, by omega, ?_⟩
    simp [WeakH, refsV, refsH]
  · have h0 : zs = [] := by simpa using h
    subst h0
    refine MeetsO.nil_own 3 1 ?_
    refine meetsO_of (X := false) Ty.mixed Tryd.func57 (by kernel_rfl) rfl (by kernel_rfl) (by simp) ?_; rw [Tryd.ntmps57, Tryd.results57]
    simp only [awp_reg, awp_seq, awp_cond, awp_ret, seqQ_n, seqQ_r, awpOps_nil, awpOps_one, awpOp_is, retO_is, putK_is, put_s, slot_is, pureOp, apureO, aev, cv, cvc, binK, elO_s, condA_t, notExit, resA_nil, resA_tmp, oneA_1, argT, ↓reduceIte, List.length_nil, List.nil_append, Bool.true_and, true_and, reduceCtorEq, Option.isSome_some, Nat.le_refl, Ty.td22]
    simp [WeakH, refsV, refsH]

theorem cloneArrO (e : ByteArray) (ds xs : List Int) (hd : ds.length ≤ 1000000) (hx : xs.length ≤ 1000000) : MeetsO Tryd.prog 40 [arr e ds xs] (.agg [S e, .own 2 1 ds.length, .own 3 1 xs.length]) [none, none, some (.row 3 1 (ds.map enc)), some (.row 3 1 (xs.map enc))] := by
  refine meetsO_of (X := true) Ty.mixed Tryd.func40 (by kernel_rfl) rfl (by kernel_rfl) (by simp) ?_; rw [Tryd.ntmps40, Tryd.results40]
  simp only [awp_regX, awp_reg, awp_seq, seqQ_n, awpOps_nil, awpOps_one, awpOp_is, isCallV, updK_is, upd_s, slot_is, pureOp, astepO, killT, aev, cv, cvc, elO_s, cellsA, cellOk, argT, Bool.false_eq_true, ↓reduceIte, List.length_cons, List.length_nil, List.map_cons, List.map_nil, List.cons_append, List.nil_append, List.all_cons, List.all_nil, Bool.true_and, Bool.and_self, Value.oneCell', true_and, and_self, Nat.zero_add, Ty.td33]
  refine drawS_wild ?_; simp only [isCallV, slot_is, pureOp, apureO, killT, killB, aev, cv, cvc, elO_s, loadA_p, killV_c, killV_nils, killV_sl, killL_nil, killL_cons, Bool.false_eq_true, ↓reduceIte, List.getElem?_cons_zero, List.getElem?_cons_succ, List.length_cons, List.length_nil, List.map_cons, List.map_nil, List.cons_append, List.nil_append, List.append_nil, List.drop_succ_cons, List.all_cons, List.all_nil, Bool.true_and, Bool.and_self, Bool.false_or, Bool.or_false, true_and, and_self, ne_eq, not_false_eq_true, reduceCtorEq, Nat.reduceAdd, Nat.reduceLT, Nat.reduceLeDiff, Nat.reduceEqDiff, Nat.zero_add, List.mem_cons, List.not_mem_nil, or_false, false_or, List.range_succ, List.range_zero, decide_true, decide_false, List.zipIdx_cons, List.zipIdx_nil, Nat.le_refl, List.drop_nil, awpW_one, wRun_is, wOp_is, callXW_is, callXV_is, keepK_is, contW_is, nextW_s, confs_nil, confs_cons, conf_is, meet_nil, opV_load, opV_fieldAddr, opV_call, tch_load, tch_fieldAddr, rd_load, rd_fieldAddr, rd_callv, namesV_c, namesV_sl, namesV_ptr, namesV_agg, namesV_fn, namesL_nil, namesL_cons, namesH_nil, namesH_cons, namesB_var, namesB_none, killO_s, allLt_is, allIn_is, maskH_is, mergeH_is, setH_is, newL_is, refsT, refsH, refsV, refsL, Bool.or_self, Ty.td9, Ty.td22, Ty.td33]
  refine callx_meetsO (cloneIntsO ds hd) (by simp only [aev, cv, cvc, toD_sl, consO_some, toDL_nil, toDL_cons]) (by simp only [aev, cv, cvc, ownsV_sl, ownsL_nil, ownsL_cons, List.append_nil, List.isEmpty_nil]) ?_; simp only [isCallV, shV_own, shH_nil, shH_some, shB_row, slot_is, pureOp, apureO, killT, killB, aev, cv, cvc, elO_s, loadA_p, killV_c, killV_nils, killV_sl, killL_nil, killL_cons, Bool.false_eq_true, ↓reduceIte, List.getElem?_cons_zero, List.getElem?_cons_succ, List.length_cons, List.length_nil, List.map_cons, List.map_nil, List.cons_append, List.nil_append, List.append_nil, List.drop_succ_cons, List.drop_zero, List.all_cons, List.all_nil, Bool.true_and, Bool.and_self, Bool.false_or, Bool.or_false, true_and, and_self, ne_eq, not_false_eq_true, reduceCtorEq, Nat.reduceAdd, Nat.reduceLT, Nat.reduceLeDiff, Nat.reduceEqDiff, Nat.zero_add, Nat.add_zero, List.mem_cons, List.not_mem_nil, or_false, false_or, List.range_succ, List.range_zero, decide_true, decide_false, List.zipIdx_cons, List.zipIdx_nil, Nat.le_refl, List.drop_nil, List.any_cons, List.any_nil, awpW_one, wRun_is, wOp_is, callXW_is, callXV_is, keepK_is, contW_is, nextW_s, confs_nil, confs_cons, conf_is, meet_nil, meet_cons, opV_load, opV_fieldAddr, opV_call, tch_load, tch_fieldAddr, tch_callv, rd_load, rd_fieldAddr, rd_callv, namesV_c, namesV_sl, namesV_ptr, namesV_own, namesV_agg, namesV_fn, namesL_nil, namesL_cons, namesH_nil, namesH_cons, namesB_var, namesB_row, namesB_none, killO_s, allLt_is, allIn_is, maskH_is, mergeH_is, setH_is, newL_is, Bool.or_self, Nat.reduceBEq, Ty.td22, Ty.td33]
  refine callx_meetsO (cloneIntsO xs hx) (by simp only [aev, cv, cvc, toD_sl, consO_some, toDL_nil, toDL_cons]) (by simp only [aev, cv, cvc, ownsV_sl, ownsL_nil, ownsL_cons, List.append_nil, List.isEmpty_nil]) ?_; simp only [awp_ret, seqQ_n, isCallV, retO_is, shV_own, shH_nil, shH_some, shB_row, slot_is, slot.eq_1, pureOp, apureO, astepO, killT, killB, aev, cv, cvc, elO_s, loadA_p, storeA, cellsA, cellOk, setAll, fillA, placeT, placesA, killV_c, killV_nils, killV_sl, killL_nil, killL_cons, notExit, resA_nil, resA_cell, oneA_1, Bool.false_eq_true, ↓reduceIte, List.getElem?_cons_zero, List.getElem?_cons_succ, List.length_cons, List.length_nil, List.map_cons, List.map_nil, List.cons_append, List.nil_append, List.append_nil, List.set_cons_zero, List.set_cons_succ, List.take_succ_cons, List.drop_succ_cons, List.drop_zero, List.all_cons, List.all_nil, Bool.and_true, Bool.true_and, Bool.and_self, Bool.or_true, Bool.true_or, Bool.false_or, Bool.or_false, Value.oneCell', true_and, and_true, and_self, ne_eq, not_false_eq_true, reduceCtorEq, Nat.reduceAdd, Nat.reduceLT, Nat.reduceLeDiff, Nat.reduceEqDiff, Nat.zero_add, Nat.add_zero, List.mem_cons, List.not_mem_nil, or_false, false_or, List.range_succ, List.range_zero, decide_true, decide_false, List.zipIdx_cons, List.zipIdx_nil, Nat.le_refl, List.drop_nil, List.take_nil, List.any_cons, List.any_nil, awpW_nil, awpW_one, wRun_is, wOp_is, keepK_is, stepK_is, contW_is, nextW_n, nextW_s, confs_nil, confs_cons, conf_is, meet_nil, meet_cons, opV_store, opV_build, opV_call, tch_build, tch_callv, tch_store, rd_build, rd_callv, rd_store, namesV_c, namesV_nils, namesV_junk, namesV_sl, namesV_ptr, namesV_own, namesV_agg, namesV_fn, namesL_nil, namesL_cons, namesH_nil, namesH_cons, namesB_var, namesB_row, namesB_none, killO_s, allLt_is, allIn_is, maskH_is, mergeH_is, setH_is, newL_is, refsH, refsV, refsL, WeakH, Bool.or_self, Nat.reduceBEq, Ty.td9, Ty.td22, Ty.td33]
  kernel_rfl

theorem copyO (zs : List Int) (hz : zs.length ≤ 1000000) : MeetsO Tryd.prog 41 [ints zs] (.own 0 1 zs.length) [some (.row 3 1 (zs.map enc))] := by
  refine meetsO_of (X := false) Ty.mixed Tryd.func41 (by kernel_rfl) rfl (by kernel_rfl) (by simp) ?_; rw [Tryd.ntmps41, Tryd.results41]
  simp only [awp_reg, awp_seq, awp_ret, seqQ_n, awpOps_nil, awpOps_one, awpOp_is, isCallV, retO_is, putK_is, updK_is, put_s, upd_s, slot_is, slot.eq_1, pureOp, apureO, astepO, appA_sl, appV, killT, killB, killH, aev, cv, cvc, elO_s, fillA, elemsA, elemsN, rowE, chunk, dropL, isDL_nil, ownsL_nil, toDL_nil, killV_nils, killV_sl, killV_own, notExit, resA_nil, resA_tmp, oneA_1, argT, Bool.false_eq_true, ↓reduceIte, List.getElem?_cons_zero, List.length_cons, List.length_nil, List.map_cons, List.map_nil, List.nil_append, List.set_cons_zero, Option.map_some, List.all_cons, List.all_nil, Bool.true_and, Bool.and_self, Bool.or_false, Value.oneCell', true_and, and_self, reduceCtorEq, Nat.reduceMul, Nat.reduceLT, Nat.reduceLeDiff, Nat.reduceEqDiff, Nat.zero_add, List.mem_cons, List.not_mem_nil, or_false, List.range_zero, List.zipIdx_nil, Nat.le_refl, List.take_nil, List.zip_nil_left, List.getElem?_nil, Ty.td3, Ty.td22, List.length_map, List.length_nil]
  refine ⟨by omega, by omega, ?_⟩
  simp [WeakH, refsV, refsH]

theorem check_ok {e : ByteArray} {ds xs : List Int} (h : checkE e ds xs = 0) : sizeE ds = ((xs.length : Int), 0) ∧ xs.any (fun n => !validE e n) = false ∧ (!isI e && !isB e) = false := by
  unfold checkE at h
  split at h
  · simp at h
  rename_i h1
  split at h
  · rename_i h2; exact absurd h h2
  rename_i h2
  split at h
  · simp at h
  rename_i h3
  split at h
  · simp at h
  rename_i h4
  refine ⟨Prod.ext ?_ ?_, by simpa using h4, by simpa using h1⟩
  · simpa using (Classical.not_not.1 h3).symm
  · simpa using h2
theorem off_err (ds is : List Int) : (offsetE ds is).2 ≠ 0 → (offsetE ds is).2 ≠ 0 := id

def atE (e : ByteArray) (ds xs ix : List Int) : Int × Int :=
  if checkE e ds xs ≠ 0 then (0, 1) else if (offsetE ds ix).2 ≠ 0 then (0, (offsetE ds ix).2) else (xs.getD (offsetE ds ix).1.toNat 0, 0)

section
variable (e : ByteArray) (ds xs ix : List Int) (hd : ds.length ≤ 1000000) (hx : xs.length ≤ 1000000) (hi : ix.length ≤ 1000000)
include hd hx hi
theorem at_ : Meets Tryd.prog 26 [arr e ds xs, ints ix] (two (atE e ds xs ix)) := by
  have hv := isValid e ds xs hd hx
  have ho := offset ds ix hd hi
  unfold atE
  by_cases hc : checkE e ds xs = 0
  case neg =>
    rw [if_pos hc]
    rw [show (checkE e ds xs == 0) = false by simpa using hc] at hv
    refine meets_of (X := false) Ty.mixed Tryd.func26 (by kernel_rfl) rfl (by kernel_rfl) (by simp) ?_; rw [Tryd.ntmps26, Tryd.results26]
    simp only [awp_reg, awp_seq, seqQ_n, awpOps_nil, awpOps_one, awpOp_is, isCallV, callW_is, callV_is, putK_is, updK_is, put_s, upd_s, slot_is, pureOp, apureO, astepO, killT, aev, cv, cvc, elO_s, loadA_p, cellsA, cellOk, argT, Bool.false_eq_true, ↓reduceIte, List.getElem?_cons_zero, List.length_cons, List.length_nil, List.map_cons, List.map_nil, List.nil_append, List.append_nil, List.take_succ_cons, List.drop_zero, Bool.true_and, true_and, Nat.reduceAdd, Nat.reduceEqDiff, Nat.zero_add, Nat.le_refl, List.take_nil, Ty.td33]
    refine call_meets (hv) (by simp only [aev, cv, cvc, toD_c, toD_agg, toD_sl, consO_some, toDL_nil, toDL_cons, Option.map_some]) ?_; simp only [awp_reg, awp_seq, awp_cond, awp_ret, seqQ_n, seqQ_r, awpOps_nil, awpOps_one, awpOp_is, putK_is, put_s, upd_s, slot_is, retA_is, pureOp, apureO, killT, aev, cv, cvc, condA_t, flat_c, ownsV_c, ownsV_agg, ownsV_sl, ownsL_nil, ownsL_cons, toD_c, toD_tup, consO_some, toDL_nil, toDL_cons, notExit, resA_nil, resA_tmp, oneA_2, ↓reduceIte, List.append_nil, Option.map_some, Bool.and_self, Bool.or_true, Bool.not_false, and_self, Nat.reduceEqDiff, List.isEmpty_nil]
  rw [if_neg (by simpa using hc)]
  rw [hc] at hv
  obtain ⟨hs, _⟩ := check_ok hc
  have hin := @off_in ds ix (xs.length : Int)
  generalize offsetE ds ix = o at *
  obtain ⟨k, z⟩ := o
  simp only
  by_cases hz : z = 0
  case neg =>
    rw [if_pos hz]
    refine meets_of (X := false) Ty.mixed Tryd.func26 (by kernel_rfl) rfl (by kernel_rfl) (by simp) ?_; rw [Tryd.ntmps26, Tryd.results26]
    simp only [awp_reg, awp_seq, seqQ_n, awpOps_nil, awpOps_one, awpOp_is, isCallV, callW_is, callV_is, putK_is, updK_is, put_s, upd_s, slot_is, pureOp, apureO, astepO, killT, aev, cv, cvc, elO_s, loadA_p, cellsA, cellOk, argT, Bool.false_eq_true, ↓reduceIte, List.getElem?_cons_zero, List.length_cons, List.length_nil, List.map_cons, List.map_nil, List.nil_append, List.append_nil, List.take_succ_cons, List.drop_zero, Bool.true_and, true_and, Nat.reduceAdd, Nat.reduceEqDiff, Nat.zero_add, Nat.le_refl, List.take_nil, Ty.td33]
    refine call_meets (hv) (by simp only [aev, cv, cvc, toD_c, toD_agg, toD_sl, consO_some, toDL_nil, toDL_cons, Option.map_some]) ?_; simp only [awp_skip, awp_reg, awp_seq, awp_cond, seqQ_n, awpOps_nil, awpOps_one, awpOp_is, isCallV, callW_is, callV_is, putK_is, put_s, upd_s, slot_is, pureOp, apureO, killT, aev, cv, cvc, elO_s, loadA_p, condA_f, flat_c, ownsV_c, ownsV_agg, ownsV_sl, ownsL_nil, ownsL_cons, Bool.false_eq_true, ↓reduceIte, List.getElem?_cons_zero, List.getElem?_cons_succ, List.length_cons, List.length_nil, List.map_cons, List.map_nil, List.append_nil, Bool.true_and, Bool.or_true, Bool.not_true, true_and, ne_eq, not_false_eq_true, reduceCtorEq, Nat.reduceAdd, Nat.reduceEqDiff, Nat.zero_add, List.isEmpty_nil, Ty.td22, Ty.td33, beq_self_eq_true]
    refine call_meets (ho) (by simp only [aev, cv, cvc, toD_sl, consO_some, toDL_nil, toDL_cons, show (z != 0) = true by simpa using hz]) ?_; simp only [awp_reg, awp_seq, awp_cond, awp_ret, seqQ_n, seqQ_r, awpOps_nil, awpOps_one, awpOp_is, putK_is, put_s, upd_s, slot_is, retA_is, pureOp, apureO, killT, aev, cv, cvc, binK, elO_s, condA_t, flat_c, flat_tup, flatL_nil, flatL_cons, ownsV_sl, ownsL_nil, ownsL_cons, toD_c, toD_tup, consO_some, toDL_nil, toDL_cons, notExit, resA_nil, resA_tmp, oneA_2, ↓reduceIte, List.getElem?_cons_zero, List.getElem?_cons_succ, List.append_nil, Option.map_some, Bool.and_self, Bool.or_true, and_self, Nat.reduceEqDiff, List.isEmpty_nil, show (z != 0) = true by simpa using hz]
  subst hz
  rw [if_neg (by simp)]
  obtain ⟨h1, h2, _⟩ := hin hs rfl
  have hg : xs[k.toNat]? = some (xs.getD k.toNat 0) := by
    have : k.toNat < xs.length := by omega
    rw [List.getD_eq_getElem?_getD, List.getElem?_eq_getElem this]; rfl
  generalize xs.getD k.toNat 0 = v at *
  refine meets_of (X := false) Ty.mixed Tryd.func26 (by kernel_rfl) rfl (by kernel_rfl) (by simp) ?_; rw [Tryd.ntmps26, Tryd.results26]
  simp only [awp_reg, awp_seq, seqQ_n, awpOps_nil, awpOps_one, awpOp_is, isCallV, callW_is, callV_is, putK_is, updK_is, put_s, upd_s, slot_is, pureOp, apureO, astepO, killT, aev, cv, cvc, elO_s, loadA_p, cellsA, cellOk, argT, Bool.false_eq_true, ↓reduceIte, List.getElem?_cons_zero, List.length_cons, List.length_nil, List.map_cons, List.map_nil, List.nil_append, List.append_nil, List.take_succ_cons, List.drop_zero, Bool.true_and, true_and, Nat.reduceAdd, Nat.reduceEqDiff, Nat.zero_add, Nat.le_refl, List.take_nil, Ty.td33]
  refine call_meets (hv) (by simp only [aev, cv, cvc, toD_c, toD_agg, toD_sl, consO_some, toDL_nil, toDL_cons, Option.map_some]) ?_; simp only [awp_skip, awp_reg, awp_seq, awp_cond, seqQ_n, awpOps_nil, awpOps_one, awpOp_is, isCallV, callW_is, callV_is, putK_is, put_s, upd_s, slot_is, pureOp, apureO, killT, aev, cv, cvc, elO_s, loadA_p, condA_f, flat_c, ownsV_c, ownsV_agg, ownsV_sl, ownsL_nil, ownsL_cons, Bool.false_eq_true, ↓reduceIte, List.getElem?_cons_zero, List.getElem?_cons_succ, List.length_cons, List.length_nil, List.map_cons, List.map_nil, List.append_nil, Bool.true_and, Bool.or_true, Bool.not_true, true_and, ne_eq, not_false_eq_true, reduceCtorEq, Nat.reduceAdd, Nat.reduceEqDiff, Nat.zero_add, List.isEmpty_nil, Ty.td22, Ty.td33, beq_self_eq_true]
  refine call_meets (ho) (by simp only [aev, cv, cvc, toD_sl, consO_some, toDL_nil, toDL_cons, hg]) ?_; simp only [awp_skip, awp_reg, awp_seq, awp_cond, awp_ret, seqQ_n, awpOps_nil, awpOps_one, awpOp_is, putK_is, put_s, upd_s, slot_is, retA_is, pureOp, apureO, killT, aev, cv, cvc, binK, elO_s, loadA_d, loadA_p, condA_f, flat_c, flat_tup, flatL_nil, flatL_cons, ownsV_sl, ownsL_nil, ownsL_cons, toD_c, toD_tup, toD_agg, consO_some, toDL_nil, toDL_cons, notExit, resA_nil, resA_tmp, oneA_2, Bool.false_eq_true, ↓reduceIte, List.getElem?_cons_zero, List.getElem?_cons_succ, List.length_cons, List.length_nil, List.append_nil, Option.map_some, Bool.and_true, Bool.true_and, Bool.and_self, Bool.or_true, true_and, and_true, and_self, ne_eq, not_false_eq_true, reduceCtorEq, Nat.reduceAdd, Nat.reduceEqDiff, Nat.zero_add, List.isEmpty_nil, Ty.td3, Ty.td22, Ty.td33, bne_self_eq_false, List.getElem?_map, hg]
  omega
theorem refAt : Meets Tryd.prog 27 [arr e ds xs, ints ix] (two (atE e ds xs ix)) := by
  have hv := refValid e ds xs hd hx
  have ho := refOffset ds ix hd hi
  unfold atE
  by_cases hc : checkE e ds xs = 0
  case neg =>
    rw [if_pos hc]
    rw [show (checkE e ds xs == 0) = false by simpa using hc] at hv
    refine meets_of (X := false) Ty.mixed Tryd.func27 (by kernel_rfl) rfl (by kernel_rfl) (by simp) ?_; rw [Tryd.ntmps27, Tryd.results27]
    simp only [awp_reg, awp_seq, seqQ_n, awpOps_nil, awpOps_one, awpOp_is, isCallV, callW_is, callV_is, putK_is, updK_is, put_s, upd_s, slot_is, pureOp, apureO, astepO, killT, aev, cv, cvc, elO_s, loadA_p, cellsA, cellOk, argT, Bool.false_eq_true, ↓reduceIte, List.getElem?_cons_zero, List.length_cons, List.length_nil, List.map_cons, List.map_nil, List.nil_append, List.append_nil, List.take_succ_cons, List.drop_zero, Bool.true_and, true_and, Nat.reduceAdd, Nat.reduceEqDiff, Nat.zero_add, Nat.le_refl, List.take_nil, Ty.td33]
    refine call_meets (hv) (by simp only [aev, cv, cvc, toD_c, toD_agg, toD_sl, consO_some, toDL_nil, toDL_cons, Option.map_some]) ?_; simp only [awp_reg, awp_seq, awp_cond, awp_ret, seqQ_n, seqQ_r, awpOps_nil, awpOps_one, awpOp_is, putK_is, put_s, upd_s, slot_is, retA_is, pureOp, apureO, killT, aev, cv, cvc, condA_t, flat_c, ownsV_c, ownsV_agg, ownsV_sl, ownsL_nil, ownsL_cons, toD_c, toD_tup, consO_some, toDL_nil, toDL_cons, notExit, resA_nil, resA_tmp, oneA_2, ↓reduceIte, List.append_nil, Option.map_some, Bool.and_self, Bool.or_true, Bool.not_false, and_self, Nat.reduceEqDiff, List.isEmpty_nil]
  rw [if_neg (by simpa using hc)]
  rw [hc] at hv
  obtain ⟨hs, _⟩ := check_ok hc
  have hin := @off_in ds ix (xs.length : Int)
  generalize offsetE ds ix = o at *
  obtain ⟨k, z⟩ := o
  simp only
  by_cases hz : z = 0
  case neg =>
    rw [if_pos hz]
    refine meets_of (X := false) Ty.mixed Tryd.func27 (by kernel_rfl) rfl (by kernel_rfl) (by simp) ?_; rw [Tryd.ntmps27, Tryd.results27]
    simp only [awp_reg, awp_seq, seqQ_n, awpOps_nil, awpOps_one, awpOp_is, isCallV, callW_is, callV_is, putK_is, updK_is, put_s, upd_s, slot_is, pureOp, apureO, astepO, killT, aev, cv, cvc, elO_s, loadA_p, cellsA, cellOk, argT, Bool.false_eq_true, ↓reduceIte, List.getElem?_cons_zero, List.length_cons, List.length_nil, List.map_cons, List.map_nil, List.nil_append, List.append_nil, List.take_succ_cons, List.drop_zero, Bool.true_and, true_and, Nat.reduceAdd, Nat.reduceEqDiff, Nat.zero_add, Nat.le_refl, List.take_nil, Ty.td33]
    refine call_meets (hv) (by simp only [aev, cv, cvc, toD_c, toD_agg, toD_sl, consO_some, toDL_nil, toDL_cons, Option.map_some]) ?_; simp only [awp_skip, awp_reg, awp_seq, awp_cond, seqQ_n, awpOps_nil, awpOps_one, awpOp_is, isCallV, callW_is, callV_is, putK_is, put_s, upd_s, slot_is, pureOp, apureO, killT, aev, cv, cvc, elO_s, loadA_p, condA_f, flat_c, ownsV_c, ownsV_agg, ownsV_sl, ownsL_nil, ownsL_cons, Bool.false_eq_true, ↓reduceIte, List.getElem?_cons_zero, List.getElem?_cons_succ, List.length_cons, List.length_nil, List.map_cons, List.map_nil, List.append_nil, Bool.true_and, Bool.or_true, Bool.not_true, true_and, ne_eq, not_false_eq_true, reduceCtorEq, Nat.reduceAdd, Nat.reduceEqDiff, Nat.zero_add, List.isEmpty_nil, Ty.td22, Ty.td33, beq_self_eq_true]
    refine call_meets (ho) (by simp only [aev, cv, cvc, toD_sl, consO_some, toDL_nil, toDL_cons, show (z != 0) = true by simpa using hz]) ?_; simp only [awp_reg, awp_seq, awp_cond, awp_ret, seqQ_n, seqQ_r, awpOps_nil, awpOps_one, awpOp_is, putK_is, put_s, upd_s, slot_is, retA_is, pureOp, apureO, killT, aev, cv, cvc, binK, elO_s, condA_t, flat_c, flat_tup, flatL_nil, flatL_cons, ownsV_sl, ownsL_nil, ownsL_cons, toD_c, toD_tup, consO_some, toDL_nil, toDL_cons, notExit, resA_nil, resA_tmp, oneA_2, ↓reduceIte, List.getElem?_cons_zero, List.getElem?_cons_succ, List.append_nil, Option.map_some, Bool.and_self, Bool.or_true, and_self, Nat.reduceEqDiff, List.isEmpty_nil, show (z != 0) = true by simpa using hz]
  subst hz
  rw [if_neg (by simp)]
  obtain ⟨h1, h2, _⟩ := hin hs rfl
  have hg : xs[k.toNat]? = some (xs.getD k.toNat 0) := by
    have : k.toNat < xs.length := by omega
    rw [List.getD_eq_getElem?_getD, List.getElem?_eq_getElem this]; rfl
  generalize xs.getD k.toNat 0 = v at *
  refine meets_of (X := false) Ty.mixed Tryd.func27 (by kernel_rfl) rfl (by kernel_rfl) (by simp) ?_; rw [Tryd.ntmps27, Tryd.results27]
  simp only [awp_reg, awp_seq, seqQ_n, awpOps_nil, awpOps_one, awpOp_is, isCallV, callW_is, callV_is, putK_is, updK_is, put_s, upd_s, slot_is, pureOp, apureO, astepO, killT, aev, cv, cvc, elO_s, loadA_p, cellsA, cellOk, argT, Bool.false_eq_true, ↓reduceIte, List.getElem?_cons_zero, List.length_cons, List.length_nil, List.map_cons, List.map_nil, List.nil_append, List.append_nil, List.take_succ_cons, List.drop_zero, Bool.true_and, true_and, Nat.reduceAdd, Nat.reduceEqDiff, Nat.zero_add, Nat.le_refl, List.take_nil, Ty.td33]
  refine call_meets (hv) (by simp only [aev, cv, cvc, toD_c, toD_agg, toD_sl, consO_some, toDL_nil, toDL_cons, Option.map_some]) ?_; simp only [awp_skip, awp_reg, awp_seq, awp_cond, seqQ_n, awpOps_nil, awpOps_one, awpOp_is, isCallV, callW_is, callV_is, putK_is, put_s, upd_s, slot_is, pureOp, apureO, killT, aev, cv, cvc, elO_s, loadA_p, condA_f, flat_c, ownsV_c, ownsV_agg, ownsV_sl, ownsL_nil, ownsL_cons, Bool.false_eq_true, ↓reduceIte, List.getElem?_cons_zero, List.getElem?_cons_succ, List.length_cons, List.length_nil, List.map_cons, List.map_nil, List.append_nil, Bool.true_and, Bool.or_true, Bool.not_true, true_and, ne_eq, not_false_eq_true, reduceCtorEq, Nat.reduceAdd, Nat.reduceEqDiff, Nat.zero_add, List.isEmpty_nil, Ty.td22, Ty.td33, beq_self_eq_true]
  refine call_meets (ho) (by simp only [aev, cv, cvc, toD_sl, consO_some, toDL_nil, toDL_cons, hg]) ?_; simp only [awp_skip, awp_reg, awp_seq, awp_cond, awp_ret, seqQ_n, awpOps_nil, awpOps_one, awpOp_is, putK_is, put_s, upd_s, slot_is, retA_is, pureOp, apureO, killT, aev, cv, cvc, binK, elO_s, loadA_d, loadA_p, condA_f, flat_c, flat_tup, flatL_nil, flatL_cons, ownsV_sl, ownsL_nil, ownsL_cons, toD_c, toD_tup, toD_agg, consO_some, toDL_nil, toDL_cons, notExit, resA_nil, resA_tmp, oneA_2, Bool.false_eq_true, ↓reduceIte, List.getElem?_cons_zero, List.getElem?_cons_succ, List.length_cons, List.length_nil, List.append_nil, Option.map_some, Bool.and_true, Bool.true_and, Bool.and_self, Bool.or_true, true_and, and_true, and_self, ne_eq, not_false_eq_true, reduceCtorEq, Nat.reduceAdd, Nat.reduceEqDiff, Nat.zero_add, List.isEmpty_nil, Ty.td3, Ty.td22, Ty.td33, bne_self_eq_false, List.getElem?_map, hg]
  omega

/-- What Set makes. -/
def setE (n : Int) : AV :=
  if checkE e ds xs ≠ 0 then .tup [arr ⟨#[]⟩ [] [], I 1] else if (offsetE ds ix).2 ≠ 0 then .tup [arr ⟨#[]⟩ [] [], I (offsetE ds ix).2] else if validE e n = false then .tup [arr ⟨#[]⟩ [] [], I 2] else .tup [arr e ds (xs.set (offsetE ds ix).1.toNat n), I 0]
def setR (n : Int) : AV :=
  if checkE e ds xs ≠ 0 then .tup [.agg [S ⟨#[]⟩, .nils, .nils], I 1] else if (offsetE ds ix).2 ≠ 0 then .tup [.agg [S ⟨#[]⟩, .nils, .nils], I (offsetE ds ix).2] else if validE e n = false then .tup [.agg [S ⟨#[]⟩, .nils, .nils], I 2] else .tup [arr e ds (xs.set (offsetE ds ix).1.toNat n), I 0]
omit hd hx hi in
theorem setR_imp (n : Int) (ok : Nat → Prop) (w : World) (v : Value) (h : RepD ok w (setR e ds xs ix n) v) : RepD ok w (setE e ds xs ix n) v := by
  unfold setE
  unfold setR at h
  by_cases h1 : checkE e ds xs ≠ 0
  · rw [if_pos h1] at h ⊢; exact zero_imp ok w v h
  rw [if_neg h1] at h ⊢
  by_cases h2 : (offsetE ds ix).2 ≠ 0
  · rw [if_pos h2] at h ⊢; exact zero_imp ok w v h
  rw [if_neg h2] at h ⊢
  by_cases h3 : validE e n = false
  · rw [if_pos h3] at h ⊢; exact zero_imp ok w v h
  rw [if_neg h3] at h ⊢
  exact h

theorem set_ (n : Int) : Meets Tryd.prog 28 [arr e ds xs, ints ix, I n] (setE e ds xs ix n) := by
  refine Meets.weak (r0 := setR e ds xs ix n) ?_ (setR_imp e ds xs ix n)
  have hv := isValid e ds xs hd hx
  have ho := offset ds ix hd hi
  have hn := valid e n
  have hcl := cloneArrO e ds xs hd hx
  unfold setR
  by_cases hc : checkE e ds xs = 0
  case neg =>
    rw [if_pos hc]
    rw [show (checkE e ds xs == 0) = false by simpa using hc] at hv
    refine meets_of (X := false) Ty.mixed Tryd.func28 (by kernel_rfl) rfl (by kernel_rfl) (by simp) ?_; rw [Tryd.ntmps28, Tryd.results28]
    simp only [awp_reg, awp_seq, seqQ_n, awpOps_nil, awpOps_one, awpOp_is, isCallV, callW_is, callV_is, putK_is, updK_is, put_s, upd_s, slot_is, pureOp, apureO, astepO, killT, aev, cv, cvc, elO_s, loadA_p, cellsA, cellOk, argT, Bool.false_eq_true, ↓reduceIte, List.getElem?_cons_zero, List.length_cons, List.length_nil, List.map_cons, List.map_nil, List.cons_append, List.nil_append, List.append_nil, List.take_succ_cons, List.drop_zero, List.all_cons, List.all_nil, Bool.true_and, Bool.and_self, Value.oneCell', true_and, and_self, Nat.reduceAdd, Nat.reduceEqDiff, Nat.zero_add, Nat.le_refl, List.take_nil, Ty.td33]
    refine call_meets (hv) (by simp only [aev, cv, cvc, toD_c, toD_agg, toD_sl, consO_some, toDL_nil, toDL_cons, Option.map_some]) ?_; simp only [awp_reg, awp_seq, awp_cond, awp_ret, seqQ_n, seqQ_r, awpOps_nil, awpOps_one, awpOp_is, isCallV, putK_is, updK_is, put_s, upd_n, upd_s, slot_is, slot.eq_1, retA_is, pureOp, apureO, astepO, killT, aev, cv, cvc, elO_s, loadA_p, storeA, cellsA, cellOk, setAll, fillA, placeT, placesA, condA_t, flat_c, ownsV_c, ownsV_agg, ownsV_sl, ownsL_nil, ownsL_cons, toD_c, toD_nils, toD_tup, toD_agg, consO_some, toDL_nil, toDL_cons, notExit, resA_nil, resA_tmp, resA_cell, oneA_2, Bool.false_eq_true, ↓reduceIte, List.getElem?_cons_zero, List.getElem?_cons_succ, List.length_cons, List.length_nil, List.map_cons, List.map_nil, List.append_nil, List.set_cons_zero, List.set_cons_succ, Option.map_some, List.take_succ_cons, List.drop_zero, List.all_cons, List.all_nil, Bool.true_and, Bool.and_self, Bool.or_true, Bool.not_false, Value.oneCell', true_and, and_self, ne_eq, not_false_eq_true, reduceCtorEq, Nat.reduceAdd, Nat.reduceEqDiff, Nat.zero_add, List.isEmpty_nil, Nat.le_refl, List.take_nil, Ty.td9, Ty.td22, Ty.td33]
  rw [if_neg (by simpa using hc)]
  rw [hc] at hv
  obtain ⟨hs, _⟩ := check_ok hc
  have hin := @off_in ds ix (xs.length : Int)
  generalize offsetE ds ix = o at *
  obtain ⟨k, z⟩ := o
  simp only
  by_cases hz : z = 0
  case neg =>
    rw [if_pos hz]
    refine meets_of (X := false) Ty.mixed Tryd.func28 (by kernel_rfl) rfl (by kernel_rfl) (by simp) ?_; rw [Tryd.ntmps28, Tryd.results28]
    simp only [awp_reg, awp_seq, seqQ_n, awpOps_nil, awpOps_one, awpOp_is, isCallV, callW_is, callV_is, putK_is, updK_is, put_s, upd_s, slot_is, pureOp, apureO, astepO, killT, aev, cv, cvc, elO_s, loadA_p, cellsA, cellOk, argT, Bool.false_eq_true, ↓reduceIte, List.getElem?_cons_zero, List.length_cons, List.length_nil, List.map_cons, List.map_nil, List.cons_append, List.nil_append, List.append_nil, List.take_succ_cons, List.drop_zero, List.all_cons, List.all_nil, Bool.true_and, Bool.and_self, Value.oneCell', true_and, and_self, Nat.reduceAdd, Nat.reduceEqDiff, Nat.zero_add, Nat.le_refl, List.take_nil, Ty.td33]
    refine call_meets (hv) (by simp only [aev, cv, cvc, toD_c, toD_agg, toD_sl, consO_some, toDL_nil, toDL_cons, Option.map_some]) ?_; simp only [awp_skip, awp_reg, awp_seq, awp_cond, seqQ_n, awpOps_nil, awpOps_one, awpOp_is, isCallV, callW_is, callV_is, putK_is, put_s, upd_s, slot_is, pureOp, apureO, killT, aev, cv, cvc, elO_s, loadA_p, condA_f, flat_c, ownsV_c, ownsV_agg, ownsV_sl, ownsL_nil, ownsL_cons, Bool.false_eq_true, ↓reduceIte, List.getElem?_cons_zero, List.getElem?_cons_succ, List.length_cons, List.length_nil, List.map_cons, List.map_nil, List.append_nil, Bool.true_and, Bool.or_true, Bool.not_true, true_and, ne_eq, not_false_eq_true, reduceCtorEq, Nat.reduceAdd, Nat.reduceEqDiff, Nat.zero_add, List.isEmpty_nil, Ty.td22, Ty.td33, beq_self_eq_true]
    refine call_meets (ho) (by simp only [aev, cv, cvc, toD_sl, consO_some, toDL_nil, toDL_cons, show (z == 0) = false by simpa using hz, show (z != 0) = true by simpa using hz]) ?_; simp only [awp_skip, awp_reg, awp_seq, awp_cond, awp_ret, seqQ_n, seqQ_r, awpOps_nil, awpOps_one, awpOps_if, awpOp_is, isCallV, putK_is, updK_is, put_s, upd_n, upd_s, slot_is, slot.eq_1, retA_is, pureOp, apureO, astepO, killT, aev, cv, cvc, binK, elO_s, loadA_p, storeA, cellsA, cellOk, setAll, fillA, placeT, placesA, yieldA, guardA_tf, condA_t, condA_f, pickA_f, flat_c, flat_tup, flatL_nil, flatL_cons, ownsV_sl, ownsL_nil, ownsL_cons, toD_c, toD_nils, toD_tup, toD_agg, consO_some, toDL_nil, toDL_cons, notExit, resA_nil, resA_tmp, resA_cell, oneA_2, Bool.false_eq_true, ↓reduceIte, List.getElem?_cons_zero, List.getElem?_cons_succ, List.length_cons, List.length_nil, List.map_cons, List.map_nil, List.append_nil, List.set_cons_zero, List.set_cons_succ, List.getElem?_toArray, Option.bind_some, Option.map_some, List.take_succ_cons, List.drop_zero, List.all_cons, List.all_nil, Bool.true_and, Bool.and_self, Bool.or_true, Value.oneCell', true_and, and_self, ne_eq, not_false_eq_true, reduceCtorEq, Nat.reduceAdd, Nat.reduceEqDiff, Nat.zero_add, List.isEmpty_nil, Nat.le_refl, List.take_nil, Ty.td9, Ty.td22, Ty.td33, show (z == 0) = false by simpa using hz, show (z != 0) = true by simpa using hz]
  subst hz
  rw [if_neg (by simp)]
  obtain ⟨h1, h2, _⟩ := hin hs rfl
  cases hval : validE e n with
  | false =>
    rw [hval] at hn
    rw [if_pos rfl]
    refine meets_of (X := false) Ty.mixed Tryd.func28 (by kernel_rfl) rfl (by kernel_rfl) (by simp) ?_; rw [Tryd.ntmps28, Tryd.results28]
    simp only [awp_reg, awp_seq, seqQ_n, awpOps_nil, awpOps_one, awpOp_is, isCallV, callW_is, callV_is, putK_is, updK_is, put_s, upd_s, slot_is, pureOp, apureO, astepO, killT, aev, cv, cvc, elO_s, loadA_p, cellsA, cellOk, argT, Bool.false_eq_true, ↓reduceIte, List.getElem?_cons_zero, List.length_cons, List.length_nil, List.map_cons, List.map_nil, List.cons_append, List.nil_append, List.append_nil, List.take_succ_cons, List.drop_zero, List.all_cons, List.all_nil, Bool.true_and, Bool.and_self, Value.oneCell', true_and, and_self, Nat.reduceAdd, Nat.reduceEqDiff, Nat.zero_add, Nat.le_refl, List.take_nil, Ty.td33]
    refine call_meets (hv) (by simp only [aev, cv, cvc, toD_c, toD_agg, toD_sl, consO_some, toDL_nil, toDL_cons, Option.map_some]) ?_; simp only [awp_skip, awp_reg, awp_seq, awp_cond, seqQ_n, awpOps_nil, awpOps_one, awpOp_is, isCallV, callW_is, callV_is, putK_is, put_s, upd_s, slot_is, pureOp, apureO, killT, aev, cv, cvc, elO_s, loadA_p, condA_f, flat_c, ownsV_c, ownsV_agg, ownsV_sl, ownsL_nil, ownsL_cons, Bool.false_eq_true, ↓reduceIte, List.getElem?_cons_zero, List.getElem?_cons_succ, List.length_cons, List.length_nil, List.map_cons, List.map_nil, List.append_nil, Bool.true_and, Bool.or_true, Bool.not_true, true_and, ne_eq, not_false_eq_true, reduceCtorEq, Nat.reduceAdd, Nat.reduceEqDiff, Nat.zero_add, List.isEmpty_nil, Ty.td22, Ty.td33, beq_self_eq_true]
    refine call_meets (ho) (by simp only [aev, cv, cvc, toD_sl, consO_some, toDL_nil, toDL_cons]) ?_; simp only [awp_reg, awp_seq, seqQ_n, awpOps_nil, awpOps_one, awpOps_if, awpOp_is, isCallV, callW_is, callV_is, awpO_is, putK_is, put_s, upd_s, slot_is, pureOp, apureO, killT, aev, cv, cvc, binK, elO_s, loadA_p, yieldA, guardA_tt, flat_c, flat_tup, flatL_nil, flatL_cons, ownsV_sl, ownsL_nil, ownsL_cons, Bool.false_eq_true, ↓reduceIte, List.getElem?_cons_zero, List.getElem?_cons_succ, List.length_cons, List.length_nil, List.map_cons, List.map_nil, List.append_nil, List.getElem?_toArray, Option.bind_some, Bool.true_and, Bool.and_self, Bool.or_true, true_and, and_self, ne_eq, not_false_eq_true, reduceCtorEq, Nat.reduceAdd, Nat.reduceEqDiff, Nat.zero_add, List.isEmpty_nil, Ty.td9, Ty.td33, beq_self_eq_true]
    refine call_meets (hn) (by simp only [aev, cv, cvc, toD_c, consO_some, toDL_nil, toDL_cons, show ((2 : Int) != 0) = true by decide]) ?_; simp only [awp_reg, awp_seq, awp_cond, awp_ret, seqQ_n, seqQ_r, awpOps_nil, awpOps_one, awpOps_if, awpOp_is, isCallV, awpO_is, putK_is, updK_is, put_s, upd_n, upd_s, slot_is, slot.eq_1, retA_is, pureOp, apureO, astepO, killT, aev, cv, cvc, binK, elO_s, loadA_p, storeA, cellsA, cellOk, setAll, fillA, placeT, placesA, yieldA, guardA_tt, condA_t, pickA_t, flat_c, ownsV_c, ownsL_nil, ownsL_cons, toD_c, toD_nils, toD_tup, toD_agg, consO_some, toDL_nil, toDL_cons, notExit, resA_nil, resA_tmp, resA_cell, oneA_2, Bool.false_eq_true, ↓reduceIte, List.getElem?_cons_zero, List.getElem?_cons_succ, List.length_cons, List.length_nil, List.map_cons, List.map_nil, List.append_nil, List.set_cons_zero, List.set_cons_succ, List.getElem?_toArray, Option.bind_some, Option.map_some, List.take_succ_cons, List.drop_zero, List.all_cons, List.all_nil, Bool.true_and, Bool.and_self, Bool.or_true, Bool.not_false, Value.oneCell', true_and, and_self, ne_eq, not_false_eq_true, reduceCtorEq, Nat.reduceAdd, Nat.reduceEqDiff, Nat.zero_add, List.isEmpty_nil, Nat.le_refl, List.take_nil, Ty.td9, Ty.td22, Ty.td33, show ((2 : Int) != 0) = true by decide]
  | true =>
  rw [hval] at hn
  rw [if_neg (by simp)]
  have hg : xs[k.toNat]? = some (xs.getD k.toNat 0) := by
    have : k.toNat < xs.length := by omega
    rw [List.getD_eq_getElem?_getD, List.getElem?_eq_getElem this]; rfl
  generalize xs.getD k.toNat 0 = v at *
  have htd : List.take ds.length (List.map enc ds) = List.map enc ds := List.take_of_length_le (by simp)
  have htx : List.take xs.length ((List.map enc xs).set k.toNat [I n]) = List.map enc (xs.set k.toNat n) := by rw [List.take_of_length_le (by simp), List.map_set]
  refine meets_of (X := false) Ty.mixed Tryd.func28 (by kernel_rfl) rfl (by kernel_rfl) (by simp) ?_; rw [Tryd.ntmps28, Tryd.results28]
  simp only [awp_reg, awp_seq, seqQ_n, awpOps_nil, awpOps_one, awpOp_is, isCallV, callW_is, callV_is, putK_is, updK_is, put_s, upd_s, slot_is, pureOp, apureO, astepO, killT, aev, cv, cvc, elO_s, loadA_p, cellsA, cellOk, argT, Bool.false_eq_true, ↓reduceIte, List.getElem?_cons_zero, List.length_cons, List.length_nil, List.map_cons, List.map_nil, List.cons_append, List.nil_append, List.append_nil, List.take_succ_cons, List.drop_zero, List.all_cons, List.all_nil, Bool.true_and, Bool.and_self, Value.oneCell', true_and, and_self, Nat.reduceAdd, Nat.reduceEqDiff, Nat.zero_add, Nat.le_refl, List.take_nil, Ty.td33]
  refine call_meets (hv) (by simp only [aev, cv, cvc, toD_c, toD_agg, toD_sl, consO_some, toDL_nil, toDL_cons, Option.map_some]) ?_; simp only [awp_skip, awp_reg, awp_seq, awp_cond, seqQ_n, awpOps_nil, awpOps_one, awpOp_is, isCallV, callW_is, callV_is, putK_is, put_s, upd_s, slot_is, pureOp, apureO, killT, aev, cv, cvc, elO_s, loadA_p, condA_f, flat_c, ownsV_c, ownsV_agg, ownsV_sl, ownsL_nil, ownsL_cons, Bool.false_eq_true, ↓reduceIte, List.getElem?_cons_zero, List.getElem?_cons_succ, List.length_cons, List.length_nil, List.map_cons, List.map_nil, List.append_nil, Bool.true_and, Bool.or_true, Bool.not_true, true_and, ne_eq, not_false_eq_true, reduceCtorEq, Nat.reduceAdd, Nat.reduceEqDiff, Nat.zero_add, List.isEmpty_nil, Ty.td22, Ty.td33, beq_self_eq_true]
  refine call_meets (ho) (by simp only [aev, cv, cvc, toD_sl, consO_some, toDL_nil, toDL_cons]) ?_; simp only [awp_reg, awp_seq, seqQ_n, awpOps_nil, awpOps_one, awpOps_if, awpOp_is, isCallV, callW_is, callV_is, awpO_is, putK_is, put_s, upd_s, slot_is, pureOp, apureO, killT, aev, cv, cvc, binK, elO_s, loadA_p, yieldA, guardA_tt, flat_c, flat_tup, flatL_nil, flatL_cons, ownsV_sl, ownsL_nil, ownsL_cons, Bool.false_eq_true, ↓reduceIte, List.getElem?_cons_zero, List.getElem?_cons_succ, List.length_cons, List.length_nil, List.map_cons, List.map_nil, List.append_nil, List.getElem?_toArray, Option.bind_some, Bool.true_and, Bool.and_self, Bool.or_true, true_and, and_self, ne_eq, not_false_eq_true, reduceCtorEq, Nat.reduceAdd, Nat.reduceEqDiff, Nat.zero_add, List.isEmpty_nil, Ty.td9, Ty.td33, beq_self_eq_true]
  refine call_meets (hn) (by simp only [aev, cv, cvc, toD_c, consO_some, toDL_nil, toDL_cons]) ?_; simp only [awp_skip, awp_reg, awp_seq, awp_cond, seqQ_n, awpOps_nil, awpOps_one, awpOps_if, awpOp_is, isCallV, callW_is, callV_is, awpO_is, putK_is, put_s, upd_s, slot_is, pureOp, apureO, killT, aev, cv, cvc, binK, elO_s, loadA_p, yieldA, guardA_tt, condA_f, pickA_t, flat_c, ownsV_c, ownsL_nil, ownsL_cons, Bool.false_eq_true, ↓reduceIte, List.getElem?_cons_zero, List.getElem?_cons_succ, List.length_cons, List.length_nil, List.map_cons, List.map_nil, List.append_nil, List.getElem?_toArray, Option.bind_some, List.take_succ_cons, List.drop_zero, Bool.true_and, Bool.or_true, Bool.not_true, true_and, Nat.reduceAdd, Nat.reduceEqDiff, Nat.zero_add, List.isEmpty_nil, Nat.le_refl, List.take_nil, Ty.td33, bne_self_eq_false]
  refine call_meetsO (hcl) (by simp only [aev, cv, cvc, toD_c, toD_agg, toD_sl, consO_some, toDL_nil, toDL_cons, Option.map_some, hg, htx, htd]) (by simp only [aev, cv, cvc, ownsV_c, ownsV_agg, ownsV_sl, ownsL_nil, ownsL_cons, List.append_nil, List.isEmpty_nil, hg, htx, htd]) ?_; simp only [awp_reg, awp_seq, awp_ret, seqQ_n, awpOps_nil, awpOps_one, awpOp_is, isCallV, shV_c, shV_own, shV_agg, shL_nil, shL_cons, shH_nil, shH_some, shH_none, shB_row, putK_is, updK_is, put_s, upd_n, upd_s, slot_is, retA_is, pureOp, apureO, astepO, killT, aev, cv, cvc, elO_s, loadA_p, storeA, cellsA, cellOk, setAll, elemsA, isD_c, isDL_nil, isDL_cons, toD_c, toD_nils, toD_tup, toD_agg, toD_own, consO_some, toDL_nil, toDL_cons, notExit, resA_nil, resA_tmp, resA_cell, oneA_2, Bool.false_eq_true, ↓reduceIte, List.getElem?_cons_zero, List.getElem?_cons_succ, List.length_cons, List.length_nil, List.cons_append, List.nil_append, List.set_cons_zero, List.set_cons_succ, Option.map_some, List.take_succ_cons, List.drop_zero, Bool.and_true, Bool.true_and, Bool.and_self, Value.oneCell', true_and, and_true, and_self, ne_eq, not_false_eq_true, reduceCtorEq, Nat.reduceAdd, Nat.reduceLeDiff, Nat.reduceEqDiff, Nat.zero_add, Nat.le_refl, List.take_nil, Ty.td3, Ty.td22, Ty.td33, List.length_map, List.getElem?_map, hg, List.length_set, Nat.mul_one, Nat.mod_one, Nat.div_one, htx, htd]
  omega

omit hd hx hi in
theorem set_ok {n : Int} {k : Nat} (h : checkE e ds xs = 0) (hv : validE e n = true) : checkE e ds (xs.set k n) = 0 := by
  obtain ⟨h1, h2, h3⟩ := check_ok h
  unfold checkE
  rw [h1, h3, if_neg (by simp), if_neg (by simp), if_neg (by simp), if_neg]
  intro h4
  obtain ⟨y, hy, h5⟩ := List.any_eq_true.1 h4
  rcases List.mem_or_eq_of_mem_set hy with h6 | rfl
  · have := List.any_eq_false.1 h2 y h6
    exact this h5
  · rw [hv] at h5; cases h5

theorem refSet (n : Int) : Meets Tryd.prog 29 [arr e ds xs, ints ix, I n] (setE e ds xs ix n) := by
  refine Meets.weak (r0 := setR e ds xs ix n) ?_ (setR_imp e ds xs ix n)
  have hv := refValid e ds xs hd hx
  have ho := refOffset ds ix hd hi
  have hn := refValid17 e n
  have hcl := copyO xs hx
  unfold setR
  by_cases hc : checkE e ds xs = 0
  case neg =>
    rw [if_pos hc]
    rw [show (checkE e ds xs == 0) = false by simpa using hc] at hv
    refine meets_of (X := false) Ty.mixed Tryd.func29 (by kernel_rfl) rfl (by kernel_rfl) (by simp) ?_; rw [Tryd.ntmps29, Tryd.results29]
    simp only [awp_reg, awp_seq, seqQ_n, awpOps_nil, awpOps_one, awpOp_is, isCallV, callW_is, callV_is, putK_is, updK_is, put_s, upd_s, slot_is, pureOp, apureO, astepO, killT, aev, cv, cvc, elO_s, loadA_p, cellsA, cellOk, argT, Bool.false_eq_true, ↓reduceIte, List.getElem?_cons_zero, List.length_cons, List.length_nil, List.map_cons, List.map_nil, List.cons_append, List.nil_append, List.append_nil, List.take_succ_cons, List.drop_zero, List.all_cons, List.all_nil, Bool.true_and, Bool.and_self, Value.oneCell', true_and, and_self, Nat.reduceAdd, Nat.reduceEqDiff, Nat.zero_add, Nat.le_refl, List.take_nil, Ty.td33]
    refine call_meets (hv) (by simp only [aev, cv, cvc, toD_c, toD_agg, toD_sl, consO_some, toDL_nil, toDL_cons, Option.map_some]) ?_; simp only [awp_reg, awp_seq, awp_cond, awp_ret, seqQ_n, seqQ_r, awpOps_nil, awpOps_one, awpOp_is, isCallV, putK_is, updK_is, put_s, upd_n, upd_s, slot_is, slot.eq_1, retA_is, pureOp, apureO, astepO, killT, aev, cv, cvc, elO_s, loadA_p, storeA, cellsA, cellOk, setAll, fillA, placeT, placesA, condA_t, flat_c, ownsV_c, ownsV_agg, ownsV_sl, ownsL_nil, ownsL_cons, toD_c, toD_nils, toD_tup, toD_agg, consO_some, toDL_nil, toDL_cons, notExit, resA_nil, resA_tmp, resA_cell, oneA_2, Bool.false_eq_true, ↓reduceIte, List.getElem?_cons_zero, List.getElem?_cons_succ, List.length_cons, List.length_nil, List.map_cons, List.map_nil, List.append_nil, List.set_cons_zero, List.set_cons_succ, Option.map_some, List.take_succ_cons, List.drop_zero, List.all_cons, List.all_nil, Bool.true_and, Bool.and_self, Bool.or_true, Bool.not_false, Value.oneCell', true_and, and_self, ne_eq, not_false_eq_true, reduceCtorEq, Nat.reduceAdd, Nat.reduceEqDiff, Nat.zero_add, List.isEmpty_nil, Nat.le_refl, List.take_nil, Ty.td9, Ty.td22, Ty.td33]
  rw [if_neg (by simpa using hc)]
  have hof := fun k (hval : validE e n = true) => (refOf e ds (xs.set k n) hd (by simpa using hx))
  have hso := fun k (hval : validE e n = true) => set_ok e ds xs (k := k) hc hval
  rw [hc] at hv
  obtain ⟨hs, _⟩ := check_ok hc
  have hin := @off_in ds ix (xs.length : Int)
  generalize offsetE ds ix = o at *
  obtain ⟨k, z⟩ := o
  simp only
  by_cases hz : z = 0
  case neg =>
    rw [if_pos hz]
    refine meets_of (X := false) Ty.mixed Tryd.func29 (by kernel_rfl) rfl (by kernel_rfl) (by simp) ?_; rw [Tryd.ntmps29, Tryd.results29]
    simp only [awp_reg, awp_seq, seqQ_n, awpOps_nil, awpOps_one, awpOp_is, isCallV, callW_is, callV_is, putK_is, updK_is, put_s, upd_s, slot_is, pureOp, apureO, astepO, killT, aev, cv, cvc, elO_s, loadA_p, cellsA, cellOk, argT, Bool.false_eq_true, ↓reduceIte, List.getElem?_cons_zero, List.length_cons, List.length_nil, List.map_cons, List.map_nil, List.cons_append, List.nil_append, List.append_nil, List.take_succ_cons, List.drop_zero, List.all_cons, List.all_nil, Bool.true_and, Bool.and_self, Value.oneCell', true_and, and_self, Nat.reduceAdd, Nat.reduceEqDiff, Nat.zero_add, Nat.le_refl, List.take_nil, Ty.td33]
    refine call_meets (hv) (by simp only [aev, cv, cvc, toD_c, toD_agg, toD_sl, consO_some, toDL_nil, toDL_cons, Option.map_some]) ?_; simp only [awp_skip, awp_reg, awp_seq, awp_cond, seqQ_n, awpOps_nil, awpOps_one, awpOp_is, isCallV, callW_is, callV_is, putK_is, put_s, upd_s, slot_is, pureOp, apureO, killT, aev, cv, cvc, elO_s, loadA_p, condA_f, flat_c, ownsV_c, ownsV_agg, ownsV_sl, ownsL_nil, ownsL_cons, Bool.false_eq_true, ↓reduceIte, List.getElem?_cons_zero, List.getElem?_cons_succ, List.length_cons, List.length_nil, List.map_cons, List.map_nil, List.append_nil, Bool.true_and, Bool.or_true, Bool.not_true, true_and, ne_eq, not_false_eq_true, reduceCtorEq, Nat.reduceAdd, Nat.reduceEqDiff, Nat.zero_add, List.isEmpty_nil, Ty.td22, Ty.td33, beq_self_eq_true]
    refine call_meets (ho) (by simp only [aev, cv, cvc, toD_sl, consO_some, toDL_nil, toDL_cons, show (z != 0) = true by simpa using hz]) ?_; simp only [awp_reg, awp_seq, awp_cond, awp_ret, seqQ_n, seqQ_r, awpOps_nil, awpOps_one, awpOp_is, isCallV, putK_is, updK_is, put_s, upd_n, upd_s, slot_is, slot.eq_1, retA_is, pureOp, apureO, astepO, killT, aev, cv, cvc, binK, elO_s, loadA_p, storeA, cellsA, cellOk, setAll, fillA, placeT, placesA, condA_t, flat_c, flat_tup, flatL_nil, flatL_cons, ownsV_sl, ownsL_nil, ownsL_cons, toD_c, toD_nils, toD_tup, toD_agg, consO_some, toDL_nil, toDL_cons, notExit, resA_nil, resA_tmp, resA_cell, oneA_2, Bool.false_eq_true, ↓reduceIte, List.getElem?_cons_zero, List.getElem?_cons_succ, List.length_cons, List.length_nil, List.map_cons, List.map_nil, List.append_nil, List.set_cons_zero, List.set_cons_succ, Option.map_some, List.take_succ_cons, List.drop_zero, List.all_cons, List.all_nil, Bool.true_and, Bool.and_self, Bool.or_true, Value.oneCell', true_and, and_self, ne_eq, not_false_eq_true, reduceCtorEq, Nat.reduceAdd, Nat.reduceEqDiff, Nat.zero_add, List.isEmpty_nil, Nat.le_refl, List.take_nil, Ty.td9, Ty.td22, Ty.td33, show (z != 0) = true by simpa using hz]
  subst hz
  rw [if_neg (by simp)]
  obtain ⟨h1, h2, _⟩ := hin hs rfl
  cases hval : validE e n with
  | false =>
    rw [hval] at hn
    rw [if_pos rfl]
    refine meets_of (X := false) Ty.mixed Tryd.func29 (by kernel_rfl) rfl (by kernel_rfl) (by simp) ?_; rw [Tryd.ntmps29, Tryd.results29]
    simp only [awp_reg, awp_seq, seqQ_n, awpOps_nil, awpOps_one, awpOp_is, isCallV, callW_is, callV_is, putK_is, updK_is, put_s, upd_s, slot_is, pureOp, apureO, astepO, killT, aev, cv, cvc, elO_s, loadA_p, cellsA, cellOk, argT, Bool.false_eq_true, ↓reduceIte, List.getElem?_cons_zero, List.length_cons, List.length_nil, List.map_cons, List.map_nil, List.cons_append, List.nil_append, List.append_nil, List.take_succ_cons, List.drop_zero, List.all_cons, List.all_nil, Bool.true_and, Bool.and_self, Value.oneCell', true_and, and_self, Nat.reduceAdd, Nat.reduceEqDiff, Nat.zero_add, Nat.le_refl, List.take_nil, Ty.td33]
    refine call_meets (hv) (by simp only [aev, cv, cvc, toD_c, toD_agg, toD_sl, consO_some, toDL_nil, toDL_cons, Option.map_some]) ?_; simp only [awp_skip, awp_reg, awp_seq, awp_cond, seqQ_n, awpOps_nil, awpOps_one, awpOp_is, isCallV, callW_is, callV_is, putK_is, put_s, upd_s, slot_is, pureOp, apureO, killT, aev, cv, cvc, elO_s, loadA_p, condA_f, flat_c, ownsV_c, ownsV_agg, ownsV_sl, ownsL_nil, ownsL_cons, Bool.false_eq_true, ↓reduceIte, List.getElem?_cons_zero, List.getElem?_cons_succ, List.length_cons, List.length_nil, List.map_cons, List.map_nil, List.append_nil, Bool.true_and, Bool.or_true, Bool.not_true, true_and, ne_eq, not_false_eq_true, reduceCtorEq, Nat.reduceAdd, Nat.reduceEqDiff, Nat.zero_add, List.isEmpty_nil, Ty.td22, Ty.td33, beq_self_eq_true]
    refine call_meets (ho) (by simp only [aev, cv, cvc, toD_sl, consO_some, toDL_nil, toDL_cons]) ?_; simp only [awp_skip, awp_reg, awp_seq, awp_cond, seqQ_n, awpOps_nil, awpOps_one, awpOp_is, isCallV, callW_is, callV_is, putK_is, put_s, upd_s, slot_is, pureOp, apureO, killT, aev, cv, cvc, binK, elO_s, loadA_p, condA_f, flat_c, flat_tup, flatL_nil, flatL_cons, ownsV_sl, ownsL_nil, ownsL_cons, Bool.false_eq_true, ↓reduceIte, List.getElem?_cons_zero, List.getElem?_cons_succ, List.length_cons, List.length_nil, List.map_cons, List.map_nil, List.append_nil, Bool.true_and, Bool.and_self, Bool.or_true, true_and, and_self, ne_eq, not_false_eq_true, reduceCtorEq, Nat.reduceAdd, Nat.reduceEqDiff, Nat.zero_add, List.isEmpty_nil, Ty.td9, Ty.td33, bne_self_eq_false]
    refine call_meets (hn) (by simp only [aev, cv, cvc, toD_c, consO_some, toDL_nil, toDL_cons]) ?_; simp only [awp_reg, awp_seq, awp_cond, awp_ret, seqQ_n, seqQ_r, awpOps_nil, awpOps_one, awpOp_is, isCallV, putK_is, updK_is, put_s, upd_n, upd_s, slot_is, slot.eq_1, retA_is, pureOp, apureO, astepO, killT, aev, cv, cvc, elO_s, loadA_p, storeA, cellsA, cellOk, setAll, fillA, placeT, placesA, condA_t, flat_c, ownsV_c, ownsL_nil, ownsL_cons, toD_c, toD_nils, toD_tup, toD_agg, consO_some, toDL_nil, toDL_cons, notExit, resA_nil, resA_tmp, resA_cell, oneA_2, Bool.false_eq_true, ↓reduceIte, List.getElem?_cons_zero, List.getElem?_cons_succ, List.length_cons, List.length_nil, List.map_cons, List.map_nil, List.append_nil, List.set_cons_zero, List.set_cons_succ, Option.map_some, List.take_succ_cons, List.drop_zero, List.all_cons, List.all_nil, Bool.true_and, Bool.and_self, Bool.or_true, Bool.not_false, Value.oneCell', true_and, and_self, ne_eq, not_false_eq_true, reduceCtorEq, Nat.reduceAdd, Nat.reduceEqDiff, Nat.zero_add, List.isEmpty_nil, Nat.le_refl, List.take_nil, Ty.td9, Ty.td22, Ty.td33]
  | true =>
  rw [hval] at hn
  rw [if_neg (by simp)]
  have hg : xs[k.toNat]? = some (xs.getD k.toNat 0) := by
    have : k.toNat < xs.length := by omega
    rw [List.getD_eq_getElem?_getD, List.getElem?_eq_getElem this]; rfl
  generalize xs.getD k.toNat 0 = v at *
  have hof := hof k.toNat hval
  unfold ofE at hof
  rw [if_pos (hso k.toNat hval)] at hof
  have htx : List.take xs.length ((List.map enc xs).set k.toNat [I n]) = List.map enc (xs.set k.toNat n) := by rw [List.take_of_length_le (by simp), List.map_set]
  refine meets_of (X := false) Ty.mixed Tryd.func29 (by kernel_rfl) rfl (by kernel_rfl) (by simp) ?_; rw [Tryd.ntmps29, Tryd.results29]
  simp only [awp_reg, awp_seq, seqQ_n, awpOps_nil, awpOps_one, awpOp_is, isCallV, callW_is, callV_is, putK_is, updK_is, put_s, upd_s, slot_is, pureOp, apureO, astepO, killT, aev, cv, cvc, elO_s, loadA_p, cellsA, cellOk, argT, Bool.false_eq_true, ↓reduceIte, List.getElem?_cons_zero, List.length_cons, List.length_nil, List.map_cons, List.map_nil, List.cons_append, List.nil_append, List.append_nil, List.take_succ_cons, List.drop_zero, List.all_cons, List.all_nil, Bool.true_and, Bool.and_self, Value.oneCell', true_and, and_self, Nat.reduceAdd, Nat.reduceEqDiff, Nat.zero_add, Nat.le_refl, List.take_nil, Ty.td33]
  refine call_meets (hv) (by simp only [aev, cv, cvc, toD_c, toD_agg, toD_sl, consO_some, toDL_nil, toDL_cons, Option.map_some]) ?_; simp only [awp_skip, awp_reg, awp_seq, awp_cond, seqQ_n, awpOps_nil, awpOps_one, awpOp_is, isCallV, callW_is, callV_is, putK_is, put_s, upd_s, slot_is, pureOp, apureO, killT, aev, cv, cvc, elO_s, loadA_p, condA_f, flat_c, ownsV_c, ownsV_agg, ownsV_sl, ownsL_nil, ownsL_cons, Bool.false_eq_true, ↓reduceIte, List.getElem?_cons_zero, List.getElem?_cons_succ, List.length_cons, List.length_nil, List.map_cons, List.map_nil, List.append_nil, Bool.true_and, Bool.or_true, Bool.not_true, true_and, ne_eq, not_false_eq_true, reduceCtorEq, Nat.reduceAdd, Nat.reduceEqDiff, Nat.zero_add, List.isEmpty_nil, Ty.td22, Ty.td33, beq_self_eq_true]
  refine call_meets (ho) (by simp only [aev, cv, cvc, toD_sl, consO_some, toDL_nil, toDL_cons]) ?_; simp only [awp_skip, awp_reg, awp_seq, awp_cond, seqQ_n, awpOps_nil, awpOps_one, awpOp_is, isCallV, callW_is, callV_is, putK_is, put_s, upd_s, slot_is, pureOp, apureO, killT, aev, cv, cvc, binK, elO_s, loadA_p, condA_f, flat_c, flat_tup, flatL_nil, flatL_cons, ownsV_sl, ownsL_nil, ownsL_cons, Bool.false_eq_true, ↓reduceIte, List.getElem?_cons_zero, List.getElem?_cons_succ, List.length_cons, List.length_nil, List.map_cons, List.map_nil, List.append_nil, Bool.true_and, Bool.and_self, Bool.or_true, true_and, and_self, ne_eq, not_false_eq_true, reduceCtorEq, Nat.reduceAdd, Nat.reduceEqDiff, Nat.zero_add, List.isEmpty_nil, Ty.td9, Ty.td33, bne_self_eq_false]
  refine call_meets (hn) (by simp only [aev, cv, cvc, toD_c, consO_some, toDL_nil, toDL_cons]) ?_; simp only [awp_skip, awp_reg, awp_seq, awp_cond, seqQ_n, awpOps_nil, awpOps_one, awpOp_is, isCallV, callW_is, callV_is, putK_is, put_s, upd_s, slot_is, pureOp, apureO, killT, aev, cv, cvc, elO_s, loadA_p, condA_f, flat_c, ownsV_c, ownsL_nil, ownsL_cons, Bool.false_eq_true, ↓reduceIte, List.getElem?_cons_zero, List.getElem?_cons_succ, List.length_cons, List.length_nil, List.map_cons, List.map_nil, List.append_nil, Bool.true_and, Bool.or_true, Bool.not_true, true_and, ne_eq, not_false_eq_true, reduceCtorEq, Nat.reduceAdd, Nat.reduceEqDiff, Nat.zero_add, List.isEmpty_nil, Ty.td22, Ty.td33]
  refine call_meetsO (hcl) (by simp only [aev, cv, cvc, toD_sl, consO_some, toDL_nil, toDL_cons, hg, htx]) (by simp only [aev, cv, cvc, ownsV_sl, ownsL_nil, ownsL_cons, List.append_nil, List.isEmpty_nil, hg, htx]) ?_; simp only [awp_reg, awp_seq, seqQ_n, awpOps_nil, awpOps_one, awpOp_is, isCallV, callW_is, callV_is, shV_own, shH_nil, shH_some, shB_row, putK_is, updK_is, put_s, upd_n, upd_s, slot_is, pureOp, apureO, astepO, killT, aev, cv, cvc, elO_s, loadA_p, storeA, cellsA, cellOk, setAll, isD_c, isDL_nil, isDL_cons, Bool.false_eq_true, ↓reduceIte, List.getElem?_cons_zero, List.getElem?_cons_succ, List.length_cons, List.length_nil, List.map_cons, List.map_nil, List.cons_append, List.nil_append, List.append_nil, List.set_cons_zero, List.set_cons_succ, Option.map_some, Bool.true_and, Bool.and_self, Value.oneCell', true_and, and_self, ne_eq, not_false_eq_true, reduceCtorEq, Nat.reduceAdd, Nat.reduceEqDiff, Nat.zero_add, Nat.add_zero, Nat.le_refl, Ty.td3, Ty.td9, Ty.td22, Ty.td33, List.getElem?_map, hg, Nat.mul_one, Nat.mod_one, Nat.div_one, htx]
  refine ⟨by omega, by omega, ?_⟩
  refine call_meets (hof) (by simp only [aev, cv, cvc, elemsA, toD_c, toD_sl, toD_own, consO_some, toDL_nil, toDL_cons, ↓reduceIte, List.getElem?_cons_zero, List.getElem?_cons_succ, Option.map_some, Bool.and_self, and_self, Nat.le_refl, List.length_map, List.length_set, htx]) ?_; simp only [awp_ret, seqQ_n, awpOps_nil, awpOps_one, awpOp_is, isCallV, putK_is, updK_is, put_s, upd_n, upd_s, slot_is, retA_is, pureOp, apureO, astepO, killT, killB, killH, aev, cv, cvc, elO_s, loadA_p, storeA, cellsA, cellOk, setAll, elemsA, dropL, flat_c, flat_tup, flat_agg, flat_sl, flatL_nil, flatL_cons, ownsV_c, ownsV_sl, ownsV_own, ownsL_nil, ownsL_cons, toD_c, toD_tup, toD_agg, toD_sl, consO_some, toDL_nil, toDL_cons, killV_c, killV_nils, killV_tup, killV_agg, killV_sl, killV_own, killV_ptr, killV_rp, killL_nil, killL_cons, notExit, resA_nil, resA_tmp, resA_cell, oneA_2, Bool.false_eq_true, ↓reduceIte, List.getElem?_cons_zero, List.getElem?_cons_succ, List.length_cons, List.length_nil, List.map_cons, List.map_nil, List.nil_append, List.append_nil, List.set_cons_zero, List.set_cons_succ, Option.map_some, Option.map_none, List.take_succ_cons, List.drop_zero, Bool.and_true, Bool.true_and, Bool.and_false, Bool.and_self, Bool.or_false, true_and, and_true, and_self, reduceCtorEq, Nat.reduceAdd, Nat.reduceEqDiff, Nat.zero_add, List.isEmpty_cons, List.mem_cons, List.not_mem_nil, or_false, List.zipIdx_cons, List.zipIdx_nil, Nat.le_refl, List.take_nil, Ty.td33, List.length_map, List.length_set, htx]
end

theorem setE_ex (e : ByteArray) (ds xs ix : List Int) (n : Int) (hd : ds.length ≤ 1000000) (hx : xs.length ≤ 1000000) : ∃ E D X k, setE e ds xs ix n = .tup [arr E D X, I k] ∧ D.length ≤ 1000000 ∧ X.length ≤ 1000000 := by
  unfold setE
  split
  · exact ⟨_, [], [], _, rfl, by simp, by simp⟩
  split
  · exact ⟨_, [], [], _, rfl, by simp, by simp⟩
  split
  · exact ⟨_, [], [], _, rfl, by simp, by simp⟩
  · exact ⟨_, _, _, _, rfl, hd, by simpa using hx⟩
end Go.Proofs.YtnoaknemndjpmaaDoor.A12
