/- Linear expressions: what a sum comes to, in the program, whatever the caller's memory. -/
import Derived.Test.YtjgaebomcdkohaaGreatDoorL4
namespace Go.Proofs.YtjgaebomcdkohaaGreatDoor.L5
open Go Go.Proofs.YtjgaebomcdkohaaGreatDoor.Eng Go.Proofs.YtjgaebomcdkohaaGreatDoor Go.RowKit Go.Proofs.YtjgaebomcdkohaaGreatDoor.L1 Go.Proofs.YtjgaebomcdkohaaGreatDoor.L2 Go.Proofs.YtjgaebomcdkohaaGreatDoor.L3 Go.Proofs.YtjgaebomcdkohaaGreatDoor.L4
set_option linter.unusedSimpArgs false
set_option linter.unusedVariables false
set_option linter.unusedSectionVars false
set_option maxRecDepth 100000

abbrev KS : Prop := KeysSorted Tryz.prog 85 117
def pickT (cs : List Tm) (v : ByteArray) : Option Tm := if aget v cs = 0 then none else some (v, aget v cs)
def slV (L : Nat) (out : List Tm) : AV := if out = [] then .nils else .own L 2 out.length
def slH (out : List Tm) : Heap := if out = [] then [] else [some (.row 42 2 (out.map tmV))]
theorem sortK_len (cs : List Tm) : (sortK cs).length = cs.length := by simp [sortK]
theorem sortK_mem {cs : List Tm} {v : ByteArray} (h : v ∈ sortK cs) : ∃ x, (v, x) ∈ cs := by
  unfold sortK at h
  obtain ⟨l, hl, rfl⟩ := List.mem_map.1 h
  rw [(List.mergeSort_perm _ _).mem_iff] at hl
  obtain ⟨t, ht, rfl⟩ := List.mem_map.1 hl
  exact ⟨t.2, by rw [ofL_bs]; exact ht⟩
theorem pick_small {cs : List Tm} (hs : small cs) (k : Nat) : small (((sortK cs).take k).filterMap (pickT cs)) := by
  refine ⟨Nat.le_trans (List.length_filterMap_le _ _) ?_, fun t ht => ?_⟩
  · rw [List.length_take, sortK_len]
    have := hs.1
    omega
  · obtain ⟨v, hv, hp⟩ := List.mem_filterMap.1 ht
    unfold pickT at hp
    split at hp
    · cases hp
    · cases hp
      obtain ⟨x, hx⟩ := sortK_mem (List.mem_of_mem_take hv)
      exact hs.2 (v, x) hx

def outT (cs : List Tm) (k : Nat) : List Tm := ((sortK cs).take k).filterMap (pickT cs)
theorem out_step {cs : List Tm} {k : Nat} {v : ByteArray} (h : (sortK cs)[k]? = some v) : outT cs (k + 1) = outT cs k ++ (pickT cs v).toList := by
  obtain ⟨hk, rfl⟩ := List.getElem?_eq_some_iff.1 h
  unfold outT
  rw [List.take_succ_eq_append_getElem hk, List.filterMap_append]
  congr 1
theorem out_all (cs : List Tm) : outT cs cs.length = linT cs := by
  unfold outT linT
  rw [← sortK_len, List.take_length]
  rfl
abbrev hp5 (h : Heap) (s m : Nat) (c : Int) (cs : List Tm) (o : List Tm) : Heap := H2 h s m c cs ++ ([some (.var 24 [I 0, .nils]), some (.var 24 [I c, slV (h.length + 3) o]), some (.var 109 [.mp m])] ++ slH o)

theorem nilR {x e : Int} {ok : Nat → Prop} {w : World} {u : Value} (h : RepD ok w (.tup [.agg [I x, .nils], I e]) u) : RepD ok w (linR ((x, []), e)) u :=
  tup_imp (fun us h => cons_imp (fun u h => agg_imp (fun us h => cons_imp (fun _ h => h) (fun us h => cons_imp (fun _ h => nil_imp h) (fun _ h => h) h) h) h) (fun _ h => h) h) h

theorem linear_ (hks : KS) {n : Nat} {t : List (Nat × AV)} {h : Heap} {d : Tmp} {s m : Nat} {c : Int} {cs : List Tm} {K : AS → Prop} (hcs : small cs) (hs : s < h.length) (hm : m < h.length) (hn : s ≠ m) (ht : refsT h.length t = true) (hh : refsH h.length h = true)
    (hK : K ⟨n, (d, linR (linearE c cs)) :: t, H2 h s m c cs⟩) : CallS Tryz.prog ⟨n, t, H2 h s m c cs⟩ (some d) 50 [.ptr s 0] K := by
  have gs : ∀ c cs x, (H2 h s m c cs ++ x)[s]? = some (sumB m c) := fun c cs x => app_left (H2_s hs hm hn) x
  have gm : ∀ c cs x, (H2 h s m c cs ++ x)[m]? = some (mapB cs) := fun c cs x => app_left (H2_m hs hm hn) x
  have ga : ∀ c cs x i, (H2 h s m c cs ++ x)[h.length + i]? = x[i]? := fun c cs x i => by
    rw [List.getElem?_append_right (by rw [H2_len]; omega), H2_len, Nat.add_sub_cancel_left]
  have ga0 : ∀ c cs x, (H2 h s m c cs ++ x)[h.length]? = x[0]? := fun c cs x => ga c cs x 0
  have sa : ∀ c cs x i b, (H2 h s m c cs ++ x).set (h.length + i) b = H2 h s m c cs ++ x.set i b := fun c cs x i b => by
    rw [List.set_append_right _ _ (by rw [H2_len]; omega), H2_len, Nat.add_sub_cancel_left]
  have sa0 : ∀ c cs x b, (H2 h s m c cs ++ x).set h.length b = H2 h s m c cs ++ x.set 0 b := fun c cs x b => sa c cs x 0 b
  have hH := H2_refs (c := c) (cs := cs) hs hm hn hh
  have kh := killH_fresh (L := h.length + 3) (Nat.le_add_right _ _) hH
  have kt := killT_fresh (N := 49) (L := h.length + 3) (Nat.le_add_right _ _) ht
  refine call_ret (by rw [H2_len]; exact ht) ?_
  refine call_inl (X := false) Ty.mixed Tryz.func50 (by kernel_rfl) rfl (by kernel_rfl) (by simp) ?_; rw [Tryz.ntmps50, Tryz.results50]; simp only [awp_reg, awp_seq, seqQ_n, awpOps_nil, awpOps_one, awpOp_is, isCallV, callW_is, callV_is, putK_is, updK_is, put_s, upd_n, upd_s, slot_is, pureOp, apureO, astepO, killT, aev, cv, cvc, elO_s, loadA_p, storeA, cellsA, cellOk, setAll, fillA, placeT, placesA, argT, isC, nilA_ptr, bsD, Bool.false_eq_true, ↓reduceIte, List.getElem?_cons_zero, List.getElem?_cons_succ, List.length_cons, List.length_nil, List.map_cons, List.map_nil, List.cons_append, List.nil_append, List.append_nil, List.set_cons_zero, List.set_cons_succ, List.all_cons, List.all_nil, Bool.and_true, Bool.true_and, Bool.and_self, Value.oneCell', true_and, and_true, and_self, ne_eq, not_false_eq_true, reduceCtorEq, Nat.reduceAdd, Nat.reduceLeDiff, Nat.reduceEqDiff, Nat.zero_add, Nat.le_refl, Ty.td3, Ty.td22, Ty.td24, Ty.td109, Ty.td111, H2_len, gs, gm, ga, ga0, sa, sa0, List.append_assoc, List.length_append]
  refine call_inl (X := false) Ty.mixed Tryz.func86 (by kernel_rfl) rfl (by kernel_rfl) (by simp) ?_; rw [Tryz.ntmps86, Tryz.results86]; simp only [awp_reg, awp_seq, awp_ret, seqQ_n, awpOps_nil, awpOps_one, awpOp_is, isCallV, callW_is, callV_is, inlQ_is, retT_s, shiftT, unshift, putK_is, updK_is, put_s, upd_s, slot_is, pureOp, apureO, astepO, killT, aev, cv, cvc, cellsA, cellOk, notExit, resA_nil, resA_tmp, oneA_1, argT, unshift_shift, isC, mkfA_fn, bsD, Bool.false_eq_true, ↓reduceIte, List.length_cons, List.length_nil, List.map_cons, List.map_nil, List.cons_append, List.nil_append, List.append_nil, Bool.true_and, true_and, Nat.reduceAdd, Nat.reduceLeDiff, Nat.reduceEqDiff, Nat.reduceSub, Nat.zero_add, Nat.add_zero, Nat.le_refl, H2_len, gs, gm, ga, ga0, sa, sa0, List.append_assoc, List.length_append]
  refine call_sorted hks (L := h.length + 2) (M := m) (es := ents cs) (t := 109) (by simp only [ga]; rfl) (by simp only [gm]) (fun p hp => ?_) (by simp [ents]; have := hcs.1; omega) ?_
  · obtain ⟨q, hq, rfl⟩ := List.mem_map.1 hp
    have := hcs.2 q hq
    rw [← bs_size] at this
    show (bs q.1).length ≤ _
    unfold maxLen
    omega
  rw [sorted_ents]
  simp only [awp_block, awp_loop, seqQ_n, awpOps_nil, awpOps_one, awpOp_is, putK_is, put_s, upd_s, slot_is, pureOp, apureO, killT, aev, cv, cvc, elO_s, lenA, lenK, mlenA_sl, isC, bsD, ↓reduceIte, Bool.true_and, true_and, Option.isSome_some, Ty.td112, List.length_map, sortK_len]
  refine loop_s 49 t (fun k : Nat => k ≤ cs.length) (fun k => [(19, I k), (18, I cs.length), (17, .sl false 1 ((sortK cs).map fun v => [S v])), (4, .ptr (h.length + 1) 0), (3, I 0), (2, .ptr h.length 0), (0, .ptr s 0)]) (fun k => hp5 h s m c cs (outT cs k)) (fun k => cs.length - k) 0 (Nat.zero_le _) (by repeat (first | exact tail_self | refine tail_cons (by decide) ?_)) (by simp only [slot_is, aev, cv, cvc, Weak, isC, bsD, ↓reduceIte, Bool.and_true, Bool.and_self, and_true, and_self, reduceCtorEq, Nat.reduceEqDiff]; simp) (.inl rfl) (fun a => by simp) ?_
  rintro k hk K' hK'
  by_cases hlt : k < cs.length
  case neg =>
    obtain rfl : k = cs.length := by omega
    have hsm := pick_small hcs cs.length
    rw [show ((sortK cs).take cs.length).filterMap (pickT cs) = linT cs from out_all cs] at hsm
    rw [out_all]
    unfold linearE at hK
    generalize linT cs = o at *
    have fin0 : ∀ (x e : Int) (ex : Heap), K ⟨n, (d, linR ((x, []), e)) :: t, H2 h s m c cs⟩ → ∃ v d' d2 h' ex', (⟨n, (d, .tup [.agg [I x, .nils], I e]) :: t, H2 h s m c cs ++ ex⟩ : AS) = ⟨n, (d, v) :: t, h' ++ ex'⟩ ∧ h'.length = (H2 h s m c cs).length ∧ toD (h' ++ ex') v = some d' ∧ (∀ ok w u, RepD ok w d' u → RepD ok w d2 u) ∧ (∀ L ∈ ownsV v, (H2 h s m c cs).length ≤ L) ∧ refsH (H2 h s m c cs).length h' = true ∧ K ⟨n, (d, d2) :: t, h'⟩ := fun x e ex hk =>
      ⟨_, .tup [.agg [I x, .nils], I e], _, _, _, rfl, rfl, by simp [toD, toDL], fun _ _ _ h => nilR h, by simp [ownsV, ownsL], by rw [H2_len]; exact H2_refs hs hm hn hh, hk⟩
    simp only [H2_len] at fin0
    cases o with
    | nil =>
      simp only [hp5, slV, slH, if_true, List.append_nil]
      simp only [awp_reg, awp_seq, awp_cond, awp_exit, seqQ_n, seqQ_e, loopQ_e, blkQ_e, awpOps_nil, awpOps_one, awpOp_is, isCallV, callW_is, callV_is, putK_is, put_s, slot_is, pureOp, apureO, aev, cv, cvc, binK, elO_s, loadA_p, condA_f, isC, bsD, Bool.false_eq_true, ↓reduceIte, List.getElem?_cons_zero, List.getElem?_cons_succ, List.length_cons, List.length_nil, List.map_cons, List.map_nil, List.cons_append, List.nil_append, List.append_nil, List.take_succ_cons, List.drop_zero, Bool.true_and, true_and, Nat.reduceAdd, Nat.reduceEqDiff, Nat.zero_add, Nat.le_refl, List.take_nil, Ty.td24, show decide ((cs.length : Int) < (cs.length : Int)) = false from decide_eq_false (by omega), gs, gm, ga, ga0, sa, sa0]
      refine call_meets ((valid c [] hsm).args (args' := [.agg [I c, .nils]]) (fun ok w vs h => cons_imp (fun u h => agg_imp (fun us h => cons_imp (fun _ h => h) (fun us h => cons_imp (fun _ h => nil_imp h) (fun _ h => h) h) h) h) (fun _ h => h) h)) (by simp only [aev, cv, cvc, toD_c, toD_nils, toD_agg, consO_some, toDL_nil, toDL_cons, isC, bsD, Option.map_some, gs, gm, ga, ga0, sa, sa0] <;> rfl) ?_; simp only [awp_cond, seqQ_n, awpOps_nil, awpOps_one, awpOp_is, putK_is, put_s, upd_s, slot_is, pureOp, apureO, killT, aev, cv, cvc, flat_c, ownsV_c, ownsV_nils, ownsV_agg, ownsL_nil, ownsL_cons, isC, bsD, ↓reduceIte, List.append_nil, Bool.or_true, List.isEmpty_nil, gs, gm, ga, ga0, sa, sa0]
      cases hv : validE c [] with
      | false =>
        simp only [hv, Bool.false_eq_true, if_false] at hK
        simp only [awp_reg, awp_seq, awp_ret, seqQ_n, seqQ_r, awpOps_nil, awpOps_one, awpOp_is, isCallV, inlQ_is, retT_s, unshift, putK_is, updK_is, put_s, upd_n, slot_is, pureOp, apureO, astepO, killT, aev, cv, cvc, elO_s, loadA_p, storeA, cellsA, cellOk, setAll, fillA, placeT, placesA, condA_t, notExit, resA_nil, resA_tmp, resA_cell, oneA_2, unshift_shift, isC, bsD, Bool.false_eq_true, ↓reduceIte, List.getElem?_cons_zero, List.length_cons, List.length_nil, List.map_cons, List.map_nil, List.set_cons_zero, List.set_cons_succ, List.take_succ_cons, List.drop_zero, List.all_cons, List.all_nil, Bool.true_and, Bool.and_self, Bool.not_false, Value.oneCell', true_and, and_self, ne_eq, not_false_eq_true, reduceCtorEq, Nat.reduceAdd, Nat.reduceLeDiff, Nat.reduceEqDiff, Nat.zero_add, Nat.le_refl, List.take_nil, Ty.td3, Ty.td22, Ty.td24, hv, gs, gm, ga, ga0, sa, sa0]
        exact fin0 _ _ _ hK
      | true =>
        simp only [hv, if_true] at hK
        simp only [awp_skip, awp_reg, awp_seq, awp_ret, seqQ_n, awpOps_nil, awpOps_one, awpOp_is, isCallV, inlQ_is, retT_s, unshift, putK_is, updK_is, put_s, upd_n, slot_is, pureOp, apureO, astepO, killT, aev, cv, cvc, elO_s, loadA_p, storeA, cellsA, cellOk, setAll, condA_f, notExit, resA_nil, resA_tmp, resA_cell, oneA_2, unshift_shift, isC, bsD, Bool.false_eq_true, ↓reduceIte, List.getElem?_cons_zero, List.getElem?_cons_succ, List.length_cons, List.length_nil, List.set_cons_zero, List.set_cons_succ, List.take_succ_cons, List.drop_zero, Bool.true_and, Bool.not_true, Value.oneCell', true_and, Nat.reduceAdd, Nat.reduceLeDiff, Nat.reduceEqDiff, Nat.zero_add, Nat.le_refl, List.take_nil, Ty.td24, hv, gs, gm, ga, ga0, sa, sa0]
        exact fin0 _ _ _ hK
    | cons a r =>
      have htk : List.take r.length (List.map tmV r) = List.map tmV r := List.take_of_length_le (by simp)
      simp only [hp5, slV, slH, reduceCtorEq, if_false]
      simp only [awp_reg, awp_seq, awp_cond, awp_exit, seqQ_n, seqQ_e, loopQ_e, blkQ_e, awpOps_nil, awpOps_one, awpOp_is, isCallV, callW_is, callV_is, putK_is, put_s, slot_is, pureOp, apureO, aev, cv, cvc, binK, elO_s, loadA_p, condA_f, isC, bsD, Bool.false_eq_true, ↓reduceIte, List.getElem?_cons_zero, List.getElem?_cons_succ, List.length_cons, List.length_nil, List.map_cons, List.map_nil, List.cons_append, List.nil_append, List.append_nil, List.take_succ_cons, List.drop_zero, Bool.true_and, true_and, Nat.reduceAdd, Nat.reduceEqDiff, Nat.zero_add, Nat.le_refl, List.take_nil, Ty.td24, show decide ((cs.length : Int) < (cs.length : Int)) = false from decide_eq_false (by omega), gs, gm, ga, ga0, sa, sa0]
      refine call_meets (valid c (a :: r) hsm) (by simp only [aev, cv, cvc, elemsA, toD_c, toD_agg, toD_own, consO_some, toDL_nil, toDL_cons, isC, bsD, ↓reduceIte, List.getElem?_cons_zero, List.getElem?_cons_succ, List.length_cons, Option.map_some, List.take_succ_cons, Bool.and_self, and_self, Nat.le_refl, gs, gm, ga, ga0, sa, sa0, List.length_map, htk] <;> rfl) ?_; simp only [awp_cond, seqQ_n, awpOps_nil, awpOps_one, awpOp_is, putK_is, put_s, upd_s, slot_is, pureOp, apureO, killT, aev, cv, cvc, flat_c, ownsV_c, ownsV_agg, ownsV_own, ownsL_nil, ownsL_cons, isC, bsD, ↓reduceIte, List.nil_append, List.append_nil, Bool.or_false, List.isEmpty_cons, or_false, gs, gm, ga, ga0, sa, sa0, htk]
      cases hv : validE c (a :: r) with
      | false =>
        simp only [hv, Bool.false_eq_true, if_false] at hK
        simp only [awp_reg, awp_seq, awp_ret, seqQ_n, seqQ_r, awpOps_nil, awpOps_one, awpOp_is, isCallV, inlQ_is, retT_s, unshift, putK_is, updK_is, put_s, upd_n, slot_is, pureOp, apureO, astepO, killT, aev, cv, cvc, elO_s, loadA_p, storeA, cellsA, cellOk, setAll, fillA, placeT, placesA, condA_t, notExit, resA_nil, resA_tmp, resA_cell, oneA_2, unshift_shift, isC, bsD, Bool.false_eq_true, ↓reduceIte, List.getElem?_cons_zero, List.length_cons, List.length_nil, List.map_cons, List.map_nil, List.set_cons_zero, List.set_cons_succ, List.take_succ_cons, List.drop_zero, List.all_cons, List.all_nil, Bool.true_and, Bool.and_self, Bool.not_false, Value.oneCell', true_and, and_self, ne_eq, not_false_eq_true, reduceCtorEq, Nat.reduceAdd, Nat.reduceLeDiff, Nat.reduceEqDiff, Nat.zero_add, Nat.le_refl, List.take_nil, Ty.td3, Ty.td22, Ty.td24, hv, gs, gm, ga, ga0, sa, sa0]
        exact fin0 _ _ _ hK
      | true =>
        simp only [hv, if_true] at hK
        simp only [awp_skip, awp_reg, awp_seq, awp_ret, seqQ_n, awpOps_nil, awpOps_one, awpOp_is, isCallV, inlQ_is, retT_s, unshift, putK_is, updK_is, put_s, upd_n, slot_is, pureOp, apureO, astepO, killT, aev, cv, cvc, elO_s, loadA_p, storeA, cellsA, cellOk, setAll, condA_f, notExit, resA_nil, resA_tmp, resA_cell, oneA_2, unshift_shift, isC, bsD, Bool.false_eq_true, ↓reduceIte, List.getElem?_cons_zero, List.getElem?_cons_succ, List.length_cons, List.length_nil, List.set_cons_zero, List.set_cons_succ, List.take_succ_cons, List.drop_zero, Bool.true_and, Bool.not_true, Value.oneCell', true_and, Nat.reduceAdd, Nat.reduceLeDiff, Nat.reduceEqDiff, Nat.zero_add, Nat.le_refl, List.take_nil, Ty.td24, hv, gs, gm, ga, ga0, sa, sa0]
        exact ⟨_, .tup [.agg [I c, tms (a :: r)], I 0], _, _, _, rfl, H2_len, by simp [toD, toDL, elemsA, ga, htk], fun _ _ _ h => h, by simp [ownsV, ownsL], H2_refs hs hm hn hh, hK⟩
  obtain ⟨v, hv⟩ : ∃ v, (sortK cs)[k]? = some v := ⟨_, List.getElem?_eq_getElem (by rw [sortK_len]; exact hlt)⟩
  have hstep := out_step hv
  have hcl := hcs.1
  have hlen : (outT cs k).length ≤ 1000000 := (pick_small hcs k).1
  simp only [awp_skip, awp_reg, awp_seq, awp_cond, awp_block, seqQ_n, awpOps_nil, awpOps_one, awpOp_is, putK_is, put_s, slot_is, pureOp, apureO, aev, cv, cvc, binK, elO_s, loadA_d, loadA_p, condA_t, mapT_is, kindK_is, lookA_m, keyA_s, isC, nilA_ptr, bsD, Int.natCast_nonneg, Bool.false_eq_true, ↓reduceIte, List.getElem?_cons_zero, List.getElem?_cons_succ, List.length_cons, List.length_nil, List.cons_append, List.nil_append, Option.map_some, Bool.true_and, Value.oneCell', true_and, ne_eq, not_false_eq_true, reduceCtorEq, Nat.reduceAdd, Nat.reduceEqDiff, Nat.zero_add, Int.toNat_natCast, Ty.td3, Ty.td9, Ty.td109, Ty.td111, Ty.td112, show decide ((k : Int) < (cs.length : Int)) = true from decide_eq_true (by omega), List.getElem?_map, hv, gs, gm, ga, ga0, sa, sa0, look_ents]
  by_cases h0 : aget v cs = 0
  · rw [show pickT cs v = none from if_pos h0, Option.toList_none, List.append_nil] at hstep
    simp only [awp_skip, awp_reg, seqQ_n, loopQ_n, blkQ_n, awpOps_nil, awpOps_one, awpOp_is, putK_is, put_s, slot_is, pureOp, apureO, aev, cv, cvc, binK, condA_f, isC, bsD, ↓reduceIte, Bool.true_and, true_and, Nat.reduceEqDiff, show (aget v cs != 0) = false by simpa using h0]
    rw [wrap_in (x := (k : Int) + 1) (by omega) (by omega)]
    refine hK' (k + 1) _ _ (by omega) (by omega) (by repeat (first | exact tail_self | refine tail_cons (by decide) ?_)) (by simp only [slot_is, aev, cv, cvc, Weak, isC, bsD, ↓reduceIte, Bool.and_true, Bool.and_self, and_true, and_self, reduceCtorEq, Nat.reduceEqDiff]; simp) (.inl ?_)
    rw [hstep]
  · rw [show pickT cs v = some (v, aget v cs) from if_neg h0, Option.toList_some] at hstep
    simp only [awp_regD, lastOnly_cons, keepOp, aev, cv, cvc, condA_t, isC, bsD, Bool.false_eq_true, ↓reduceIte, List.isEmpty_cons, show (aget v cs != 0) = true by simpa using h0]
    generalize outT cs k = o at *
    cases o with
    | nil =>
      simp only [hp5, slV, slH, if_true, List.append_nil]
      refine drawS_at 11 (by kernel_rfl) (by kernel_rfl) ?_; simp only [awp_reg, seqQ_n, loopQ_n, blkQ_n, awpOps_nil, awpOps_one, awpOp_is, isCallV, awpOpD_is, putK_is, updK_is, put_s, upd_n, upd_s, slot_is, pureOp, apureO, astepO, appA_sl, appV, killT, aev, cv, cvc, binK, elO_s, loadA_p, storeA, cellsA, cellOk, setAll, fillA, placeT, placesA, elemsA, elemsN, chunk, isD_c, isDL_nil, isDL_cons, mapT_is, kindK_is, lookA_m, keyA_s, isC, nilA_ptr, awpOpsN_0, awpOpsN_one, bsDO_is, bsD, isBS, Bool.false_eq_true, ↓reduceIte, List.getElem?_cons_zero, List.getElem?_cons_succ, List.length_cons, List.length_nil, List.map_cons, List.map_nil, List.cons_append, List.nil_append, List.set_cons_zero, List.set_cons_succ, Option.getD_some, List.take_succ_cons, List.drop_zero, List.all_cons, List.all_nil, Bool.and_true, Bool.true_and, Bool.and_self, Value.oneCell', true_and, and_true, and_self, ne_eq, not_false_eq_true, reduceCtorEq, Nat.reduceAdd, Nat.reduceMul, Nat.reduceLT, Nat.reduceLeDiff, Nat.reduceEqDiff, Nat.reduceMod, Nat.zero_add, List.range_succ, List.range_zero, Nat.le_refl, List.take_nil, Ty.td3, Ty.td9, Ty.td22, Ty.td24, Ty.td42, Ty.td109, Ty.td111, H2_len, gs, gm, ga, ga0, sa, sa0, List.append_assoc, List.length_append, look_ents]
      rw [wrap_in (x := (k : Int) + 1) (by omega) (by omega)]
      refine hK' (k + 1) _ _ (by omega) (by omega) (by repeat (first | exact tail_self | refine tail_cons (by decide) ?_)) (by simp only [slot_is, aev, cv, cvc, Weak, isC, bsD, ↓reduceIte, Bool.and_true, Bool.and_self, and_true, and_self, reduceCtorEq, Nat.reduceEqDiff]; simp) (.inl ?_)
      rw [hstep]
      rfl
    | cons a r =>
      have htk : List.take r.length (List.map tmV r) = List.map tmV r := List.take_of_length_le (by simp)
      have n1 : (h.length = h.length + 1) = False := by simp
      have n2 : (h.length = h.length + 2) = False := by simp
      have n3 : (h.length = h.length + 3) = False := by simp
      have s3 : (s = h.length + 3) = False := by simp; omega
      have m3 : (m = h.length + 3) = False := by simp; omega
      simp only [hp5, slV, slH, reduceCtorEq, if_false]
      refine drawS_at 11 (by kernel_rfl) (by kernel_rfl) ?_; simp only [awp_reg, seqQ_n, loopQ_n, blkQ_n, awpOps_nil, awpOps_one, awpOp_is, isCallV, awpOpD_is, putK_is, updK_is, put_s, upd_n, upd_s, slot_is, pureOp, apureO, astepO, appA_sl, appV, killT, killB, killH, aev, cv, cvc, binK, elO_s, loadA_p, storeA, cellsA, cellOk, setAll, fillA, placeT, placesA, elemsA, elemsN, rowE, chunk, isD_c, isDL_nil, isDL_cons, killV_c, killV_nils, killV_agg, killV_sl, killV_own, killV_dptr, killV_ptr, killL_nil, killL_cons, killV_mp, mapT_is, kindK_is, lookA_m, keyA_s, isC, nilA_ptr, awpOpsN_0, awpOpsN_one, bsDO_is, bsD, isBS, Bool.false_eq_true, ↓reduceIte, List.getElem?_cons_zero, List.getElem?_cons_succ, List.length_cons, List.length_nil, List.map_cons, List.map_nil, List.cons_append, List.nil_append, List.set_cons_zero, List.set_cons_succ, Option.map_some, Option.getD_some, List.take_succ_cons, List.drop_zero, List.all_cons, List.all_nil, Bool.and_true, Bool.true_and, Bool.and_self, Bool.or_false, Value.oneCell', true_and, and_true, and_self, ne_eq, not_false_eq_true, reduceCtorEq, Nat.reduceAdd, Nat.reduceMul, Nat.reduceLT, Nat.reduceLeDiff, Nat.reduceEqDiff, Nat.reduceMod, Nat.zero_add, List.mem_cons, List.not_mem_nil, or_false, List.range_succ, List.range_zero, Nat.le_refl, List.take_nil, List.getElem?_nil, Ty.td3, Ty.td9, Ty.td22, Ty.td24, Ty.td42, Ty.td109, Ty.td111, gs, gm, ga, ga0, sa, sa0, look_ents, kh, kt, List.map_append, List.length_map, htk, n1, n2, n3, s3, m3]
      rw [wrap_in (x := (k : Int) + 1) (by omega) (by omega)]
      refine ⟨by simp at hlen; omega, by simp at hlen; omega, ?_⟩
      refine hK' (k + 1) _ _ (by omega) (by omega) (by repeat (first | exact tail_self | refine tail_cons (by decide) ?_)) (by simp only [slot_is, aev, cv, cvc, Weak, isC, bsD, ↓reduceIte, Bool.and_true, Bool.and_self, and_true, and_self, reduceCtorEq, Nat.reduceEqDiff]; simp) (.inl ?_)
      rw [hstep]
      simp [hp5, slV, slH]

end Go.Proofs.YtjgaebomcdkohaaGreatDoor.L5
