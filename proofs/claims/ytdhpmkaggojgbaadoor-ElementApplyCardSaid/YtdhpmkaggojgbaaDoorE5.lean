/- Scalar primitives: Apply, in the program, by what value returns. -/
import Derived.Test.YtdhpmkaggojgbaaDoorE3
namespace Go.Proofs.YtdhpmkaggojgbaaDoor.E5
open Go Go.Proofs.YtdhpmkaggojgbaaDoor.Eng Go.Proofs.YtdhpmkaggojgbaaDoor Go.RowKit Go.Proofs.YtdhpmkaggojgbaaDoor.E0 Go.Proofs.YtdhpmkaggojgbaaDoor.E1 Go.Proofs.YtdhpmkaggojgbaaDoor.E3
set_option linter.unusedSimpArgs false
set_option linter.unusedVariables false
set_option linter.unusedSectionVars false
set_option maxRecDepth 100000

abbrev zsV (l : List Int) : AV := .sl false 1 (l.map fun z => [I z])
def elemOf (p : ByteArray) : ByteArray := if eqD p cA = true then cI else p
def okA (l : List (ByteArray × Int)) : Bool := l.all fun x => validE (elemOf x.1) x.2
/-- The numbers behind copying into an array of three zeros. -/
def arr3 (zs : List Int) : List AV := setAll [I 0, I 0, I 0] 0 ((zs.map fun z => [I z]).take (min zs.length 3)).flatten
theorem papply_ok (op : ByteArray) (f : Int → Int → Int → Int) (hv : ∀ x y z, Meets Tryd.prog 28 [S op, I x, I y, I z] (I (f x y z))) (zs : List Int) (x y z : Int) (hz : arr3 zs = [I x, I y, I z]) (hs : (findR op).isSome = true) (hn : zs.length = cntE (rowF op)) :
    Meets Tryd.prog 11 [S op, zsV zs] (.tup [I (if okA ([(rowF op).a, (rowF op).b, (rowF op).c].zip zs) = true then f x y z else 0), B (okA ([(rowF op).a, (rowF op).b, (rowF op).c].zip zs))]) := by
  have hc := count (rowF op)
  have h3 := cnt_le (rowF op)
  have hf := find op
  rw [hs] at hf
  rw [← hn] at hc h3
  clear hn
  generalize rowF op = r at *
  have hzl : ([r.a, r.b, r.c].zip zs).length = zs.length := by rw [List.length_zip]; simp only [List.length_cons, List.length_nil]; omega
  have hzi : ∀ i w p, ([r.a, r.b, r.c].zip zs)[i]? = some (w, p) → (rwV r)[1 + i * 1]? = some (S w) ∧ zs[i]? = some p := by
    intro i w p h
    rw [List.getElem?_zip_eq_some] at h
    refine ⟨?_, h.2⟩
    have := h.1
    match i, this with
    | 0, h => cases h; rfl
    | 1, h => cases h; rfl
    | 2, h => cases h; rfl
  generalize [r.a, r.b, r.c].zip zs = ps at *
  refine meets_of (X := true) Ty.mixed Tryd.func11 (by kernel_rfl) rfl (by kernel_rfl) (by simp) ?_; rw [Tryd.ntmps11, Tryd.results11]
  simp only [awp_reg, awp_seq, seqQ_n, awpOps_nil, awpOps_one, awpOp_is, isCallV, callW_is, callV_is, putK_is, put_s, slot_is, pureOp, apureO, aev, cv, cvc, argT, isC, bsD, Bool.false_eq_true, ↓reduceIte, List.map_cons, List.map_nil, List.append_nil, reduceCtorEq, Nat.zero_add]
  refine call_meets (hf) (by simp only [aev, cv, cvc, toD_c, consO_some, toDL_nil, toDL_cons, isC, bsD] <;> rfl) ?_; simp only [awp_reg, awp_seq, seqQ_n, awpOps_nil, awpOps_one, awpOps_if, awpOp_is, isCallV, callW_is, callV_is, awpO_is, putK_is, updK_is, put_s, upd_n, upd_s, slot_is, pureOp, apureO, astepO, killT, aev, cv, cvc, elO_s, lenA, lenK, loadA_p, storeA, cellsA, cellOk, setAll, yieldA, guardA_ff, flat_c, flat_tup, flat_agg, flatL_nil, flatL_cons, ownsV_c, ownsL_nil, ownsL_cons, mlenA_sl, isC, bsD, Bool.false_eq_true, ↓reduceIte, List.getElem?_cons_zero, List.getElem?_cons_succ, List.length_cons, List.length_nil, List.map_cons, List.map_nil, List.nil_append, List.append_nil, List.set_cons_zero, List.set_cons_succ, List.getElem?_toArray, Option.bind_some, List.take_succ_cons, List.drop_zero, List.all_cons, List.all_nil, Bool.true_and, Bool.and_self, Bool.or_true, Bool.not_true, Value.oneCell', true_and, and_self, reduceCtorEq, Nat.reduceAdd, Nat.reduceEqDiff, Nat.zero_add, List.isEmpty_nil, Option.isSome_some, Nat.le_refl, List.take_nil, Ty.td22, Ty.td49]
  refine call_meets (hc) (by simp only [aev, cv, cvc, toD_c, toD_agg, consO_some, toDL_nil, toDL_cons, isC, bsD, Option.map_some] <;> rfl) ?_; simp only [awp_cond, seqQ_n, awpOps_nil, awpOps_one, awpOps_if, awpOp_is, awpO_is, putK_is, put_s, upd_s, slot_is, pureOp, apureO, killT, aev, cv, cvc, binK, yieldA, guardA_ff, pickA_f, flat_c, ownsV_c, ownsV_agg, ownsL_nil, ownsL_cons, isC, bsD, ↓reduceIte, List.getElem?_cons_zero, List.getElem?_cons_succ, List.append_nil, List.getElem?_toArray, Option.bind_some, Bool.true_and, Bool.or_true, true_and, Nat.reduceEqDiff, List.isEmpty_nil]
  simp only [awp_skip, awp_reg, awp_seq, awp_block, awp_loop, seqQ_n, awpOps_nil, awpOps_one, awpOp_is, putK_is, put_s, slot_is, pureOp, apureO, aev, cv, cvc, elO_s, lenA, lenK, condA_f, mlenA_sl, isC, bsD, ↓reduceIte, Bool.true_and, true_and, reduceCtorEq, Nat.reduceEqDiff, Option.isSome_some, Ty.td22, List.length_map, bne_self_eq_false]
  refine loop_g (fun i : Nat => i ≤ zs.length ∧ okA ps = okA (ps.drop i)) (fun i => ⟨55, [(28, I i), (27, I zs.length), (26, zsV zs), (6, .ptr 0 0), (5, B false), (4, I 0), (0, S op), (1, zsV zs)], [some (.var 49 (rwV r))]⟩) (fun i => zs.length - i) 0 ⟨Nat.zero_le _, rfl⟩ (by simp only [slot_is, aev, cv, cvc, Weak, isC, bsD, ↓reduceIte, Bool.and_true, Bool.and_self, and_true, and_self, reduceCtorEq, Nat.reduceEqDiff]; simp) rfl (.inl rfl) ?_
  rintro i ⟨hi, he⟩ K hK
  by_cases hlt : i < zs.length
  case neg =>
    have h0 : ps.drop i = [] := List.drop_eq_nil_of_le (by omega)
    have hz' : setAll [I 0, I 0, I 0] 0 ((zs.map fun z => [I z]).take (min zs.length 3)).flatten = [I x, I y, I z] := hz
    rw [he, h0]
    simp only [awp_reg, awp_seq, awp_cond, awp_exit, seqQ_n, seqQ_e, loopQ_e, blkQ_e, awpOps_nil, awpOps_one, awpOp_is, isCallV, callW_is, callV_is, putK_is, updK_is, put_s, upd_s, slot_is, pureOp, apureO, astepO, sliceP_ptr, copyA_own, arrA_is, killT, aev, cv, cvc, binK, elO_s, loadA_p, condA_f, elemsA, elemsN, isC, bsD, Bool.false_eq_true, ↓reduceIte, List.getElem?_cons_zero, List.getElem?_cons_succ, List.length_cons, List.length_nil, List.map_cons, List.map_nil, List.cons_append, List.nil_append, List.append_nil, List.set_cons_zero, List.set_cons_succ, Option.map_none, List.all_cons, List.all_nil, Bool.true_and, Bool.and_self, Value.oneCell', true_and, and_self, reduceCtorEq, Nat.reduceAdd, Nat.reduceMul, Nat.reduceLT, Nat.reduceLeDiff, Nat.reduceEqDiff, Nat.zero_add, Int.reduceToNat, Nat.le_refl, Int.le_refl, Ty.td3, Ty.td22, Ty.td53, show decide ((i : Int) < (zs.length : Int)) = false from decide_eq_false (by omega), List.length_map, beq_self_eq_true, Option.isNone_none, Bool.and_self, hz']
    refine ⟨by omega, by omega, ?_⟩
    refine call_meets (hv x y z) (by simp only [aev, cv, cvc, toD_c, consO_some, toDL_nil, toDL_cons, isC, bsD] <;> rfl) ?_; simp only [awp_ret, seqQ_n, awpOps_nil, awpOps_one, awpOp_is, putK_is, put_s, upd_s, slot_is, retA_is, pureOp, apureO, killT, aev, cv, cvc, flat_c, ownsV_c, ownsL_nil, ownsL_cons, toD_c, toD_tup, consO_some, toDL_nil, toDL_cons, notExit, resA_nil, resA_tmp, oneA_2, isC, bsD, ↓reduceIte, List.append_nil, Option.map_some, Bool.true_and, Bool.or_true, true_and, Nat.reduceEqDiff, List.isEmpty_nil]
    rfl
  have hlt2 : i < ps.length := by omega
  have hpt : ps[i]? = some ps[i] := List.getElem?_eq_getElem hlt2
  have hok : okA (ps.drop i) = (validE (elemOf ps[i].1) ps[i].2 && okA (ps.drop (i + 1))) := by rw [List.drop_eq_getElem_cons hlt2]; rfl
  generalize ps[i] = wp at *
  obtain ⟨w, p⟩ := wp
  simp only at hok
  obtain ⟨hw, hp⟩ := hzi i w p hpt
  have hi3 : (i < 3) = True := eq_true (by omega)
  have hval := valid (elemOf w) p
  rw [hok] at he
  unfold elemOf at hval he
  simp only [awp_skip, awp_reg, awp_seq, awp_cond, awp_block, seqQ_n, awpOps_nil, awpOps_one, awpOp_is, putK_is, put_s, slot_is, pureOp, apureO, aev, cv, cvc, binK, elO_s, loadA_d, loadA_p, condA_t, isC, bsD, Int.natCast_nonneg, Bool.false_eq_true, ↓reduceIte, List.getElem?_cons_zero, List.getElem?_cons_succ, List.length_cons, List.length_nil, Option.map_some, Bool.true_and, true_and, ne_eq, not_false_eq_true, reduceCtorEq, Nat.reduceAdd, Nat.reduceEqDiff, Nat.zero_add, Int.toNat_natCast, Ty.td3, Ty.td9, Ty.td22, Ty.td47, Ty.td49, show decide ((i : Int) < (zs.length : Int)) = true from decide_eq_true (by omega), List.getElem?_map, hp, hi3, true_and, hw]
  cases hA : eqD w cA with
  | true =>
    rw [hA] at hval he
    simp only [if_true] at hval he
    simp only [awp_reg, awp_seq, seqQ_n, awpOps_nil, awpOps_one, awpOp_is, isCallV, callW_is, callV_is, putK_is, put_s, slot_is, pureOp, apureO, aev, cv, cvc, condA_t, isC, bsD, Bool.false_eq_true, ↓reduceIte, List.map_cons, List.map_nil, List.append_nil, Nat.reduceEqDiff, eq_is, hA]
    refine call_meets (hval) (by simp only [aev, cv, cvc, toD_c, consO_some, toDL_nil, toDL_cons, isC, bsD] <;> rfl) ?_; simp only [awp_cond, seqQ_n, awpOps_nil, awpOps_one, awpOp_is, putK_is, put_s, upd_s, slot_is, pureOp, apureO, killT, aev, cv, cvc, flat_c, ownsV_c, ownsL_nil, ownsL_cons, isC, bsD, ↓reduceIte, List.append_nil, Bool.or_true, List.isEmpty_nil]
    cases hx : validE cI p with
    | true =>
      rw [hx, Bool.true_and] at he
      simp only [awp_skip, awp_reg, seqQ_n, loopQ_n, blkQ_n, awpOps_nil, awpOps_one, awpOp_is, putK_is, put_s, slot_is, pureOp, apureO, aev, cv, cvc, binK, condA_f, isC, bsD, ↓reduceIte, Bool.true_and, Bool.not_true, true_and, Nat.reduceEqDiff, hx]
      rw [wrap_in (x := (i : Int) + 1) (by omega) (by omega)]
      refine hK (i + 1) _ ⟨by omega, he⟩ (by omega) ?_ rfl (.inl rfl)
      simp only [slot_is, aev, cv, cvc, Weak, isC, bsD, ↓reduceIte, Bool.and_true, Bool.and_self, and_true, and_self, reduceCtorEq, Nat.reduceEqDiff]
      simp
    | false =>
      rw [hx, Bool.false_and] at he
      rw [he]
      simp only [awp_reg, awp_seq, awp_ret, seqQ_n, seqQ_r, loopQ_r, blkQ_r, awpOps_nil, awpOps_one, awpOp_is, putK_is, put_s, slot_is, retA_is, pureOp, apureO, aev, cv, cvc, condA_t, toD_c, toD_tup, consO_some, toDL_nil, toDL_cons, notExit, resA_nil, resA_tmp, oneA_2, isC, bsD, Bool.false_eq_true, ↓reduceIte, Option.map_some, Bool.and_self, Bool.not_false, and_self, Nat.reduceEqDiff, hx]
  | false =>
    rw [hA] at hval he
    simp only [Bool.false_eq_true, if_false] at hval he
    simp only [awp_skip, awp_reg, awp_seq, seqQ_n, awpOps_one, awpOp_is, isCallV, callW_is, callV_is, putK_is, put_s, slot_is, pureOp, apureO, aev, cv, cvc, condA_f, isC, bsD, Bool.false_eq_true, ↓reduceIte, List.map_cons, List.map_nil, List.append_nil, Nat.reduceEqDiff, eq_is, hA]
    refine call_meets (hval) (by simp only [aev, cv, cvc, toD_c, consO_some, toDL_nil, toDL_cons, isC, bsD] <;> rfl) ?_; simp only [awp_cond, seqQ_n, awpOps_nil, awpOps_one, awpOp_is, putK_is, put_s, upd_s, slot_is, pureOp, apureO, killT, aev, cv, cvc, flat_c, ownsV_c, ownsL_nil, ownsL_cons, isC, bsD, ↓reduceIte, List.append_nil, Bool.or_true, List.isEmpty_nil]
    cases hx : validE w p with
    | true =>
      rw [hx, Bool.true_and] at he
      simp only [awp_skip, awp_reg, seqQ_n, loopQ_n, blkQ_n, awpOps_nil, awpOps_one, awpOp_is, putK_is, put_s, slot_is, pureOp, apureO, aev, cv, cvc, binK, condA_f, isC, bsD, ↓reduceIte, Bool.true_and, Bool.not_true, true_and, Nat.reduceEqDiff, hx]
      rw [wrap_in (x := (i : Int) + 1) (by omega) (by omega)]
      refine hK (i + 1) _ ⟨by omega, he⟩ (by omega) ?_ rfl (.inl rfl)
      simp only [slot_is, aev, cv, cvc, Weak, isC, bsD, ↓reduceIte, Bool.and_true, Bool.and_self, and_true, and_self, reduceCtorEq, Nat.reduceEqDiff]
      simp
    | false =>
      rw [hx, Bool.false_and] at he
      rw [he]
      simp only [awp_reg, awp_seq, awp_ret, seqQ_n, seqQ_r, loopQ_r, blkQ_r, awpOps_nil, awpOps_one, awpOp_is, putK_is, put_s, slot_is, retA_is, pureOp, apureO, aev, cv, cvc, condA_t, toD_c, toD_tup, consO_some, toDL_nil, toDL_cons, notExit, resA_nil, resA_tmp, oneA_2, isC, bsD, Bool.false_eq_true, ↓reduceIte, Option.map_some, Bool.and_self, Bool.not_false, and_self, Nat.reduceEqDiff, hx]

end Go.Proofs.YtdhpmkaggojgbaaDoor.E5
