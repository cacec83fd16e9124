/- Scalar primitives: the reference's Result; Ops; the law ElementTypes. -/
import Derived.Test.YtdhpmkaggojgbaaDoorE2
import Derived.Test.YtdhpmkaggojgbaaDoorE3
import Derived.Test.YtdhpmkaggojgbaaDoorEngAny
namespace Go.Proofs.YtdhpmkaggojgbaaDoor.E4
open Go Go.Proofs.YtdhpmkaggojgbaaDoor.Eng Go.Proofs.YtdhpmkaggojgbaaDoor Go.RowKit Go.Proofs.YtdhpmkaggojgbaaDoor.E0 Go.Proofs.YtdhpmkaggojgbaaDoor.E1 Go.Proofs.YtdhpmkaggojgbaaDoor.E2 Go.Proofs.YtdhpmkaggojgbaaDoor.E3
set_option linter.unusedSimpArgs false
set_option linter.unusedVariables false
set_option linter.unusedSectionVars false
set_option maxRecDepth 100000

theorem par_len (r : Rw) : (params r).length = cntE r := by
  unfold params
  have := cnt_le r
  rw [List.length_take]
  simp only [List.length_cons, List.length_nil]
  omega
theorem rresult (op : ByteArray) (ps : List ByteArray) (hl : ps.length ≤ 1000) : Meets Tryd.prog 17 [S op, txs ps] (.tup [S (resE op ps).1, B (resE op ps).2]) := by
  unfold resE
  have ht := rtypes op
  unfold typesV at ht
  have hpl := par_len (rowF op)
  have h3 := cnt_le (rowF op)
  generalize rowF op = r at *
  cases hb : (findR op).isSome with
  | false =>
    rw [hb] at ht
    refine meets_of (X := true) Ty.mixed Tryd.func17 (by kernel_rfl) rfl (by kernel_rfl) (by simp) ?_; rw [Tryd.ntmps17, Tryd.results17]
    simp only [awp_reg, awp_seq, seqQ_n, awpOps_nil, awpOps_one, awpOp_is, isCallV, callW_is, callV_is, putK_is, put_s, slot_is, pureOp, apureO, aev, cv, cvc, argT, isC, bsD, Bool.false_eq_true, ↓reduceIte, List.map_cons, List.map_nil, List.append_nil, reduceCtorEq, Nat.zero_add]
    refine call_meets (ht) (by simp only [aev, cv, cvc, toD_c, consO_some, toDL_nil, toDL_cons, isC, bsD] <;> rfl) ?_; simp only [awp_reg, awp_seq, awp_cond, awp_ret, seqQ_n, seqQ_r, awpOps_nil, awpOps_one, awpOps_if, awpOp_is, putK_is, put_s, upd_s, slot_is, retA_is, pureOp, apureO, killT, aev, cv, cvc, elO_s, yieldA, guardA_ft, condA_t, pickA_t, flat_c, flat_tup, flat_sl, flatL_nil, flatL_cons, ownsV_c, ownsL_nil, ownsL_cons, toD_c, toD_tup, consO_some, toDL_nil, toDL_cons, notExit, resA_nil, resA_tmp, oneA_2, isC, bsD, ↓reduceIte, List.getElem?_cons_zero, List.getElem?_cons_succ, List.append_nil, List.getElem?_toArray, Option.bind_some, Option.map_some, Bool.and_true, Bool.and_self, Bool.or_true, Bool.not_false, and_true, and_self, Nat.reduceEqDiff, List.isEmpty_nil]
  | true =>
    rw [hb] at ht
    simp only [if_true]
    by_cases hn : ps.length = cntE r
    case neg =>
      rw [if_neg hn]
      refine meets_of (X := true) Ty.mixed Tryd.func17 (by kernel_rfl) rfl (by kernel_rfl) (by simp) ?_; rw [Tryd.ntmps17, Tryd.results17]
      simp only [awp_reg, awp_seq, seqQ_n, awpOps_nil, awpOps_one, awpOp_is, isCallV, callW_is, callV_is, putK_is, put_s, slot_is, pureOp, apureO, aev, cv, cvc, argT, isC, bsD, Bool.false_eq_true, ↓reduceIte, List.map_cons, List.map_nil, List.append_nil, reduceCtorEq, Nat.zero_add]
      refine call_meets (ht) (by simp only [aev, cv, cvc, toD_c, consO_some, toDL_nil, toDL_cons, isC, bsD] <;> rfl) ?_; simp only [awp_reg, awp_seq, awp_cond, seqQ_n, awpOps_nil, awpOps_one, awpOps_if, awpOp_is, awpO_is, putK_is, put_s, upd_s, slot_is, pureOp, apureO, killT, aev, cv, cvc, binK, elO_s, lenA, lenK, yieldA, guardA_ff, pickA_f, flat_c, flat_tup, flat_sl, flatL_nil, flatL_cons, ownsV_c, ownsL_nil, ownsL_cons, mlenA_sl, isC, bsD, ↓reduceIte, List.getElem?_cons_zero, List.getElem?_cons_succ, List.append_nil, List.getElem?_toArray, Option.bind_some, Bool.and_true, Bool.true_and, Bool.and_self, Bool.or_true, Bool.not_true, true_and, and_true, and_self, reduceCtorEq, Nat.reduceEqDiff, List.isEmpty_nil, Option.isSome_some, Ty.td26]
      simp only [awp_reg, awp_seq, awp_ret, seqQ_n, seqQ_r, awpOps_nil, awpOps_one, awpOp_is, putK_is, put_s, slot_is, retA_is, pureOp, apureO, aev, cv, cvc, condA_t, toD_c, toD_tup, consO_some, toDL_nil, toDL_cons, notExit, resA_nil, resA_tmp, oneA_2, isC, bsD, ↓reduceIte, Option.map_some, Bool.and_self, and_self, Nat.reduceEqDiff, List.length_map, show (((params r).length : Int) != (ps.length : Int)) = true from bne_iff_ne.2 (by omega)]
    rw [if_pos hn]
    have hz : ([r.a, r.b, r.c].zip ps).length = ps.length := by rw [List.length_zip]; simp only [List.length_cons, List.length_nil]; omega
    have hzi : ∀ (i : Nat) (w p : ByteArray), ([r.a, r.b, r.c].zip ps)[i]? = some (w, p) → (params r)[i]? = some w ∧ ps[i]? = some p := by
      intro i w p h
      have hlt : i < ps.length := by rw [← hz]; exact (List.getElem?_eq_some_iff.1 h).1
      rw [List.getElem?_zip_eq_some] at h
      refine ⟨?_, h.2⟩
      unfold params
      rw [List.getElem?_take, if_pos (by omega)]
      exact h.1
    unfold resT
    rw [← hn] at hpl
    generalize [r.a, r.b, r.c].zip ps = zs at *
    generalize params r = ws at *
    refine meets_of (X := true) Ty.mixed Tryd.func17 (by kernel_rfl) rfl (by kernel_rfl) (by simp) ?_; rw [Tryd.ntmps17, Tryd.results17]
    simp only [awp_reg, awp_seq, seqQ_n, awpOps_nil, awpOps_one, awpOp_is, isCallV, callW_is, callV_is, putK_is, put_s, slot_is, pureOp, apureO, aev, cv, cvc, argT, isC, bsD, Bool.false_eq_true, ↓reduceIte, List.map_cons, List.map_nil, List.append_nil, reduceCtorEq, Nat.zero_add]
    refine call_meets (ht) (by simp only [aev, cv, cvc, toD_c, consO_some, toDL_nil, toDL_cons, isC, bsD] <;> rfl) ?_; simp only [awp_reg, awp_seq, awp_cond, seqQ_n, awpOps_nil, awpOps_one, awpOps_if, awpOp_is, awpO_is, putK_is, put_s, upd_s, slot_is, pureOp, apureO, killT, aev, cv, cvc, binK, elO_s, lenA, lenK, yieldA, guardA_ff, pickA_f, flat_c, flat_tup, flat_sl, flatL_nil, flatL_cons, ownsV_c, ownsL_nil, ownsL_cons, mlenA_sl, isC, bsD, ↓reduceIte, List.getElem?_cons_zero, List.getElem?_cons_succ, List.append_nil, List.getElem?_toArray, Option.bind_some, Bool.and_true, Bool.true_and, Bool.and_self, Bool.or_true, Bool.not_true, true_and, and_true, and_self, reduceCtorEq, Nat.reduceEqDiff, List.isEmpty_nil, Option.isSome_some, Ty.td26]
    simp only [awp_skip, awp_reg, awp_seq, awp_block, awp_loop, seqQ_n, awpOps_nil, awpOps_one, awpOp_is, putK_is, put_s, pureOp, apureO, aev, cv, cvc, condA_f, isC, bsD, ↓reduceIte, List.length_map, hpl, bne_self_eq_false]
    refine loop_g (fun z : Nat × ByteArray => z.1 ≤ ps.length ∧ resL zs cE = resL (zs.drop z.1) z.2) (fun z => ⟨76, [(10, I z.1), (9, S z.2), (7, S r.r), (6, txs ws), (5, B false), (4, S ⟨#[]⟩), (1, txs ps)], []⟩) (fun z => ps.length - z.1) (0, cE) ⟨Nat.zero_le _, rfl⟩ (by simp only [slot_is, aev, cv, cvc, Weak, isC, bsD, ↓reduceIte, Bool.and_true, Bool.and_self, and_true, and_self, reduceCtorEq, Nat.reduceEqDiff]; simp) rfl (.inl rfl) ?_
    rintro ⟨i, ch⟩ ⟨hi, he⟩ K hK
    simp only at hi he ⊢
    by_cases hlt : i < ps.length
    case neg =>
      have h0 : zs.drop i = [] := List.drop_eq_nil_of_le (by omega)
      rw [h0, resL] at he
      rw [he]
      simp only
      cases hA : eqD r.r cA with
      | true =>
        simp only [awp_reg, awp_seq, awp_cond, awp_exit, awp_ret, seqQ_n, seqQ_r, seqQ_e, loopQ_e, blkQ_e, awpOps_nil, awpOps_one, awpOp_is, putK_is, put_s, slot_is, retA_is, pureOp, apureO, aev, cv, cvc, binK, elO_s, lenA, lenK, condA_t, condA_f, toD_c, toD_tup, consO_some, toDL_nil, toDL_cons, notExit, resA_nil, resA_tmp, oneA_2, mlenA_sl, isC, bsD, ↓reduceIte, Option.map_some, Bool.and_true, Bool.true_and, Bool.and_self, true_and, and_true, and_self, Nat.reduceEqDiff, Option.isSome_some, Ty.td26, List.length_map, hpl, show decide ((i : Int) < (ps.length : Int)) = false from decide_eq_false (by omega), eq_is, hA]
      | false =>
        simp only [awp_skip, awp_reg, awp_seq, awp_cond, awp_exit, awp_ret, seqQ_n, seqQ_e, loopQ_e, blkQ_e, awpOps_nil, awpOps_one, awpOp_is, putK_is, put_s, slot_is, retA_is, pureOp, apureO, aev, cv, cvc, binK, elO_s, lenA, lenK, condA_f, toD_c, toD_tup, consO_some, toDL_nil, toDL_cons, notExit, resA_nil, resA_tmp, oneA_2, mlenA_sl, isC, bsD, Bool.false_eq_true, ↓reduceIte, Option.map_some, Bool.and_true, Bool.true_and, Bool.and_self, true_and, and_true, and_self, Nat.reduceEqDiff, Option.isSome_some, Ty.td26, List.length_map, hpl, show decide ((i : Int) < (ps.length : Int)) = false from decide_eq_false (by omega), eq_is, hA]
    have hlt2 : i < zs.length := by omega
    have hzt : zs[i]? = some zs[i] := List.getElem?_eq_getElem hlt2
    rw [List.drop_eq_getElem_cons hlt2] at he
    generalize zs[i] = wp at *
    obtain ⟨w, p⟩ := wp
    obtain ⟨hw, hp⟩ := hzi i w p hzt
    simp only [awp_skip, awp_reg, awp_seq, awp_cond, awp_block, seqQ_n, awpOps_nil, awpOps_one, awpOps_if, awpOp_is, putK_is, put_s, slot_is, pureOp, apureO, aev, cv, cvc, binK, elO_s, lenA, lenK, loadA_d, yieldA, condA_t, mlenA_sl, isC, bsD, Int.natCast_nonneg, Bool.false_eq_true, ↓reduceIte, List.getElem?_cons_zero, List.getElem?_cons_succ, List.getElem?_toArray, Option.bind_some, Option.map_some, Bool.true_and, true_and, Nat.reduceEqDiff, Int.toNat_natCast, Option.isSome_some, Ty.td9, Ty.td26, List.length_map, hpl, show decide ((i : Int) < (ps.length : Int)) = true from decide_eq_true (by omega), List.getElem?_map, hp]
    cases h1 : eqD p cI with
    | true =>
      cases h3 : eqD w cA with
      | true =>
        cases h4 : eqD ch cE with
        | true =>
          simp only [resL, h1, h3, h4, Bool.not_false, Bool.not_true, Bool.and_self, Bool.and_true, Bool.and_false, Bool.true_and, Bool.false_and, Bool.false_eq_true, if_true, if_false] at he
          simp only [awp_skip, awp_reg, awp_seq, awp_cond, seqQ_n, loopQ_n, blkQ_n, awpOps_nil, awpOps_one, awpOps_if, awpOp_is, putK_is, put_s, slot_is, pureOp, apureO, aev, cv, cvc, binK, elO_s, loadA_d, yieldA, guardA_tf, condA_t, condA_f, pickA_f, isC, bsD, Int.natCast_nonneg, Bool.false_eq_true, ↓reduceIte, List.getElem?_cons_zero, List.getElem?_cons_succ, List.getElem?_toArray, Option.bind_some, Option.map_some, Bool.true_and, Bool.not_true, true_and, Nat.reduceEqDiff, Int.toNat_natCast, Ty.td9, Ty.td26, eq_is, hw, hp, List.getElem?_map, h1, h3, h4]
          rw [wrap_in (x := (i : Int) + 1) (by omega) (by omega)]
          refine hK (i + 1, p) _ ⟨by simp only; omega, he⟩ (by simp only; omega) ?_ rfl (.inl rfl)
          simp only [slot_is, aev, cv, cvc, Weak, isC, bsD, ↓reduceIte, Bool.and_true, Bool.and_self, and_true, and_self, Nat.reduceEqDiff]
          simp
        | false =>
          cases h5 : eqD ch p with
          | true =>
            simp only [resL, h1, h3, h4, h5, Bool.not_false, Bool.not_true, Bool.and_self, Bool.and_true, Bool.and_false, Bool.true_and, Bool.false_and, Bool.false_eq_true, if_true, if_false] at he
            simp only [awp_skip, awp_reg, awp_seq, awp_cond, seqQ_n, loopQ_n, blkQ_n, awpOps_nil, awpOps_one, awpOps_if, awpOp_is, awpO_is, putK_is, put_s, slot_is, pureOp, apureO, aev, cv, cvc, binK, elO_s, loadA_d, yieldA, guardA_tt, guardA_tf, condA_t, condA_f, pickA_t, pickA_f, isC, bsD, Int.natCast_nonneg, Bool.false_eq_true, ↓reduceIte, List.getElem?_cons_zero, List.getElem?_cons_succ, List.getElem?_toArray, Option.bind_some, Option.map_some, Bool.true_and, Bool.not_true, Bool.not_false, true_and, Nat.reduceEqDiff, Int.toNat_natCast, Ty.td9, Ty.td26, eq_is, hw, hp, List.getElem?_map, h1, h3, h4, h5]
            rw [wrap_in (x := (i : Int) + 1) (by omega) (by omega)]
            refine hK (i + 1, p) _ ⟨by simp only; omega, he⟩ (by simp only; omega) ?_ rfl (.inl rfl)
            simp only [slot_is, aev, cv, cvc, Weak, isC, bsD, ↓reduceIte, Bool.and_true, Bool.and_self, and_true, and_self, Nat.reduceEqDiff]
            simp
          | false =>
            simp only [resL, h1, h3, h4, h5, Bool.not_false, Bool.not_true, Bool.and_self, Bool.and_true, Bool.and_false, Bool.true_and, Bool.false_and, Bool.false_eq_true, if_true, if_false] at he
            rw [he]
            simp only [awp_skip, awp_reg, awp_seq, awp_cond, awp_ret, seqQ_n, seqQ_r, loopQ_r, blkQ_r, awpOps_nil, awpOps_one, awpOps_if, awpOp_is, awpO_is, putK_is, put_s, slot_is, retA_is, pureOp, apureO, aev, cv, cvc, binK, elO_s, loadA_d, yieldA, guardA_tt, guardA_tf, condA_t, condA_f, pickA_t, pickA_f, toD_c, toD_tup, consO_some, toDL_nil, toDL_cons, notExit, resA_nil, resA_tmp, oneA_2, isC, bsD, Int.natCast_nonneg, Bool.false_eq_true, ↓reduceIte, List.getElem?_cons_zero, List.getElem?_cons_succ, List.getElem?_toArray, Option.bind_some, Option.map_some, Bool.and_true, Bool.true_and, Bool.and_self, Bool.not_true, Bool.not_false, true_and, and_true, and_self, Nat.reduceEqDiff, Int.toNat_natCast, Ty.td9, Ty.td26, eq_is, hw, hp, List.getElem?_map, h1, h3, h4, h5]
      | false =>
        cases h6 : eqD w p with
        | true =>
          simp only [resL, h1, h3, h6, Bool.not_false, Bool.not_true, Bool.and_self, Bool.and_true, Bool.and_false, Bool.true_and, Bool.false_and, Bool.false_eq_true, if_true, if_false] at he
          simp only [awp_regX, awp_skip, awp_reg, awp_seq, awp_cond, seqQ_n, awpOps_nil, awpOps_one, awpOps_if, awpOp_is, putK_is, put_s, slot_is, pureOp, apureO, aev, cv, cvc, binK, elO_s, loadA_d, yieldA, guardA_tf, condA_f, pickA_f, isC, bsD, Int.natCast_nonneg, Bool.false_eq_true, ↓reduceIte, List.getElem?_cons_zero, List.getElem?_cons_succ, List.getElem?_toArray, Option.bind_some, Option.map_some, Bool.true_and, Bool.not_true, true_and, Nat.reduceEqDiff, Int.toNat_natCast, Ty.td9, Ty.td26, eq_is, hw, hp, List.getElem?_map, h1, h3]
          refine drawS_tail (by kernel_rfl) ?_; simp only [awp_skip, awp_reg, awp_cond, seqQ_n, loopQ_n, blkQ_n, awpOps_nil, awpOps_one, awpOpsD_nil, awpOpsD_one, awpOp_is, awpOpD_is, putK_is, put_s, slot_is, keepOp, pureOp, apureO, aev, cv, cvc, binK, elO_s, loadA_d, condA_f, eqFK_nil, eqOpK_n, isC, bsD, Int.natCast_nonneg, Bool.false_eq_true, ↓reduceIte, List.getElem?_cons_zero, Option.map_some, Bool.true_and, Bool.not_true, true_and, Nat.reduceEqDiff, Int.toNat_natCast, Ty.td9, Ty.td26, eq_is, hw, hp, List.getElem?_map, h1, h3, h6]
          rw [wrap_in (x := (i : Int) + 1) (by omega) (by omega)]
          refine hK (i + 1, ch) _ ⟨by simp only; omega, he⟩ (by simp only; omega) ?_ rfl (.inl rfl)
          simp only [slot_is, aev, cv, cvc, Weak, isC, bsD, ↓reduceIte, Bool.and_true, Bool.and_self, and_true, and_self, Nat.reduceEqDiff]
          simp
        | false =>
          simp only [resL, h1, h3, h6, Bool.not_false, Bool.not_true, Bool.and_self, Bool.and_true, Bool.and_false, Bool.true_and, Bool.false_and, Bool.false_eq_true, if_true, if_false] at he
          rw [he]
          simp only [awp_regX, awp_skip, awp_reg, awp_seq, awp_cond, seqQ_n, awpOps_nil, awpOps_one, awpOps_if, awpOp_is, putK_is, put_s, slot_is, pureOp, apureO, aev, cv, cvc, binK, elO_s, loadA_d, yieldA, guardA_tf, condA_f, pickA_f, isC, bsD, Int.natCast_nonneg, Bool.false_eq_true, ↓reduceIte, List.getElem?_cons_zero, List.getElem?_cons_succ, List.getElem?_toArray, Option.bind_some, Option.map_some, Bool.true_and, Bool.not_true, true_and, Nat.reduceEqDiff, Int.toNat_natCast, Ty.td9, Ty.td26, eq_is, hw, hp, List.getElem?_map, h1, h3]
          refine drawS_tail (by kernel_rfl) ?_; simp only [awp_skip, awp_reg, awp_seq, awp_cond, awp_ret, seqQ_n, seqQ_r, loopQ_n, loopQ_r, blkQ_n, blkQ_r, awpOps_nil, awpOps_one, awpOpsD_nil, awpOpsD_one, awpOp_is, awpOpD_is, putK_is, put_s, slot_is, retA_is, keepOp, pureOp, apureO, aev, cv, cvc, binK, elO_s, loadA_d, condA_t, condA_f, toD_c, toD_tup, consO_some, toDL_nil, toDL_cons, notExit, resA_nil, resA_tmp, oneA_2, eqFK_nil, eqOpK_n, isC, bsD, Int.natCast_nonneg, Bool.false_eq_true, ↓reduceIte, List.getElem?_cons_zero, Option.map_some, Bool.and_true, Bool.true_and, Bool.and_self, Bool.not_true, Bool.not_false, true_and, and_true, and_self, Nat.reduceEqDiff, Int.toNat_natCast, Ty.td9, Ty.td26, eq_is, hw, hp, List.getElem?_map, h1, h3, h6]
    | false =>
      cases h2 : eqD p cB with
      | false =>
        simp only [resL, h1, h2, Bool.not_false, Bool.and_self, if_true] at he
        rw [he]
        simp only [awp_reg, awp_seq, awp_cond, awp_ret, seqQ_n, seqQ_r, loopQ_r, blkQ_r, awpOps_nil, awpOps_one, awpOps_if, awpOp_is, awpO_is, putK_is, put_s, slot_is, retA_is, pureOp, apureO, aev, cv, cvc, binK, elO_s, loadA_d, yieldA, guardA_tt, condA_t, pickA_t, toD_c, toD_tup, consO_some, toDL_nil, toDL_cons, notExit, resA_nil, resA_tmp, oneA_2, isC, bsD, Int.natCast_nonneg, Bool.false_eq_true, ↓reduceIte, List.getElem?_cons_zero, List.getElem?_cons_succ, List.getElem?_toArray, Option.bind_some, Option.map_some, Bool.and_true, Bool.true_and, Bool.and_self, Bool.not_false, true_and, and_true, and_self, Nat.reduceEqDiff, Int.toNat_natCast, Ty.td9, Ty.td26, eq_is, hw, hp, List.getElem?_map, h1, h2]
      | true =>
        cases h3 : eqD w cA with
        | true =>
          cases h4 : eqD ch cE with
          | true =>
            simp only [resL, h1, h2, h3, h4, Bool.not_false, Bool.not_true, Bool.and_self, Bool.and_true, Bool.and_false, Bool.true_and, Bool.false_and, Bool.false_eq_true, if_true, if_false] at he
            simp only [awp_skip, awp_reg, awp_seq, awp_cond, seqQ_n, loopQ_n, blkQ_n, awpOps_nil, awpOps_one, awpOps_if, awpOp_is, awpO_is, putK_is, put_s, slot_is, pureOp, apureO, aev, cv, cvc, binK, elO_s, loadA_d, yieldA, guardA_tt, guardA_tf, condA_t, condA_f, pickA_t, pickA_f, isC, bsD, Int.natCast_nonneg, Bool.false_eq_true, ↓reduceIte, List.getElem?_cons_zero, List.getElem?_cons_succ, List.getElem?_toArray, Option.bind_some, Option.map_some, Bool.true_and, Bool.not_true, Bool.not_false, true_and, Nat.reduceEqDiff, Int.toNat_natCast, Ty.td9, Ty.td26, eq_is, hw, hp, List.getElem?_map, h1, h2, h3, h4]
            rw [wrap_in (x := (i : Int) + 1) (by omega) (by omega)]
            refine hK (i + 1, p) _ ⟨by simp only; omega, he⟩ (by simp only; omega) ?_ rfl (.inl rfl)
            simp only [slot_is, aev, cv, cvc, Weak, isC, bsD, ↓reduceIte, Bool.and_true, Bool.and_self, and_true, and_self, Nat.reduceEqDiff]
            simp
          | false =>
            cases h5 : eqD ch p with
            | true =>
              simp only [resL, h1, h2, h3, h4, h5, Bool.not_false, Bool.not_true, Bool.and_self, Bool.and_true, Bool.and_false, Bool.true_and, Bool.false_and, Bool.false_eq_true, if_true, if_false] at he
              simp only [awp_skip, awp_reg, awp_seq, awp_cond, seqQ_n, loopQ_n, blkQ_n, awpOps_nil, awpOps_one, awpOps_if, awpOp_is, awpO_is, putK_is, put_s, slot_is, pureOp, apureO, aev, cv, cvc, binK, elO_s, loadA_d, yieldA, guardA_tt, condA_t, condA_f, pickA_t, isC, bsD, Int.natCast_nonneg, Bool.false_eq_true, ↓reduceIte, List.getElem?_cons_zero, List.getElem?_cons_succ, List.getElem?_toArray, Option.bind_some, Option.map_some, Bool.true_and, Bool.not_true, Bool.not_false, true_and, Nat.reduceEqDiff, Int.toNat_natCast, Ty.td9, Ty.td26, eq_is, hw, hp, List.getElem?_map, h1, h2, h3, h4, h5]
              rw [wrap_in (x := (i : Int) + 1) (by omega) (by omega)]
              refine hK (i + 1, p) _ ⟨by simp only; omega, he⟩ (by simp only; omega) ?_ rfl (.inl rfl)
              simp only [slot_is, aev, cv, cvc, Weak, isC, bsD, ↓reduceIte, Bool.and_true, Bool.and_self, and_true, and_self, Nat.reduceEqDiff]
              simp
            | false =>
              simp only [resL, h1, h2, h3, h4, h5, Bool.not_false, Bool.not_true, Bool.and_self, Bool.and_true, Bool.and_false, Bool.true_and, Bool.false_and, Bool.false_eq_true, if_true, if_false] at he
              rw [he]
              simp only [awp_skip, awp_reg, awp_seq, awp_cond, awp_ret, seqQ_n, seqQ_r, loopQ_r, blkQ_r, awpOps_nil, awpOps_one, awpOps_if, awpOp_is, awpO_is, putK_is, put_s, slot_is, retA_is, pureOp, apureO, aev, cv, cvc, binK, elO_s, loadA_d, yieldA, guardA_tt, condA_t, condA_f, pickA_t, toD_c, toD_tup, consO_some, toDL_nil, toDL_cons, notExit, resA_nil, resA_tmp, oneA_2, isC, bsD, Int.natCast_nonneg, Bool.false_eq_true, ↓reduceIte, List.getElem?_cons_zero, List.getElem?_cons_succ, List.getElem?_toArray, Option.bind_some, Option.map_some, Bool.and_true, Bool.true_and, Bool.and_self, Bool.not_true, Bool.not_false, true_and, and_true, and_self, Nat.reduceEqDiff, Int.toNat_natCast, Ty.td9, Ty.td26, eq_is, hw, hp, List.getElem?_map, h1, h2, h3, h4, h5]
        | false =>
          cases h6 : eqD w p with
          | true =>
            simp only [resL, h1, h2, h3, h6, Bool.not_false, Bool.not_true, Bool.and_self, Bool.and_true, Bool.and_false, Bool.true_and, Bool.false_and, Bool.false_eq_true, if_true, if_false] at he
            simp only [awp_regX, awp_skip, awp_reg, awp_seq, awp_cond, seqQ_n, awpOps_nil, awpOps_one, awpOps_if, awpOp_is, awpO_is, putK_is, put_s, slot_is, pureOp, apureO, aev, cv, cvc, binK, elO_s, loadA_d, yieldA, guardA_tt, condA_f, pickA_t, isC, bsD, Int.natCast_nonneg, Bool.false_eq_true, ↓reduceIte, List.getElem?_cons_zero, List.getElem?_cons_succ, List.getElem?_toArray, Option.bind_some, Option.map_some, Bool.true_and, Bool.not_true, Bool.not_false, true_and, Nat.reduceEqDiff, Int.toNat_natCast, Ty.td9, Ty.td26, eq_is, hw, hp, List.getElem?_map, h1, h2, h3]
            refine drawS_tail (by kernel_rfl) ?_; simp only [awp_skip, awp_reg, awp_cond, seqQ_n, loopQ_n, blkQ_n, awpOps_nil, awpOps_one, awpOpsD_nil, awpOpsD_one, awpOp_is, awpOpD_is, putK_is, put_s, slot_is, keepOp, pureOp, apureO, aev, cv, cvc, binK, elO_s, loadA_d, condA_f, eqFK_nil, eqOpK_n, isC, bsD, Int.natCast_nonneg, Bool.false_eq_true, ↓reduceIte, List.getElem?_cons_zero, Option.map_some, Bool.true_and, Bool.not_true, true_and, Nat.reduceEqDiff, Int.toNat_natCast, Ty.td9, Ty.td26, eq_is, hw, hp, List.getElem?_map, h1, h2, h3, h6]
            rw [wrap_in (x := (i : Int) + 1) (by omega) (by omega)]
            refine hK (i + 1, ch) _ ⟨by simp only; omega, he⟩ (by simp only; omega) ?_ rfl (.inl rfl)
            simp only [slot_is, aev, cv, cvc, Weak, isC, bsD, ↓reduceIte, Bool.and_true, Bool.and_self, and_true, and_self, Nat.reduceEqDiff]
            simp
          | false =>
            simp only [resL, h1, h2, h3, h6, Bool.not_false, Bool.not_true, Bool.and_self, Bool.and_true, Bool.and_false, Bool.true_and, Bool.false_and, Bool.false_eq_true, if_true, if_false] at he
            rw [he]
            simp only [awp_regX, awp_skip, awp_reg, awp_seq, awp_cond, seqQ_n, awpOps_nil, awpOps_one, awpOps_if, awpOp_is, awpO_is, putK_is, put_s, slot_is, pureOp, apureO, aev, cv, cvc, binK, elO_s, loadA_d, yieldA, guardA_tt, condA_f, pickA_t, isC, bsD, Int.natCast_nonneg, Bool.false_eq_true, ↓reduceIte, List.getElem?_cons_zero, List.getElem?_cons_succ, List.getElem?_toArray, Option.bind_some, Option.map_some, Bool.true_and, Bool.not_true, Bool.not_false, true_and, Nat.reduceEqDiff, Int.toNat_natCast, Ty.td9, Ty.td26, eq_is, hw, hp, List.getElem?_map, h1, h2, h3]
            refine drawS_tail (by kernel_rfl) ?_; simp only [awp_skip, awp_reg, awp_seq, awp_cond, awp_ret, seqQ_n, seqQ_r, loopQ_n, loopQ_r, blkQ_n, blkQ_r, awpOps_nil, awpOps_one, awpOpsD_nil, awpOpsD_one, awpOp_is, awpOpD_is, putK_is, put_s, slot_is, retA_is, keepOp, pureOp, apureO, aev, cv, cvc, binK, elO_s, loadA_d, condA_t, condA_f, toD_c, toD_tup, consO_some, toDL_nil, toDL_cons, notExit, resA_nil, resA_tmp, oneA_2, eqFK_nil, eqOpK_n, isC, bsD, Int.natCast_nonneg, Bool.false_eq_true, ↓reduceIte, List.getElem?_cons_zero, Option.map_some, Bool.and_true, Bool.true_and, Bool.and_self, Bool.not_true, Bool.not_false, true_and, and_true, and_self, Nat.reduceEqDiff, Int.toNat_natCast, Ty.td9, Ty.td26, eq_is, hw, hp, List.getElem?_map, h1, h2, h3, h6]

/-! The names. -/
def nmE : List ByteArray := rws.map (·.n)
theorem rops : Meets Tryd.prog 21 [] (txs nmE) := by
  have e : txs nmE = .sl false 1 (nmE.map fun s => [S s]) := rfl
  refine meets_of (X := true) Ty.mixed Tryd.func21 (by kernel_rfl) rfl (by kernel_rfl) (by simp) ?_; rw [Tryd.ntmps21, Tryd.results21]
  simp only [awp_reg, awp_seq, awp_ret, seqQ_n, awpOps_nil, awpOps_one, awpOp_is, isCallV, putK_is, updK_is, put_s, upd_s, slot_is, slot.eq_1, retA_is, pureOp, apureO, astepO, bsEnd_is, killT, aev, cv, cvc, elO_s, cellsA, cellOk, setAll, fillA, elemsA, chunk, isD_c, isDL_nil, isDL_cons, toD_own, notExit, resA_nil, resA_tmp, oneA_1, argT, isC, bsD, Bool.false_eq_true, ↓reduceIte, List.getElem?_cons_zero, List.length_cons, List.length_nil, List.map_cons, List.map_nil, List.cons_append, List.nil_append, List.set_cons_zero, List.set_cons_succ, Option.map_some, List.take_succ_cons, List.take_zero, List.drop_succ_cons, List.drop_zero, List.all_cons, List.all_nil, Bool.true_and, Bool.and_self, Value.oneCell', true_and, and_self, Nat.reduceAdd, Nat.reduceMul, Nat.reduceLT, Nat.reduceLeDiff, Nat.reduceMod, Nat.zero_add, List.range_succ, List.range_zero, Nat.le_refl, List.take_nil, Ty.td9, Ty.td26]
  rfl
theorem same (l : List ByteArray) (hl : l.length ≤ 1000) : Meets Tryd.prog 18 [txs l, txs l] (B true) := by
  refine meets_of (X := true) Ty.mixed Tryd.func18 (by kernel_rfl) rfl (by kernel_rfl) (by simp) ?_; rw [Tryd.ntmps18, Tryd.results18]
  simp only [awp_skip, awp_reg, awp_seq, awp_cond, awp_block, awp_loop, seqQ_n, awpOps_nil, awpOps_one, awpOp_is, putK_is, put_s, slot_is, pureOp, apureO, aev, cv, cvc, binK, elO_s, lenA, lenK, condA_f, argT, mlenA_sl, isC, bsD, ↓reduceIte, Bool.true_and, true_and, reduceCtorEq, Nat.reduceEqDiff, Nat.zero_add, Option.isSome_some, Ty.td26, List.length_map, bne_self_eq_false]
  refine loop_g (fun k : Nat => k ≤ l.length) (fun k => ⟨26, [(5, I k), (4, B false), (0, txs l), (1, txs l)], []⟩) (fun k => l.length - k) 0 (Nat.zero_le _) (by simp only [slot_is, aev, cv, cvc, Weak, isC, bsD, ↓reduceIte, Bool.and_true, Bool.and_self, and_true, and_self, reduceCtorEq, Nat.reduceEqDiff]; simp) rfl (.inl rfl) ?_
  intro k hk K hK
  by_cases hlt : k < l.length
  · have ht : l[k]? = some l[k] := List.getElem?_eq_getElem hlt
    generalize l[k] = t at *
    simp only [awp_regX, awp_skip, awp_reg, awp_seq, awp_cond, awp_block, seqQ_n, awpOps_nil, awpOps_one, awpOp_is, putK_is, put_s, slot_is, pureOp, apureO, aev, cv, cvc, binK, elO_s, lenA, lenK, condA_t, mlenA_sl, isC, bsD, ↓reduceIte, Bool.true_and, true_and, reduceCtorEq, Nat.reduceEqDiff, Option.isSome_some, Ty.td26, show decide ((k : Int) < (l.length : Int)) = true from decide_eq_true (by omega), List.length_map, ht]
    refine drawS_tail (by kernel_rfl) ?_; simp only [awp_skip, awp_reg, awp_cond, seqQ_n, loopQ_n, blkQ_n, awpOps_nil, awpOps_one, awpOpsD_nil, awpOpsD_one, awpOp_is, awpOpD_is, putK_is, put_s, slot_is, keepOp, pureOp, apureO, aev, cv, cvc, binK, elO_s, loadA_d, condA_f, eqFK_nil, eqOpK_n, isC, bsD, Int.natCast_nonneg, Bool.false_eq_true, ↓reduceIte, List.getElem?_cons_zero, Option.map_some, Bool.true_and, Bool.not_true, true_and, reduceCtorEq, Nat.reduceEqDiff, Int.toNat_natCast, Ty.td9, Ty.td26, List.getElem?_map, ht, eq_is, show eqD t t = true by simp [eqD]]
    rw [wrap_in (x := (k : Int) + 1) (by omega) (by omega)]
    refine hK (k + 1) _ (by omega) (by omega) ?_ rfl (.inl rfl)
    simp only [slot_is, aev, cv, cvc, Weak, isC, bsD, ↓reduceIte, Bool.and_true, Bool.and_self, and_true, and_self, reduceCtorEq, Nat.reduceEqDiff]
    simp
  · simp only [awp_reg, awp_seq, awp_cond, awp_exit, awp_ret, seqQ_n, seqQ_e, loopQ_e, blkQ_e, awpOps_nil, awpOps_one, awpOp_is, putK_is, put_s, slot_is, retA_is, pureOp, apureO, aev, cv, cvc, binK, elO_s, lenA, lenK, condA_f, toD_c, notExit, resA_nil, resA_tmp, oneA_1, mlenA_sl, isC, bsD, ↓reduceIte, Bool.and_true, Bool.true_and, Bool.and_self, true_and, and_true, and_self, reduceCtorEq, Nat.reduceEqDiff, Option.isSome_some, Ty.td26, show decide ((k : Int) < (l.length : Int)) = false from decide_eq_false (by omega), List.length_map]
abbrev hO (k : Nat) (r : Rw) : Heap := if k = 0 then [] else [none, none, some (.row 9 1 ((nmE.take k).map fun s => [S s]))]
theorem killL_c (h : Heap) (ks : List Nat) : ∀ l : List ByteArray, killL h ks (l.map fun s => AV.c (.string s)) = l.map fun s => AV.c (.string s)
  | [] => rfl
  | s :: l => congrArg (AV.c (.string s) :: ·) (killL_c h ks l)
theorem kill_tab (h : Heap) (ks : List Nat) : killL h ks elemTab = elemTab := killL_c h ks _
theorem nm_len : nmE.length = 22 := by kernel_rfl
theorem nm_take {k : Nat} {r : Rw} (h : rws[k]? = some r) : nmE.take (k + 1) = nmE.take k ++ [r.n] := by
  have h1 : nmE[k]? = some r.n := by unfold nmE; rw [List.getElem?_map, h]; rfl
  obtain ⟨h2, h3⟩ := List.getElem?_eq_some_iff.1 h1
  rw [← h3, List.take_append_getElem h2]
theorem pops : Meets Tryd.prog 20 [] (txs nmE) := by
  refine meets_of (X := true) Ty.mixed Tryd.func20 (by kernel_rfl) rfl (by kernel_rfl) (by simp) ?_; rw [Tryd.ntmps20, Tryd.results20]
  simp only [awp_reg, awp_seq, awp_block, awp_loop, seqQ_n, awpOps_nil, awpOps_one, awpOp_is, putK_is, put_s, pureOp, apureO, aev, cv, cvc, elO_s, loadA_d, argT, isC, bsD, ↓reduceIte, Bool.true_and, true_and, Nat.le_refl, Ty.td57, tab_v, tab_len]
  have htt : List.take 110 elemTab = elemTab := List.take_of_length_le (by rw [tab_len]; exact Nat.le_refl _)
  rw [htt]
  refine loop_g (fun k : Nat => k ≤ 22) (fun k => ⟨15, [(5, I k), (4, .agg elemTab), (1, if k = 0 then .nils else .own 2 1 k)], hO k zr⟩) (fun k => 22 - k) 0 (by omega) (by simp only [slot_is, aev, cv, cvc, Weak, isC, bsD, ↓reduceIte, Bool.and_true, Bool.and_self, and_true, and_self, Nat.reduceEqDiff]; rfl) rfl (.inl rfl) ?_
  intro k hk K hK
  by_cases hlt : k < 22
  · have hr : rws[k]? = some (rws[k]'(by rw [rws_len]; exact hlt)) := List.getElem?_eq_getElem _
    generalize (rws[k]'(by rw [rws_len]; exact hlt)) = r at hr
    have hrow := tab_row hr
    cases k with
    | zero =>
      simp only [hO, if_true]
      simp only [awp_skip, awp_reg, awp_seq, awp_cond, awp_block, seqQ_n, loopQ_n, blkQ_n, awpOps_nil, awpOps_one, awpOp_is, isCallV, putK_is, updK_is, put_s, upd_n, upd_s, slot_is, slot.eq_1, pureOp, apureO, astepO, bsEnd_is, appA_own, appV, killT, aev, cv, cvc, binK, elO_s, loadA_p, storeA, cellsA, cellOk, setAll, fillA, condA_t, elemsA, elemsN, chunk, isD_c, isDL_nil, isDL_cons, isC, bsD, Int.natCast_nonneg, Bool.false_eq_true, ↓reduceIte, List.getElem?_cons_zero, List.getElem?_cons_succ, List.length_cons, List.length_nil, List.map_cons, List.map_nil, List.cons_append, List.nil_append, List.set_cons_zero, List.set_cons_succ, Option.getD_some, List.take_succ_cons, List.drop_zero, List.all_cons, List.all_nil, Bool.and_true, Bool.true_and, Bool.and_self, Value.oneCell', true_and, and_true, and_self, ne_eq, not_false_eq_true, reduceCtorEq, Nat.reduceAdd, Nat.reduceMul, Nat.reduceLT, Nat.reduceLeDiff, Nat.reduceEqDiff, Nat.reduceMod, Nat.zero_add, Int.toNat_natCast, List.range_succ, List.range_zero, Nat.le_refl, List.take_nil, Ty.td9, Ty.td26, Ty.td49, Ty.td57, show decide (((0 : Nat) : Int) < 22) = true from rfl, show List.take 5 elemTab = rwV r from hrow, tab_len]
      rw [wrap_in (x := ((0 : Nat) : Int) + 1) (by omega) (by omega)]
      refine hK 1 _ (by omega) (by omega) ?_ rfl (.weak (by simp [hO]) (by simp [WeakH, hO, nm_take hr]) rfl rfl)
      simp only [slot_is, aev, cv, cvc, Weak, isC, bsD, ↓reduceIte, Bool.and_true, Bool.and_self, and_true, and_self, reduceCtorEq, Nat.reduceEqDiff]
      simp
    | succ k =>
      simp only [hO, Nat.add_one_ne_zero, if_false]
      simp only [awp_skip, awp_reg, awp_seq, awp_cond, awp_block, seqQ_n, loopQ_n, blkQ_n, awpOps_nil, awpOps_one, awpOp_is, isCallV, putK_is, updK_is, put_s, upd_n, upd_s, slot_is, slot.eq_1, pureOp, apureO, astepO, bsEnd_is, appA_own, appV, killT, killB, killH, aev, cv, cvc, binK, elO_s, loadA_p, storeA, cellsA, cellOk, setAll, fillA, condA_t, elemsA, elemsN, rowE, chunk, isD_c, isDL_nil, isDL_cons, killV_c, killV_agg, killV_own, killV_ptr, killL_nil, killL_cons, isC, bsD, Int.natCast_nonneg, Bool.false_eq_true, ↓reduceIte, List.getElem?_cons_zero, List.getElem?_cons_succ, List.length_cons, List.length_nil, List.map_cons, List.map_nil, List.cons_append, List.nil_append, List.set_cons_zero, List.set_cons_succ, Option.map_some, Option.map_none, Option.getD_some, List.take_succ_cons, List.drop_zero, List.all_cons, List.all_nil, Bool.and_true, Bool.true_and, Bool.and_self, Bool.or_false, Value.oneCell', true_and, and_true, and_self, ne_eq, not_false_eq_true, reduceCtorEq, Nat.reduceAdd, Nat.reduceMul, Nat.reduceLT, Nat.reduceLeDiff, Nat.reduceEqDiff, Nat.reduceMod, Nat.zero_add, List.mem_cons, List.not_mem_nil, or_false, Int.toNat_natCast, List.range_succ, List.range_zero, Nat.le_refl, List.take_nil, List.getElem?_nil, Ty.td9, Ty.td26, Ty.td49, Ty.td57, show decide (((k + 1 : Nat) : Int) < 22) = true from decide_eq_true (by omega), hrow, tab_len]
      have lenv : (List.map (fun s => [S s]) (nmE.take (k + 1))).length = k + 1 := by rw [List.length_map, List.length_take, nm_len]; omega
      have htk : List.take (k + 1) (List.map (fun s => [S s]) (nmE.take (k + 1))) = List.map (fun s => [S s]) (nmE.take (k + 1)) := List.take_of_length_le (by rw [lenv]; exact Nat.le_refl _)
      refine ⟨by omega, by omega, ?_⟩
      simp only [aev, cv, cvc, elO_s, isC, bsD, ↓reduceIte, Nat.le_refl, lenv, htk, Nat.le_refl, kill_tab]
      repeat refine ⟨by omega, ?_⟩
      rw [wrap_in (x := ((k + 1 : Nat) : Int) + 1) (by omega) (by omega)]
      refine hK (k + 1 + 1) _ (by omega) (by omega) ?_ rfl (.trim (by simp [hO, nm_take hr]) rfl rfl)
      simp only [slot_is, aev, cv, cvc, Weak, isC, bsD, ↓reduceIte, Bool.and_true, Bool.and_self, and_true, and_self, reduceCtorEq, Nat.reduceEqDiff]
      simp
  · have h22 : k = 22 := by omega
    subst h22
    simp only [hO, show ¬ (22 = 0) from by omega, if_false]
    simp only [awp_reg, awp_seq, awp_cond, awp_exit, awp_ret, seqQ_n, seqQ_e, loopQ_e, blkQ_e, awpOps_nil, awpOps_one, awpOp_is, putK_is, put_s, slot_is, retA_is, pureOp, apureO, aev, cv, cvc, binK, condA_f, elemsA, toD_own, notExit, resA_nil, resA_tmp, oneA_1, isC, bsD, ↓reduceIte, List.getElem?_cons_zero, List.getElem?_cons_succ, Bool.true_and, true_and, Nat.reduceEqDiff, show decide (((22 : Nat) : Int) < 22) = false from rfl]
    rw [show nmE.take 22 = nmE from List.take_of_length_le (by rw [nm_len]; exact Nat.le_refl _), if_pos (by rw [List.length_map, nm_len]; exact Nat.le_refl _), List.take_of_length_le (by rw [List.length_map, nm_len]; exact Nat.le_refl _)]
    rfl

theorem tx_ {n : Nat} {a : List AV} (h : Fits Tryd.prog n 26 a) : ∃ l : List ByteArray, a = [txs l] ∧ l.length ≤ maxLen := by
  obtain ⟨m, es, _, rfl, hl, h⟩ := fit_slice (c := 1) Tryd.underlying26 (by kernel_rfl) rfl h
  obtain ⟨l, rfl, h2⟩ := list_of (f := fun s : ByteArray => [S s]) fun a ha => by
    obtain ⟨s, rfl, _⟩ := fit_str Tryd.underlying9 (h a ha)
    exact ⟨s, rfl⟩
  exact ⟨l, rfl, by omega⟩
theorem law (op : ByteArray) (ts : List ByteArray) (hl : ts.length ≤ maxLen) (n : Int) : Meets Tryd.prog 4 [S op, txs ts, I n] (B true) := by
  unfold maxLen at hl
  have a1 := ptypes op
  have a2 := rtypes op
  unfold typesV at a1 a2
  have hpl := par_len (rowF op)
  have h3 := cnt_le (rowF op)
  have s1 := same (params (rowF op)) (by omega)
  have s2 := same nmE (by decide)
  generalize params (rowF op) = q at *
  generalize (rowF op).r = rr at *
  generalize (findR op).isSome = bb at *
  have ha := awake
  refine meets_of (X := true) Ty.mixed Tryd.func4 (by kernel_rfl) rfl (by kernel_rfl) (by simp) ?_; rw [Tryd.ntmps4, Tryd.results4]
  simp only [awp_reg, awp_seq, seqQ_n, awpOps_nil, awpOps_one, awpOp_is, isCallV, callW_is, callV_is, putK_is, put_s, pureOp, apureO, aev, cv, cvc, argT, isC, bsD, Bool.false_eq_true, ↓reduceIte, List.map_nil, List.append_nil, Nat.reduceAdd, Nat.zero_add]
  refine call_meets (ha) (by simp only [aev, cv, cvc, toDL_nil, isC, bsD] <;> rfl) ?_; simp only [awp_skip, awp_reg, awp_seq, awp_cond, seqQ_n, awpOps_nil, awpOps_one, awpOps_if, awpOp_is, putK_is, put_s, upd_s, slot_is, pureOp, apureO, killT, aev, cv, cvc, binK, elO_s, lenA, lenK, yieldA, condA_f, flat_c, ownsL_nil, mlenA_c, isC, bsD, ↓reduceIte, List.getElem?_cons_zero, List.getElem?_cons_succ, List.getElem?_toArray, Option.bind_some, Bool.true_and, Bool.or_true, Bool.not_true, true_and, reduceCtorEq, List.isEmpty_nil, Ty.td9]
  by_cases h20 : (20 : Int) < op.size
  · simp only [awp_reg, awp_seq, awp_cond, awp_ret, seqQ_n, seqQ_r, awpOps_nil, awpOps_one, awpOps_if, awpOp_is, putK_is, put_s, slot_is, retA_is, pureOp, apureO, aev, cv, cvc, yieldA, guardA_ft, condA_t, pickA_t, toD_c, notExit, resA_nil, resA_tmp, oneA_1, isC, bsD, ↓reduceIte, List.getElem?_cons_zero, List.getElem?_cons_succ, List.getElem?_toArray, Option.bind_some, Bool.and_self, and_self, Nat.reduceEqDiff, decide_eq_true h20]
  by_cases h5 : (5 : Int) < ts.length
  · simp only [awp_reg, awp_seq, awp_cond, awp_ret, seqQ_n, seqQ_r, awpOps_nil, awpOps_one, awpOps_if, awpOp_is, awpO_is, putK_is, put_s, slot_is, retA_is, pureOp, apureO, aev, cv, cvc, binK, elO_s, lenA, lenK, yieldA, guardA_ff, condA_t, pickA_f, toD_c, notExit, resA_nil, resA_tmp, oneA_1, mlenA_sl, isC, bsD, ↓reduceIte, List.getElem?_cons_zero, List.getElem?_cons_succ, List.getElem?_toArray, Option.bind_some, Bool.and_true, Bool.true_and, Bool.and_self, true_and, and_true, and_self, reduceCtorEq, Nat.reduceEqDiff, Option.isSome_some, Ty.td26, decide_eq_false h20, List.length_map, decide_eq_true h5]
  have b1 := presult op ts (by omega)
  have b2 := rresult op ts (by omega)
  generalize resE op ts = rs at *
  obtain ⟨rs1, rs2⟩ := rs
  simp only at b1 b2
  simp only [awp_skip, awp_reg, awp_seq, awp_cond, seqQ_n, awpOps_nil, awpOps_one, awpOps_if, awpOp_is, isCallV, callW_is, callV_is, awpO_is, putK_is, put_s, slot_is, pureOp, apureO, aev, cv, cvc, binK, elO_s, lenA, lenK, yieldA, guardA_ff, condA_f, pickA_f, mlenA_sl, isC, bsD, Bool.false_eq_true, ↓reduceIte, List.getElem?_cons_zero, List.getElem?_cons_succ, List.map_cons, List.map_nil, List.append_nil, List.getElem?_toArray, Option.bind_some, Bool.true_and, true_and, reduceCtorEq, Nat.reduceEqDiff, Option.isSome_some, Ty.td26, decide_eq_false h20, List.length_map, decide_eq_false h5]
  refine call_meets (a1) (by simp only [aev, cv, cvc, toD_c, consO_some, toDL_nil, toDL_cons, isC, bsD] <;> rfl) ?_; simp only [awp_reg, awp_seq, seqQ_n, awpOps_nil, awpOps_one, awpOp_is, isCallV, callW_is, callV_is, putK_is, put_s, upd_s, slot_is, pureOp, apureO, killT, aev, cv, cvc, elO_s, flat_c, flat_tup, flat_sl, flatL_nil, flatL_cons, ownsV_c, ownsL_nil, ownsL_cons, isC, bsD, Bool.false_eq_true, ↓reduceIte, List.getElem?_cons_zero, List.getElem?_cons_succ, List.map_cons, List.map_nil, List.append_nil, Bool.and_true, Bool.and_self, Bool.or_true, and_true, and_self, reduceCtorEq, Nat.reduceEqDiff, List.isEmpty_nil]
  refine call_meets (a2) (by simp only [aev, cv, cvc, toD_c, consO_some, toDL_nil, toDL_cons, isC, bsD] <;> rfl) ?_; simp only [awp_reg, awp_seq, seqQ_n, awpOps_nil, awpOps_one, awpOp_is, isCallV, callW_is, callV_is, putK_is, put_s, upd_s, slot_is, pureOp, apureO, killT, aev, cv, cvc, elO_s, flat_c, flat_tup, flat_sl, flatL_nil, flatL_cons, ownsV_c, ownsL_nil, ownsL_cons, isC, bsD, Bool.false_eq_true, ↓reduceIte, List.getElem?_cons_zero, List.getElem?_cons_succ, List.map_cons, List.map_nil, List.append_nil, Bool.and_true, Bool.and_self, Bool.or_true, and_true, and_self, reduceCtorEq, Nat.reduceEqDiff, List.isEmpty_nil]
  refine call_meets (b1) (by simp only [aev, cv, cvc, toD_c, toD_sl, consO_some, toDL_nil, toDL_cons, isC, bsD] <;> rfl) ?_; simp only [awp_reg, awp_seq, seqQ_n, awpOps_nil, awpOps_one, awpOp_is, isCallV, callW_is, callV_is, putK_is, put_s, upd_s, slot_is, pureOp, apureO, killT, aev, cv, cvc, elO_s, flat_c, flat_tup, flatL_nil, flatL_cons, ownsV_c, ownsV_sl, ownsL_nil, ownsL_cons, isC, bsD, Bool.false_eq_true, ↓reduceIte, List.getElem?_cons_zero, List.getElem?_cons_succ, List.map_cons, List.map_nil, List.append_nil, Bool.and_self, Bool.or_true, and_self, reduceCtorEq, Nat.reduceEqDiff, List.isEmpty_nil]
  refine call_meets (b2) (by simp only [aev, cv, cvc, toD_c, toD_sl, consO_some, toDL_nil, toDL_cons, isC, bsD] <;> rfl) ?_; simp only [awp_reg, awp_seq, seqQ_n, awpOps_nil, awpOps_one, awpOp_is, isCallV, callW_is, callV_is, putK_is, put_s, upd_s, slot_is, pureOp, apureO, killT, aev, cv, cvc, elO_s, flat_c, flat_tup, flatL_nil, flatL_cons, ownsV_c, ownsV_sl, ownsL_nil, ownsL_cons, isC, bsD, Bool.false_eq_true, ↓reduceIte, List.getElem?_cons_zero, List.getElem?_cons_succ, List.map_cons, List.map_nil, List.append_nil, Bool.and_self, Bool.or_true, and_self, Nat.reduceEqDiff, List.isEmpty_nil]
  refine call_meets (s1) (by simp only [aev, cv, cvc, toD_sl, consO_some, toDL_nil, toDL_cons, isC, bsD] <;> rfl) ?_; simp only [awpOps_one, awpOps_if, awpOp_is, awpO_is, putK_is, put_s, upd_s, slot_is, pureOp, apureO, killT, aev, cv, cvc, binK, yieldA, guardA_tt, pickA_t, flat_c, ownsV_sl, ownsL_nil, ownsL_cons, isC, bsD, ↓reduceIte, List.getElem?_cons_zero, List.getElem?_cons_succ, List.append_nil, List.getElem?_toArray, Option.bind_some, Bool.or_true, Nat.reduceEqDiff, List.isEmpty_nil]
  simp only [awpOps_one, awpOps_if, awpOp_is, isCallV, callW_is, callV_is, awpO_is, putK_is, put_s, slot_is, pureOp, apureO, aev, cv, cvc, binK, elO_s, yieldA, guardA_tt, pickA_t, isC, bsD, Bool.false_eq_true, ↓reduceIte, List.getElem?_cons_zero, List.getElem?_cons_succ, List.map_cons, List.map_nil, List.append_nil, List.getElem?_toArray, Option.bind_some, Bool.true_and, true_and, reduceCtorEq, Nat.reduceEqDiff, Ty.td4, show eqD rr rr = true by simp [eqD], show eqD rs1 rs1 = true by simp [eqD], beq_self_eq_true]
  refine call_meets (valid op n) (by simp only [aev, cv, cvc, toD_c, consO_some, toDL_nil, toDL_cons, isC, bsD] <;> rfl) ?_; simp only [awpOps_if, awpOp_is, isCallV, callW_is, callV_is, awpO_is, putK_is, put_s, upd_s, slot_is, pureOp, apureO, killT, aev, cv, cvc, yieldA, guardA_tt, flat_c, ownsV_c, ownsL_nil, ownsL_cons, isC, bsD, Bool.false_eq_true, ↓reduceIte, List.getElem?_cons_zero, List.getElem?_cons_succ, List.map_cons, List.map_nil, List.append_nil, List.getElem?_toArray, Option.bind_some, Bool.or_true, reduceCtorEq, Nat.reduceEqDiff, List.isEmpty_nil]
  refine call_meets (rvalid op n) (by simp only [aev, cv, cvc, toD_c, consO_some, toDL_nil, toDL_cons, isC, bsD] <;> rfl) ?_; simp only [awpOps_one, awpOps_if, awpOp_is, isCallV, callW_is, callV_is, awpO_is, putK_is, put_s, upd_s, slot_is, pureOp, apureO, killT, aev, cv, cvc, binK, elO_s, yieldA, guardA_tt, pickA_t, flat_c, ownsV_c, ownsL_nil, ownsL_cons, isC, bsD, Bool.false_eq_true, ↓reduceIte, List.getElem?_cons_zero, List.getElem?_cons_succ, List.map_cons, List.map_nil, List.append_nil, List.getElem?_toArray, Option.bind_some, Bool.true_and, Bool.or_true, true_and, reduceCtorEq, Nat.reduceEqDiff, List.isEmpty_nil, Ty.td4, beq_self_eq_true]
  refine call_meets (valid cI n) (by simp only [aev, cv, cvc, toD_c, consO_some, toDL_nil, toDL_cons, isC, bsD] <;> rfl) ?_; simp only [awpOps_if, awpOp_is, isCallV, callW_is, callV_is, awpO_is, putK_is, put_s, upd_s, slot_is, pureOp, apureO, killT, aev, cv, cvc, yieldA, guardA_tt, flat_c, ownsV_c, ownsL_nil, ownsL_cons, isC, bsD, Bool.false_eq_true, ↓reduceIte, List.getElem?_cons_zero, List.getElem?_cons_succ, List.map_cons, List.map_nil, List.append_nil, List.getElem?_toArray, Option.bind_some, Bool.or_true, reduceCtorEq, Nat.reduceEqDiff, List.isEmpty_nil]
  refine call_meets (rvalid cI n) (by simp only [aev, cv, cvc, toD_c, consO_some, toDL_nil, toDL_cons, isC, bsD] <;> rfl) ?_; simp only [awpOps_one, awpOps_if, awpOp_is, isCallV, callW_is, callV_is, awpO_is, putK_is, put_s, upd_s, slot_is, pureOp, apureO, killT, aev, cv, cvc, binK, elO_s, yieldA, guardA_tt, pickA_t, flat_c, ownsV_c, ownsL_nil, ownsL_cons, isC, bsD, Bool.false_eq_true, ↓reduceIte, List.getElem?_cons_zero, List.getElem?_cons_succ, List.map_cons, List.map_nil, List.append_nil, List.getElem?_toArray, Option.bind_some, Bool.true_and, Bool.or_true, true_and, reduceCtorEq, Nat.reduceEqDiff, List.isEmpty_nil, Ty.td4, beq_self_eq_true]
  refine call_meets (valid cB n) (by simp only [aev, cv, cvc, toD_c, consO_some, toDL_nil, toDL_cons, isC, bsD] <;> rfl) ?_; simp only [awpOps_if, awpOp_is, isCallV, callW_is, callV_is, awpO_is, putK_is, put_s, upd_s, slot_is, pureOp, apureO, killT, aev, cv, cvc, yieldA, guardA_tt, flat_c, ownsV_c, ownsL_nil, ownsL_cons, isC, bsD, Bool.false_eq_true, ↓reduceIte, List.getElem?_cons_zero, List.getElem?_cons_succ, List.map_cons, List.map_nil, List.append_nil, List.getElem?_toArray, Option.bind_some, Bool.or_true, reduceCtorEq, Nat.reduceEqDiff, List.isEmpty_nil]
  refine call_meets (rvalid cB n) (by simp only [aev, cv, cvc, toD_c, consO_some, toDL_nil, toDL_cons, isC, bsD] <;> rfl) ?_; simp only [awpOps_one, awpOps_if, awpOp_is, isCallV, callW_is, callV_is, awpO_is, putK_is, put_s, upd_s, slot_is, pureOp, apureO, killT, aev, cv, cvc, binK, elO_s, yieldA, guardA_tt, pickA_t, flat_c, ownsV_c, ownsL_nil, ownsL_cons, isC, bsD, Bool.false_eq_true, ↓reduceIte, List.getElem?_cons_zero, List.getElem?_cons_succ, List.map_nil, List.append_nil, List.getElem?_toArray, Option.bind_some, Bool.true_and, Bool.or_true, true_and, Nat.reduceEqDiff, List.isEmpty_nil, Ty.td4, beq_self_eq_true]
  refine call_meets (pops) (by simp only [aev, cv, cvc, toDL_nil, isC, bsD] <;> rfl) ?_; simp only [awpOps_if, awpOp_is, isCallV, callW_is, callV_is, awpO_is, upd_s, slot_is, pureOp, killT, aev, cv, cvc, yieldA, guardA_tt, flat_sl, ownsL_nil, isC, bsD, Bool.false_eq_true, ↓reduceIte, List.getElem?_cons_zero, List.getElem?_cons_succ, List.map_nil, List.append_nil, List.getElem?_toArray, Option.bind_some, Bool.or_true, Nat.reduceEqDiff, List.isEmpty_nil]
  refine call_meets (rops) (by simp only [aev, cv, cvc, toDL_nil, isC, bsD] <;> rfl) ?_; simp only [awpOps_if, awpOp_is, isCallV, callW_is, callV_is, awpO_is, upd_s, slot_is, pureOp, killT, aev, cv, cvc, yieldA, guardA_tt, flat_sl, ownsL_nil, isC, bsD, Bool.false_eq_true, ↓reduceIte, List.getElem?_cons_zero, List.getElem?_cons_succ, List.map_cons, List.map_nil, List.append_nil, List.getElem?_toArray, Option.bind_some, Bool.or_true, Nat.reduceEqDiff, List.isEmpty_nil]
  refine call_meets (s2) (by simp only [aev, cv, cvc, toD_sl, consO_some, toDL_nil, toDL_cons, isC, bsD] <;> rfl) ?_; simp only [awp_ret, seqQ_n, awpOps_nil, awpOps_one, awpOp_is, putK_is, put_s, upd_s, slot_is, retA_is, pureOp, apureO, killT, aev, cv, cvc, pickA_t, flat_c, ownsV_sl, ownsL_nil, ownsL_cons, toD_c, notExit, resA_nil, resA_tmp, oneA_1, isC, bsD, ↓reduceIte, List.append_nil, Bool.and_self, Bool.or_true, and_self, Nat.reduceEqDiff, List.isEmpty_nil]

theorem end_ (W : World) (ht : ElemTable.Tab W) (x0 : ByteArray) (_ : x0.size ≤ maxLen) (n1 : Nat) {v1 : Value} (a1 : AV) (f1 : Fits Tryd.prog n1 26 [a1]) (h1 : RepD (fun b => b < W.heap.size) W a1 v1) (x2 : Int) (_ : (Lit.int .i64 x2).wf = true) :
    Calls Tryd.prog 4 #[.string x0, v1, .int .i64 x2] W fun e w' => e = .returned (.bool true) ∧ Below W.heap.size W w' := by
  have hT := tabOk ht
  obtain ⟨ts, e, hl⟩ := tx_ f1
  cases e
  exact law_of (law x0 ts hl x2) (vs := [.string x0, v1, .int .i64 x2]) ⟨_, _, rfl, rfl, _, _, rfl, h1, _, _, rfl, rfl, rfl⟩ hT

end Go.Proofs.YtdhpmkaggojgbaaDoor.E4
