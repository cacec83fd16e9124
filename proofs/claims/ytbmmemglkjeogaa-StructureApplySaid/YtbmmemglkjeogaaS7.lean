/- Structure: ranks and types of results. -/
import Derived.Test.YtbmmemglkjeogaaS6
namespace Go.Proofs.Ytbmmemglkjeogaa.S7
open Go Go.Proofs.Ytbmmemglkjeogaa.Eng Go.Proofs.Ytbmmemglkjeogaa Go.RowKit Go.Proofs.Ytbmmemglkjeogaa.A1 Go.Proofs.Ytbmmemglkjeogaa.A2 Go.Proofs.Ytbmmemglkjeogaa.A3 Go.Proofs.Ytbmmemglkjeogaa.S1 Go.Proofs.Ytbmmemglkjeogaa.S2 Go.Proofs.Ytbmmemglkjeogaa.S3 Go.Proofs.Ytbmmemglkjeogaa.S4 Go.Proofs.Ytbmmemglkjeogaa.S5 Go.Proofs.Ytbmmemglkjeogaa.S6
set_option linter.unusedSimpArgs false
set_option linter.unusedVariables false
set_option linter.unusedSectionVars false
set_option maxRecDepth 100000

def rksE (e : ByteArray) (n : Int) : List Int × Bool :=
  if is_pack e && decide (0 < n) && decide (n ≤ 2147483647) then (List.replicate n.toNat 0, true)
  else match opOf e with
    | none => ([], false)
    | some o => if (ix o == 12) || (n != ((rk o).length : Int)) then ([], false) else (rk o, true)

abbrev rkT (x : List Int × Bool) : AV := .tup [ints x.1, B x.2]
theorem rk_nil {b : Bool} (ok : Nat → Prop) (w : World) (v : Value) (h : RepD ok w (.tup [.nils, B b]) v) : RepD ok w (rkT ([], b)) v := tup_imp (fun _ => cons_imp (fun _ => nil_imp) fun _ h => h) h

theorem ranks_ (e : ByteArray) (n : Int) : Meets Try.prog 17 [S e, I n] (rkT (rksE e n)) := by
  have hf := find_row e
  unfold rksE
  by_cases hp : is_pack e = true
  · by_cases h1 : 0 < n
    · by_cases h2 : n ≤ 2147483647
      · rw [if_pos (by simp [h1, h2, hp])]
        refine meets_of (X := false) Ty.mixed Try.func17 (by kernel_rfl) rfl (by kernel_rfl) (by simp) ?_; rw [Try.ntmps17, Try.results17]
        simp only [awp_reg, awp_seq, awp_cond, awp_ret, seqQ_n, seqQ_r, awpOps_nil, awpOps_one, awpOps_if, awpOp_is, isCallV, awpO_is, putK_is, updK_is, put_s, upd_s, slot_is, retA_is, pureOp, apureO, astepO, killT, aev, cv, cvc, binK, elO_s, yieldA, guardA_tt, condA_t, pickA_t, elemsA, toD_c, toD_tup, toD_own, consO_some, toDL_nil, toDL_cons, notExit, resA_nil, resA_tmp, oneA_2, argT, Bool.false_eq_true, ↓reduceIte, List.getElem?_cons_zero, List.getElem?_cons_succ, List.length_cons, List.length_nil, List.map_cons, List.map_nil, List.nil_append, List.getElem?_toArray, Option.bind_some, List.all_cons, List.all_nil, Bool.true_and, Bool.and_self, Value.oneCell', true_and, and_self, reduceCtorEq, Nat.reduceLT, Nat.reduceEqDiff, Nat.zero_add, decide_true, Int.le_refl, Ty.td3, Ty.td22, hp, h1, h2]
        refine ⟨by omega, by omega, by omega, ?_⟩
        simp [enc]
        show some [AV.sl false 1 (List.replicate n.toNat [.c (.int .i64 0)]), B true] = some [.sl false 1 ((List.replicate n.toNat 0).map enc), B true]
        rw [List.map_replicate]
      · rw [if_neg (by simp [h2])]
        have ho : opOf e = some .pack := op_of (beq_iff_eq.1 hp)
        rw [ho] at hf ⊢
        simp only [show (ix .pack == 12) = true from rfl, Bool.true_or, if_true] at hf ⊢
        refine Meets.weak (r0 := .tup [.nils, B false]) ?_ rk_nil
        refine meets_of (X := false) Ty.mixed Try.func17 (by kernel_rfl) rfl (by kernel_rfl) (by simp) ?_; rw [Try.ntmps17, Try.results17]
        simp only [awp_skip, awp_reg, awp_seq, awp_cond, seqQ_n, awpOps_nil, awpOps_one, awpOps_if, awpOp_is, isCallV, callW_is, callV_is, awpO_is, putK_is, put_s, slot_is, pureOp, apureO, aev, cv, cvc, binK, yieldA, guardA_tt, condA_f, pickA_t, argT, Bool.false_eq_true, ↓reduceIte, List.getElem?_cons_zero, List.getElem?_cons_succ, List.map_cons, List.map_nil, List.append_nil, List.getElem?_toArray, Option.bind_some, Bool.true_and, true_and, reduceCtorEq, Nat.reduceEqDiff, Nat.zero_add, decide_true, decide_false, hp, h1, h2]
        refine call_meets (hf) (by simp only [aev, cv, cvc, toD_c, consO_some, toDL_nil, toDL_cons, hp] <;> rfl) ?_; simp only [awp_reg, awp_seq, awp_cond, awp_ret, seqQ_n, seqQ_r, awpOps_nil, awpOps_one, awpOps_if, awpOp_is, isCallV, awpO_is, putK_is, updK_is, put_s, upd_n, upd_s, slot_is, retA_is, pureOp, apureO, astepO, killT, aev, cv, cvc, binK, elO_s, storeA, cellsA, cellOk, setAll, yieldA, guardA_ft, guardA_ff, condA_t, pickA_t, pickA_f, flat_c, flat_tup, flat_agg, flat_sl, flat_fn, flatL_nil, flatL_cons, ownsV_c, ownsL_nil, ownsL_cons, toD_c, toD_nils, toD_tup, consO_some, toDL_nil, toDL_cons, notExit, resA_nil, resA_tmp, oneA_2, Bool.false_eq_true, ↓reduceIte, List.getElem?_cons_zero, List.getElem?_cons_succ, List.length_cons, List.length_nil, List.map_cons, List.map_nil, List.nil_append, List.append_nil, List.set_cons_zero, List.getElem?_toArray, Option.bind_some, Option.map_some, List.all_cons, List.all_nil, Bool.and_true, Bool.true_and, Bool.and_false, Bool.and_self, Bool.or_true, Bool.not_true, Value.oneCell', true_and, and_true, and_self, reduceCtorEq, Nat.reduceAdd, Nat.reduceEqDiff, Nat.zero_add, List.isEmpty_nil, Nat.le_refl, Ty.td63, hp]
    · rw [if_neg (by simp [h1])]
      have ho : opOf e = some .pack := op_of (beq_iff_eq.1 hp)
      rw [ho] at hf ⊢
      simp only [show (ix .pack == 12) = true from rfl, Bool.true_or, if_true] at hf ⊢
      refine Meets.weak (r0 := .tup [.nils, B false]) ?_ rk_nil
      refine meets_of (X := false) Ty.mixed Try.func17 (by kernel_rfl) rfl (by kernel_rfl) (by simp) ?_; rw [Try.ntmps17, Try.results17]
      simp only [awp_skip, awp_reg, awp_seq, awp_cond, seqQ_n, awpOps_nil, awpOps_one, awpOps_if, awpOp_is, isCallV, callW_is, callV_is, awpO_is, putK_is, put_s, slot_is, pureOp, apureO, aev, cv, cvc, binK, yieldA, guardA_tt, guardA_tf, condA_f, pickA_t, pickA_f, argT, Bool.false_eq_true, ↓reduceIte, List.getElem?_cons_zero, List.getElem?_cons_succ, List.map_cons, List.map_nil, List.append_nil, List.getElem?_toArray, Option.bind_some, Bool.true_and, true_and, reduceCtorEq, Nat.reduceEqDiff, Nat.zero_add, decide_false, hp, h1]
      refine call_meets (hf) (by simp only [aev, cv, cvc, toD_c, consO_some, toDL_nil, toDL_cons, hp] <;> rfl) ?_; simp only [awp_reg, awp_seq, awp_cond, awp_ret, seqQ_n, seqQ_r, awpOps_nil, awpOps_one, awpOps_if, awpOp_is, isCallV, awpO_is, putK_is, updK_is, put_s, upd_n, upd_s, slot_is, retA_is, pureOp, apureO, astepO, killT, aev, cv, cvc, binK, elO_s, storeA, cellsA, cellOk, setAll, yieldA, guardA_ft, guardA_ff, condA_t, pickA_t, pickA_f, flat_c, flat_tup, flat_agg, flat_sl, flat_fn, flatL_nil, flatL_cons, ownsV_c, ownsL_nil, ownsL_cons, toD_c, toD_nils, toD_tup, consO_some, toDL_nil, toDL_cons, notExit, resA_nil, resA_tmp, oneA_2, Bool.false_eq_true, ↓reduceIte, List.getElem?_cons_zero, List.getElem?_cons_succ, List.length_cons, List.length_nil, List.map_cons, List.map_nil, List.nil_append, List.append_nil, List.set_cons_zero, List.getElem?_toArray, Option.bind_some, Option.map_some, List.all_cons, List.all_nil, Bool.and_true, Bool.true_and, Bool.and_false, Bool.and_self, Bool.or_true, Bool.not_true, Value.oneCell', true_and, and_true, and_self, reduceCtorEq, Nat.reduceAdd, Nat.reduceEqDiff, Nat.zero_add, List.isEmpty_nil, Nat.le_refl, Ty.td63, hp]
  rw [if_neg (by simp [hp])]
  have hp' : is_pack e = false := Bool.eq_false_iff.2 hp
  cases ho : opOf e with
  | none =>
    rw [ho] at hf
    refine Meets.weak (r0 := .tup [.nils, B false]) ?_ rk_nil
    refine meets_of (X := false) Ty.mixed Try.func17 (by kernel_rfl) rfl (by kernel_rfl) (by simp) ?_; rw [Try.ntmps17, Try.results17]
    simp only [awp_skip, awp_reg, awp_seq, awp_cond, seqQ_n, awpOps_nil, awpOps_one, awpOps_if, awpOp_is, isCallV, callW_is, callV_is, putK_is, put_s, slot_is, pureOp, apureO, aev, cv, cvc, binK, yieldA, guardA_tf, condA_f, pickA_f, argT, Bool.false_eq_true, ↓reduceIte, List.getElem?_cons_zero, List.getElem?_cons_succ, List.map_cons, List.map_nil, List.append_nil, List.getElem?_toArray, Option.bind_some, reduceCtorEq, Nat.reduceEqDiff, Nat.zero_add, hp']
    refine call_meets (hf) (by simp only [aev, cv, cvc, toD_c, consO_some, toDL_nil, toDL_cons, hp'] <;> rfl) ?_; simp only [awp_reg, awp_seq, awp_cond, awp_ret, seqQ_n, seqQ_r, awpOps_nil, awpOps_one, awpOps_if, awpOp_is, isCallV, putK_is, updK_is, put_s, upd_n, upd_s, slot_is, retA_is, pureOp, apureO, astepO, killT, aev, cv, cvc, elO_s, storeA, cellsA, cellOk, setAll, yieldA, guardA_ft, condA_t, pickA_t, flat_c, flat_tup, flat_agg, flat_sl, flatL_nil, flatL_cons, ownsV_c, ownsL_nil, ownsL_cons, toD_c, toD_nils, toD_tup, consO_some, toDL_nil, toDL_cons, notExit, resA_nil, resA_tmp, oneA_2, Bool.false_eq_true, ↓reduceIte, List.getElem?_cons_zero, List.getElem?_cons_succ, List.length_cons, List.length_nil, List.map_cons, List.map_nil, List.nil_append, List.append_nil, List.set_cons_zero, List.getElem?_toArray, Option.bind_some, Option.map_some, List.all_cons, List.all_nil, Bool.and_true, Bool.true_and, Bool.and_self, Bool.or_true, Bool.not_false, Value.oneCell', true_and, and_true, and_self, Nat.reduceAdd, Nat.reduceEqDiff, Nat.zero_add, List.isEmpty_nil, Nat.le_refl, Ty.td63, hp']
  | some o =>
    rw [ho] at hf
    simp only at hf ⊢
    have h12 : (ix o == 12) = false := (op_is ho .pack).symm.trans hp'
    rw [h12, Bool.false_or]
    have hcl := cloneInts (rk o) (by cases o <;> decide)
    cases h3 : (n != ((rk o).length : Int)) with
    | true =>
      rw [if_pos rfl]
      refine Meets.weak (r0 := .tup [.nils, B false]) ?_ rk_nil
      refine meets_of (X := false) Ty.mixed Try.func17 (by kernel_rfl) rfl (by kernel_rfl) (by simp) ?_; rw [Try.ntmps17, Try.results17]
      simp only [awp_skip, awp_reg, awp_seq, awp_cond, seqQ_n, awpOps_nil, awpOps_one, awpOps_if, awpOp_is, isCallV, callW_is, callV_is, putK_is, put_s, slot_is, pureOp, apureO, aev, cv, cvc, binK, yieldA, guardA_tf, condA_f, pickA_f, argT, Bool.false_eq_true, ↓reduceIte, List.getElem?_cons_zero, List.getElem?_cons_succ, List.map_cons, List.map_nil, List.append_nil, List.getElem?_toArray, Option.bind_some, reduceCtorEq, Nat.reduceEqDiff, Nat.zero_add, hp']
      refine call_meets (hf) (by simp only [aev, cv, cvc, toD_c, consO_some, toDL_nil, toDL_cons, hp', h3] <;> rfl) ?_; simp only [awp_reg, awp_seq, awp_cond, awp_ret, seqQ_n, seqQ_r, awpOps_nil, awpOps_one, awpOps_if, awpOp_is, isCallV, awpO_is, putK_is, updK_is, put_s, upd_n, upd_s, slot_is, retA_is, pureOp, apureO, astepO, killT, aev, cv, cvc, binK, elO_s, elO_none, lenA, lenK, loadA_p, storeA, cellsA, cellOk, setAll, yieldA, guardA_ff, condA_t, pickA_f, flat_c, flat_tup, flat_agg, flat_sl, flat_fn, flatL_nil, flatL_cons, ownsV_c, ownsL_nil, ownsL_cons, toD_c, toD_nils, toD_tup, consO_some, toDL_nil, toDL_cons, notExit, resA_nil, resA_tmp, oneA_2, Bool.false_eq_true, ↓reduceIte, List.getElem?_cons_zero, List.getElem?_cons_succ, List.length_cons, List.length_nil, List.map_cons, List.map_nil, List.nil_append, List.append_nil, List.set_cons_zero, List.set_cons_succ, List.getElem?_toArray, Option.bind_some, Option.map_some, List.all_cons, List.all_nil, Bool.and_true, Bool.true_and, Bool.and_false, Bool.and_self, Bool.or_true, Bool.not_true, Value.oneCell', true_and, and_true, and_self, ne_eq, not_false_eq_true, reduceCtorEq, Nat.reduceAdd, Nat.reduceEqDiff, Nat.zero_add, List.isEmpty_nil, Option.isSome_some, Nat.le_refl, Ty.td22, Ty.td63, hp', List.length_map, h3]
    | false =>
      rw [if_neg (by simp)]
      refine meets_of (X := false) Ty.mixed Try.func17 (by kernel_rfl) rfl (by kernel_rfl) (by simp) ?_; rw [Try.ntmps17, Try.results17]
      simp only [awp_skip, awp_reg, awp_seq, awp_cond, seqQ_n, awpOps_nil, awpOps_one, awpOps_if, awpOp_is, isCallV, callW_is, callV_is, putK_is, put_s, slot_is, pureOp, apureO, aev, cv, cvc, binK, yieldA, guardA_tf, condA_f, pickA_f, argT, Bool.false_eq_true, ↓reduceIte, List.getElem?_cons_zero, List.getElem?_cons_succ, List.map_cons, List.map_nil, List.append_nil, List.getElem?_toArray, Option.bind_some, reduceCtorEq, Nat.reduceEqDiff, Nat.zero_add, hp']
      refine call_meets (hf) (by simp only [aev, cv, cvc, toD_c, consO_some, toDL_nil, toDL_cons, hp', h3] <;> rfl) ?_; simp only [awp_skip, awp_reg, awp_seq, awp_cond, seqQ_n, awpOps_nil, awpOps_one, awpOps_if, awpOp_is, isCallV, callW_is, callV_is, awpO_is, putK_is, updK_is, put_s, upd_n, upd_s, slot_is, pureOp, apureO, astepO, killT, aev, cv, cvc, binK, elO_s, elO_none, lenA, lenK, loadA_p, storeA, cellsA, cellOk, setAll, yieldA, guardA_ff, condA_f, pickA_f, flat_c, flat_tup, flat_agg, flat_sl, flat_fn, flatL_nil, flatL_cons, ownsV_c, ownsL_nil, ownsL_cons, Bool.false_eq_true, ↓reduceIte, List.getElem?_cons_zero, List.getElem?_cons_succ, List.length_cons, List.length_nil, List.map_cons, List.map_nil, List.nil_append, List.append_nil, List.set_cons_zero, List.set_cons_succ, List.getElem?_toArray, Option.bind_some, List.all_cons, List.all_nil, Bool.and_true, Bool.true_and, Bool.and_false, Bool.and_self, Bool.or_true, Bool.not_true, Value.oneCell', true_and, and_true, and_self, ne_eq, not_false_eq_true, reduceCtorEq, Nat.reduceAdd, Nat.reduceEqDiff, Nat.zero_add, List.isEmpty_nil, Option.isSome_some, Nat.le_refl, Ty.td22, Ty.td63, hp', List.length_map, h3]
      refine call_meets (hcl) (by simp only [aev, cv, cvc, toD_sl, consO_some, toDL_nil, toDL_cons] <;> rfl) ?_; simp only [awp_ret, seqQ_n, awpOps_nil, awpOps_one, awpOp_is, putK_is, put_s, upd_s, slot_is, retA_is, pureOp, apureO, killT, aev, cv, cvc, flat_sl, ownsV_sl, ownsL_nil, ownsL_cons, toD_c, toD_tup, toD_sl, consO_some, toDL_nil, toDL_cons, notExit, resA_nil, resA_tmp, oneA_2, ↓reduceIte, List.append_nil, Option.map_some, Bool.and_self, Bool.or_true, and_self, Nat.reduceEqDiff, List.isEmpty_nil]

abbrev strs (l : List ByteArray) : AV := .sl false 1 (l.map fun s => [S s])
def badT (s : ByteArray) : Bool := !isI s && !isB s
theorem result1 (s : ByteArray) : Meets Try.prog 48 [S s] (B (badT s)) := by
  unfold badT
  refine meets_of (X := false) Ty.mixed Try.func48 (by kernel_rfl) rfl (by kernel_rfl) (by simp) ?_; rw [Try.ntmps48, Try.results48]
  cases h1 : isI s <;> cases h2 : isB s <;> simp only [awp_reg, awp_seq, awp_ret, seqQ_n, awpOps_nil, awpOps_one, awpOps_if, awpOp_is, awpO_is, putK_is, put_s, slot_is, retA_is, pureOp, apureO, aev, cv, cvc, binK, yieldA, guardA_tt, guardA_tf, pickA_t, pickA_f, toD_c, notExit, resA_nil, resA_tmp, oneA_1, argT, ↓reduceIte, List.getElem?_cons_zero, List.getElem?_cons_succ, List.getElem?_toArray, Option.bind_some, Bool.and_true, Bool.and_false, Bool.and_self, Bool.not_true, Bool.not_false, and_true, and_self, reduceCtorEq, Nat.reduceEqDiff, h1, h2]

def idxG {α : Type} (p : α → Bool) : List α → Nat → Int
  | [], _ => -1
  | z :: zs, k => if p z then k else idxG p zs (k + 1)
theorem idxG_any {α : Type} (p : α → Bool) : ∀ (zs : List α) (k : Nat), decide (0 ≤ idxG p zs k) = zs.any p
  | [], _ => rfl
  | z :: zs, k => by
    unfold idxG
    cases h : p z
    · simp [h, idxG_any p zs (k + 1)]
    · simp [h]

theorem indexFuncS (l : List ByteArray) (hl : l.length ≤ 1000000) : Meets Try.prog 83 [strs l, .fn 48 []] (I (idxG badT l 0)) := by
  refine meets_of (X := false) Ty.mixed Try.func83 (by kernel_rfl) rfl (by kernel_rfl) (by simp) ?_; rw [Try.ntmps83, Try.results83]
  simp only [awp_reg, awp_seq, awp_block, awp_loop, seqQ_n, awpOps_nil, awpOps_one, awpOp_is, putK_is, put_s, slot_is, pureOp, apureO, aev, cv, cvc, elO_s, lenA, lenK, argT, ↓reduceIte, Bool.true_and, true_and, reduceCtorEq, Nat.zero_add, Option.isSome_some, Ty.td34, List.length_map]
  refine loop_k (fun k : Nat => k ≤ l.length ∧ idxG badT l 0 = idxG badT (l.drop k) k) (fun k => ⟨19, [(8, I k), (7, I l.length), (0, strs l), (1, .fn 48 [])], []⟩) (fun k => l.length - k) 0 ⟨Nat.zero_le _, rfl⟩ (by simp only [slot_is, aev, cv, cvc, Weak, ↓reduceIte, Bool.and_true, Bool.and_self, and_true, and_self, reduceCtorEq, Nat.reduceEqDiff]; simp) rfl rfl ?_
  rintro k ⟨hk, hi⟩ K hK
  simp only [awp_reg, awp_seq, awp_cond, seqQ_n, awpOps_nil, awpOps_one, awpOp_is, putK_is, put_s, slot_is, pureOp, apureO, aev, cv, cvc, binK, ↓reduceIte, Bool.true_and, true_and, Nat.reduceEqDiff]
  refine condA_dec (fun hlt => ?_) (fun hge => ?_)
  · have hlt' : k < l.length := by omega
    have hx : l[k]? = some l[k] := List.getElem?_eq_getElem hlt'
    rw [List.drop_eq_getElem_cons hlt', idxG] at hi
    have hm := result1 l[k]
    generalize l[k] = x at *
    simp only [awp_skip, awp_reg, awp_seq, awp_block, seqQ_n, awpOps_nil, awpOps_one, awpOp_is, isCallV, callW_is, callV_is, putK_is, put_s, slot_is, pureOp, apureO, aev, cv, cvc, elO_s, loadA_d, Int.natCast_nonneg, Bool.false_eq_true, ↓reduceIte, List.getElem?_cons_zero, List.map_cons, List.map_nil, List.append_nil, Option.map_some, Bool.true_and, true_and, reduceCtorEq, Nat.reduceEqDiff, Int.toNat_natCast, Ty.td9, Ty.td34, List.getElem?_map, hx]
    refine call_meets hm (by simp only [aev, cv, cvc, toD_c, consO_some, toDL_nil, toDL_cons]) ?_
    simp only [awp_cond, seqQ_n, awpOps_nil, upd_s, slot_is, killT, aev, cv, cvc, flat_c, ownsV_c, ownsL_nil, ownsL_cons, ↓reduceIte, List.append_nil, Bool.or_true, List.isEmpty_nil]
    cases hp : badT x
    · rw [hp] at hi
      simp only [awp_skip, awp_reg, seqQ_n, loopQ_n, blkQ_n, awpOps_nil, awpOps_one, awpOp_is, putK_is, put_s, slot_is, pureOp, apureO, aev, cv, cvc, binK, condA_f, ↓reduceIte, Bool.true_and, true_and, Nat.reduceEqDiff, wrap_in (x := (k : Int) + 1) (by omega) (by omega)]
      refine hK (k + 1) _ ⟨hlt', by simpa using hi⟩ (by omega) ?_ rfl rfl
      simp only [slot_is, aev, cv, cvc, Weak, ↓reduceIte, Bool.and_true, Bool.and_self, and_true, and_self, reduceCtorEq, Nat.reduceEqDiff]
      simp
    · rw [hp] at hi
      simp only [awp_reg, awp_seq, awp_ret, seqQ_n, seqQ_r, loopQ_r, blkQ_r, awpOps_nil, awpOps_one, awpOp_is, putK_is, put_s, slot_is, retA_is, pureOp, apureO, aev, cv, cvc, condA_t, toD_c, notExit, resA_nil, resA_tmp, oneA_1, ↓reduceIte, Bool.true_and, true_and, Nat.reduceEqDiff]
      simp [hi]
  · have hk' : k = l.length := by omega
    simp only [awp_reg, awp_seq, awp_exit, awp_ret, seqQ_n, seqQ_e, loopQ_e, blkQ_e, awpOps_nil, awpOps_one, awpOp_is, putK_is, put_s, slot_is, retA_is, pureOp, apureO, aev, cv, cvc, toD_c, notExit, resA_nil, resA_tmp, oneA_1, ↓reduceIte, Bool.true_and, true_and]
    rw [hi, hk']
    simp [idxG]
theorem containsFuncS (l : List ByteArray) (hl : l.length ≤ 1000000) : Meets Try.prog 47 [strs l, .fn 48 []] (B (l.any badT)) := by
  have h := indexFuncS l hl
  refine meets_of (X := false) Ty.mixed Try.func47 (by kernel_rfl) rfl (by kernel_rfl) (by simp) ?_; rw [Try.ntmps47, Try.results47]
  simp only [awp_reg, awp_seq, seqQ_n, awpOps_nil, awpOps_one, awpOp_is, isCallV, callW_is, callV_is, putK_is, put_s, slot_is, pureOp, apureO, aev, cv, cvc, argT, Bool.false_eq_true, ↓reduceIte, List.map_cons, List.map_nil, List.append_nil, reduceCtorEq, Nat.reduceEqDiff, Nat.zero_add]
  refine call_meets (h) (by simp only [aev, cv, cvc, toD_sl, toD_fn, consO_some, toDL_nil, toDL_cons, Option.map_some] <;> rfl) ?_; simp only [awp_ret, seqQ_n, awpOps_nil, awpOps_one, awpOp_is, putK_is, put_s, upd_s, slot_is, retA_is, pureOp, apureO, killT, aev, cv, cvc, binK, flat_c, ownsV_sl, ownsV_fn, ownsL_nil, ownsL_cons, toD_c, notExit, resA_nil, resA_tmp, oneA_1, ↓reduceIte, List.append_nil, Bool.and_self, Bool.or_true, and_self, List.isEmpty_nil, idxG_any]

/-- Is the type the one that is wanted? -/
def resOk (isN : Bool) (e0 : ByteArray) : List ByteArray → Nat → Bool
  | [], _ => true
  | t :: ts, i => (t.toList == (if (isN && ((i : Int) == 1)) = true then ByteArray.toList ⟨#[105, 110, 116]⟩ else e0.toList)) && resOk isN e0 ts (i + 1)
def isNm (e : ByteArray) : Bool := is_index e || is_update e
def resE (e : ByteArray) (es : List ByteArray) : ByteArray × Bool :=
  if !(rksE e es.length).2 || es.any badT then (⟨#[]⟩, false)
  else if ((rksE e es.length).1.length : Int) == 0 then (⟨#[105, 110, 116]⟩, true)
  else match es with
    | [] => (⟨#[]⟩, false)
    | e0 :: r => if resOk (isNm e) e0 (e0 :: r) 0 then (e0, true) else (⟨#[]⟩, false)
abbrev resT (x : ByteArray × Bool) : AV := .tup [S x.1, B x.2]

theorem rks_len {e : ByteArray} {n : Nat} (h : (rksE e n).2 = true) : (rksE e n).1.length = n := by
  unfold rksE at h ⊢
  split
  · simp
  · rename_i hh
    rw [if_neg hh] at h
    split at h
    · simp at h
    · split at h
      · simp at h
      · rename_i h2
        simp only [h2]
        simp at h2
        simp; omega

theorem result_ (e : ByteArray) (es : List ByteArray) (hl : es.length ≤ 1000000) : Meets Try.prog 14 [S e, strs es] (resT (resE e es)) := by
  have hr := ranks_ e es.length
  have hc := containsFuncS es hl
  have hln := @rks_len e es.length
  unfold resE
  generalize rksE e es.length = r at *
  obtain ⟨rs, b⟩ := r
  simp only at hr hln ⊢
  cases b with
  | false =>
    rw [if_pos (by simp)]
    refine meets_of (X := false) Ty.mixed Try.func14 (by kernel_rfl) rfl (by kernel_rfl) (by simp) ?_; rw [Try.ntmps14, Try.results14]
    simp only [awp_reg, awp_seq, seqQ_n, awpOps_nil, awpOps_one, awpOp_is, isCallV, callW_is, callV_is, putK_is, put_s, slot_is, pureOp, apureO, aev, cv, cvc, elO_s, lenA, lenK, argT, Bool.false_eq_true, ↓reduceIte, List.map_cons, List.map_nil, List.append_nil, Bool.true_and, true_and, reduceCtorEq, Nat.reduceEqDiff, Nat.zero_add, Option.isSome_some, Ty.td34, List.length_map]
    refine call_meets (hr) (by simp only [aev, cv, cvc, toD_c, consO_some, toDL_nil, toDL_cons] <;> rfl) ?_; simp only [awp_reg, awp_seq, awp_cond, awp_ret, seqQ_n, seqQ_r, awpOps_nil, awpOps_one, awpOps_if, awpOp_is, putK_is, put_s, upd_s, slot_is, retA_is, pureOp, apureO, killT, aev, cv, cvc, elO_s, yieldA, guardA_ft, condA_t, pickA_t, flat_c, flat_tup, flat_sl, flatL_nil, flatL_cons, ownsV_c, ownsL_nil, ownsL_cons, toD_c, toD_tup, consO_some, toDL_nil, toDL_cons, notExit, resA_nil, resA_tmp, oneA_2, ↓reduceIte, List.getElem?_cons_zero, List.getElem?_cons_succ, List.append_nil, List.getElem?_toArray, Option.bind_some, Option.map_some, Bool.and_true, Bool.and_self, Bool.or_true, Bool.not_false, and_true, and_self, Nat.reduceEqDiff, List.isEmpty_nil]
  | true =>
    have hln := hln rfl
    cases hb : es.any badT with
    | true =>
      rw [if_pos (by simp)]
      rw [hb] at hc
      refine meets_of (X := false) Ty.mixed Try.func14 (by kernel_rfl) rfl (by kernel_rfl) (by simp) ?_; rw [Try.ntmps14, Try.results14]
      simp only [awp_reg, awp_seq, seqQ_n, awpOps_nil, awpOps_one, awpOp_is, isCallV, callW_is, callV_is, putK_is, put_s, slot_is, pureOp, apureO, aev, cv, cvc, elO_s, lenA, lenK, argT, Bool.false_eq_true, ↓reduceIte, List.map_cons, List.map_nil, List.append_nil, Bool.true_and, true_and, reduceCtorEq, Nat.reduceEqDiff, Nat.zero_add, Option.isSome_some, Ty.td34, List.length_map]
      refine call_meets (hr) (by simp only [aev, cv, cvc, toD_c, consO_some, toDL_nil, toDL_cons] <;> rfl) ?_; simp only [awp_reg, awp_seq, seqQ_n, awpOps_nil, awpOps_one, awpOps_if, awpOp_is, isCallV, callW_is, callV_is, awpO_is, putK_is, put_s, upd_s, slot_is, pureOp, apureO, killT, aev, cv, cvc, elO_s, yieldA, guardA_ff, flat_c, flat_tup, flat_sl, flatL_nil, flatL_cons, ownsV_c, ownsL_nil, ownsL_cons, Bool.false_eq_true, ↓reduceIte, List.getElem?_cons_zero, List.getElem?_cons_succ, List.map_cons, List.map_nil, List.append_nil, List.getElem?_toArray, Option.bind_some, Bool.and_true, Bool.and_self, Bool.or_true, Bool.not_true, and_true, and_self, reduceCtorEq, Nat.reduceEqDiff, List.isEmpty_nil]
      refine call_meets (hc) (by simp only [aev, cv, cvc, toD_sl, toD_fn, consO_some, toDL_nil, toDL_cons, Option.map_some] <;> rfl) ?_; simp only [awp_reg, awp_seq, awp_cond, awp_ret, seqQ_n, seqQ_r, awpOps_nil, awpOps_one, awpOp_is, putK_is, put_s, upd_s, slot_is, retA_is, pureOp, apureO, killT, aev, cv, cvc, condA_t, pickA_f, flat_c, ownsV_sl, ownsV_fn, ownsL_nil, ownsL_cons, toD_c, toD_tup, consO_some, toDL_nil, toDL_cons, notExit, resA_nil, resA_tmp, oneA_2, ↓reduceIte, List.append_nil, Option.map_some, Bool.and_self, Bool.or_true, and_self, Nat.reduceEqDiff, List.isEmpty_nil]
    | false =>
      rw [if_neg (by simp)]
      rw [hb] at hc
      cases es with
      | nil =>
        have : rs = [] := List.eq_nil_of_length_eq_zero (by simpa using hln)
        subst this
        rw [if_pos (show ((([] : List Int).length : Int) == 0) = true from rfl)]
        refine meets_of (X := false) Ty.mixed Try.func14 (by kernel_rfl) rfl (by kernel_rfl) (by simp) ?_; rw [Try.ntmps14, Try.results14]
        simp only [awp_reg, awp_seq, seqQ_n, awpOps_nil, awpOps_one, awpOp_is, isCallV, callW_is, callV_is, putK_is, put_s, slot_is, pureOp, apureO, aev, cv, cvc, elO_s, lenA, lenK, argT, Bool.false_eq_true, ↓reduceIte, List.length_nil, List.map_cons, List.map_nil, List.append_nil, Bool.true_and, true_and, reduceCtorEq, Nat.reduceEqDiff, Nat.zero_add, Option.isSome_some, Ty.td34]
        refine call_meets (hr) (by simp only [aev, cv, cvc, toD_c, consO_some, toDL_nil, toDL_cons, List.length_nil] <;> rfl) ?_; simp only [awp_reg, awp_seq, seqQ_n, awpOps_nil, awpOps_one, awpOps_if, awpOp_is, isCallV, callW_is, callV_is, awpO_is, putK_is, put_s, upd_s, slot_is, pureOp, apureO, killT, aev, cv, cvc, elO_s, yieldA, guardA_ff, flat_c, flat_tup, flat_sl, flatL_nil, flatL_cons, ownsV_c, ownsL_nil, ownsL_cons, Bool.false_eq_true, ↓reduceIte, List.getElem?_cons_zero, List.getElem?_cons_succ, List.map_cons, List.map_nil, List.append_nil, List.getElem?_toArray, Option.bind_some, Bool.and_true, Bool.and_self, Bool.or_true, Bool.not_true, and_true, and_self, reduceCtorEq, Nat.reduceEqDiff, List.isEmpty_nil]
        refine call_meets hc (by simp only [aev, cv, cvc, toD_sl, toD_fn, consO_some, toDL_nil, toDL_cons, List.map_nil, Option.map_some]; rfl) ?_
        simp only [awp_skip, awp_reg, awp_seq, awp_cond, awp_ret, seqQ_n, seqQ_r, awpOps_nil, awpOps_one, awpOp_is, putK_is, put_s, upd_s, slot_is, retA_is, pureOp, apureO, killT, aev, cv, cvc, binK, elO_s, lenA, lenK, condA_t, condA_f, pickA_f, flat_c, ownsV_sl, ownsV_fn, ownsL_nil, ownsL_cons, toD_c, toD_tup, consO_some, toDL_nil, toDL_cons, notExit, resA_nil, resA_tmp, oneA_2, ↓reduceIte, List.length_nil, List.map_nil, List.append_nil, Option.map_some, Bool.and_true, Bool.true_and, Bool.and_self, Bool.or_true, true_and, and_true, and_self, Nat.reduceEqDiff, List.isEmpty_nil, Option.isSome_some, Ty.td22, show (((0 : Nat) : Int) == 0) = true from rfl]
      | cons e0 r =>
        have hz : ((rs.length : Int) == 0) = false := by rw [hln]; simp; omega
        rw [hz, if_neg (by simp)]
        simp only
        obtain ⟨isN, hN⟩ : ∃ b, isNm e = b := ⟨_, rfl⟩
        rw [hN]
        have hx0 : (e0 :: r)[0]? = some e0 := rfl
        generalize hes : e0 :: r = es at *
        have fin : (is_index e = true ∧ isN = true) ∨ (is_index e = false ∧ is_update e = true ∧ isN = true) ∨ (is_index e = false ∧ is_update e = false ∧ isN = false) := by
          rw [← hN]
          unfold isNm
          cases is_index e <;> cases is_update e <;> simp
        refine meets_of (X := false) Ty.mixed Try.func14 (by kernel_rfl) rfl (by kernel_rfl) (by simp) ?_; rw [Try.ntmps14, Try.results14]
        simp only [awp_reg, awp_seq, seqQ_n, awpOps_nil, awpOps_one, awpOp_is, isCallV, callW_is, callV_is, putK_is, put_s, slot_is, pureOp, apureO, aev, cv, cvc, elO_s, lenA, lenK, argT, Bool.false_eq_true, ↓reduceIte, List.map_cons, List.map_nil, List.append_nil, Bool.true_and, true_and, reduceCtorEq, Nat.reduceEqDiff, Nat.zero_add, Option.isSome_some, Ty.td34, List.length_map]
        refine call_meets (hr) (by simp only [aev, cv, cvc, toD_c, consO_some, toDL_nil, toDL_cons] <;> rfl) ?_; simp only [awp_reg, awp_seq, seqQ_n, awpOps_nil, awpOps_one, awpOps_if, awpOp_is, isCallV, callW_is, callV_is, awpO_is, putK_is, put_s, upd_s, slot_is, pureOp, apureO, killT, aev, cv, cvc, elO_s, yieldA, guardA_ff, flat_c, flat_tup, flat_sl, flatL_nil, flatL_cons, ownsV_c, ownsL_nil, ownsL_cons, Bool.false_eq_true, ↓reduceIte, List.getElem?_cons_zero, List.getElem?_cons_succ, List.map_cons, List.map_nil, List.append_nil, List.getElem?_toArray, Option.bind_some, Bool.and_true, Bool.and_self, Bool.or_true, Bool.not_true, and_true, and_self, reduceCtorEq, Nat.reduceEqDiff, List.isEmpty_nil]
        rcases fin with ⟨h1, h3⟩ | ⟨h1, h2, h3⟩ | ⟨h1, h2, h3⟩
        case' inl =>
          refine call_meets (hc) (by simp only [aev, cv, cvc, toD_sl, toD_fn, consO_some, toDL_nil, toDL_cons, Option.map_some, hz, h1] <;> rfl) ?_; simp only [awp_skip, awp_reg, awp_seq, awp_cond, awp_block, awp_loop, seqQ_n, awpOps_nil, awpOps_one, awpOps_if, awpOp_is, putK_is, put_s, upd_s, slot_is, pureOp, apureO, killT, aev, cv, cvc, binK, elO_s, lenA, lenK, yieldA, guardA_ft, condA_f, pickA_t, pickA_f, flat_c, ownsV_sl, ownsV_fn, ownsL_nil, ownsL_cons, ↓reduceIte, List.getElem?_cons_zero, List.getElem?_cons_succ, List.append_nil, List.getElem?_toArray, Option.bind_some, Bool.true_and, Bool.or_true, true_and, reduceCtorEq, Nat.reduceEqDiff, List.isEmpty_nil, Option.isSome_some, Ty.td22, Ty.td34, List.length_map, hz, h1]
        case' inr.inl =>
          refine call_meets (hc) (by simp only [aev, cv, cvc, toD_sl, toD_fn, consO_some, toDL_nil, toDL_cons, Option.map_some, hz, h1, h2] <;> rfl) ?_; simp only [awp_skip, awp_reg, awp_seq, awp_cond, awp_block, awp_loop, seqQ_n, awpOps_nil, awpOps_one, awpOps_if, awpOp_is, awpO_is, putK_is, put_s, upd_s, slot_is, pureOp, apureO, killT, aev, cv, cvc, binK, elO_s, lenA, lenK, yieldA, guardA_ff, condA_f, pickA_f, flat_c, ownsV_sl, ownsV_fn, ownsL_nil, ownsL_cons, ↓reduceIte, List.getElem?_cons_zero, List.getElem?_cons_succ, List.append_nil, List.getElem?_toArray, Option.bind_some, Bool.true_and, Bool.or_true, true_and, reduceCtorEq, Nat.reduceEqDiff, List.isEmpty_nil, Option.isSome_some, Ty.td22, Ty.td34, List.length_map, hz, h1, h2]
        case' inr.inr =>
          refine call_meets (hc) (by simp only [aev, cv, cvc, toD_sl, toD_fn, consO_some, toDL_nil, toDL_cons, Option.map_some, hz, h1, h2] <;> rfl) ?_; simp only [awp_skip, awp_reg, awp_seq, awp_cond, awp_block, awp_loop, seqQ_n, awpOps_nil, awpOps_one, awpOps_if, awpOp_is, awpO_is, putK_is, put_s, upd_s, slot_is, pureOp, apureO, killT, aev, cv, cvc, binK, elO_s, lenA, lenK, yieldA, guardA_ff, condA_f, pickA_f, flat_c, ownsV_sl, ownsV_fn, ownsL_nil, ownsL_cons, ↓reduceIte, List.getElem?_cons_zero, List.getElem?_cons_succ, List.append_nil, List.getElem?_toArray, Option.bind_some, Bool.true_and, Bool.or_true, true_and, reduceCtorEq, Nat.reduceEqDiff, List.isEmpty_nil, Option.isSome_some, Ty.td22, Ty.td34, List.length_map, hz, h1, h2]
        all_goals
          refine loop_k (fun k : Nat => k ≤ es.length ∧ resOk isN e0 es 0 = resOk isN e0 (es.drop k) k) (fun k => ⟨56, [(36, I k), (35, I es.length), (34, strs es), (8, B isN), (1, strs es)], []⟩) (fun k => es.length - k) 0 ⟨Nat.zero_le _, rfl⟩ (by simp only [slot_is, aev, cv, cvc, Weak, ↓reduceIte, Bool.and_true, Bool.and_self, and_true, and_self, reduceCtorEq, Nat.reduceEqDiff, h3] <;> simp) rfl rfl ?_
          rintro k ⟨hk, hi⟩ K hK
          simp only [awp_reg, awp_seq, awp_cond, seqQ_n, awpOps_nil, awpOps_one, awpOp_is, putK_is, put_s, slot_is, pureOp, apureO, aev, cv, cvc, binK, ↓reduceIte, Bool.true_and, true_and, Nat.reduceEqDiff]
          refine condA_dec (fun hlt => ?_) (fun hge => ?_)
          · have hlt' : k < es.length := by omega
            have hx : es[k]? = some es[k] := List.getElem?_eq_getElem hlt'
            rw [List.drop_eq_getElem_cons hlt', resOk] at hi
            generalize es[k] = x at *
            obtain ⟨w, hw⟩ : ∃ w, w = (if (isN && ((k : Int) == 1)) = true then ByteArray.toList ⟨#[105, 110, 116]⟩ else e0.toList) := ⟨_, rfl⟩
            rw [← hw] at hi
            obtain ⟨q, hq⟩ : ∃ q, (x.toList == w) = q := ⟨_, rfl⟩
            rw [hq] at hi
            subst h3
            cases hk1 : ((k : Int) == 1) <;> simp only [hk1, Bool.and_false, Bool.and_true, Bool.false_eq_true, if_true, if_false] at hw <;> subst hw <;> cases q
            all_goals
              simp only [awp_skip, awp_reg, awp_seq, awp_cond, awp_block, awp_ret, seqQ_n, seqQ_r, loopQ_n, loopQ_r, blkQ_n, blkQ_r, awpOps_nil, awpOps_one, awpOps_if, awpOp_is, awpO_is, putK_is, put_s, slot_is, retA_is, pureOp, apureO, aev, cv, cvc, binK, elO_s, loadA_d, yieldA, guardA_tt, guardA_tf, condA_t, condA_f, pickA_t, pickA_f, toD_c, toD_tup, consO_some, toDL_nil, toDL_cons, notExit, resA_nil, resA_tmp, oneA_2, Int.natCast_nonneg, Bool.false_eq_true, ↓reduceIte, List.getElem?_cons_zero, List.getElem?_cons_succ, List.getElem?_toArray, Option.bind_some, Option.map_some, Bool.true_and, Bool.not_true, Bool.not_false, true_and, Nat.reduceEqDiff, Int.reduceToNat, Int.toNat_natCast, Int.le_refl, Ty.td9, Ty.td34, List.getElem?_map, hx, hx0, hk1, hq, wrap_in (x := (k : Int) + 1) (by omega) (by omega)]
              first
                | (refine hK (k + 1) _ ⟨hlt', by simpa using hi⟩ (by omega) ?_ rfl rfl; simp only [slot_is, aev, cv, cvc, Weak, ↓reduceIte, Bool.and_true, Bool.and_self, and_true, and_self, Nat.reduceEqDiff]; simp)
                | simp [hi]
          · have hk' : k = es.length := by omega
            subst hk'
            rw [List.drop_length, resOk] at hi
            simp only [awp_reg, awp_seq, awp_exit, awp_ret, seqQ_n, seqQ_e, loopQ_e, blkQ_e, awpOps_nil, awpOps_one, awpOp_is, putK_is, put_s, slot_is, retA_is, pureOp, apureO, aev, cv, cvc, elO_s, loadA_d, toD_c, toD_tup, toD_agg, consO_some, toDL_nil, toDL_cons, notExit, resA_nil, resA_tmp, oneA_2, Bool.false_eq_true, ↓reduceIte, List.getElem?_cons_zero, Option.map_some, Bool.true_and, true_and, Nat.reduceEqDiff, Int.reduceToNat, Int.le_refl, Ty.td9, Ty.td34, hx0, List.getElem?_map]
            simp [hi]
end Go.Proofs.Ytbmmemglkjeogaa.S7
