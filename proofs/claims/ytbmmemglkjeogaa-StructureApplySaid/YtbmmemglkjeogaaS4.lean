/- Structure: the elements of results. -/
import Derived.Test.YtbmmemglkjeogaaS3
namespace Go.Proofs.Ytbmmemglkjeogaa.S4
open Go Go.Proofs.Ytbmmemglkjeogaa.Eng Go.Proofs.Ytbmmemglkjeogaa Go.RowKit Go.Proofs.Ytbmmemglkjeogaa.A1 Go.Proofs.Ytbmmemglkjeogaa.A2 Go.Proofs.Ytbmmemglkjeogaa.A3 Go.Proofs.Ytbmmemglkjeogaa.S1 Go.Proofs.Ytbmmemglkjeogaa.S2 Go.Proofs.Ytbmmemglkjeogaa.S3
set_option linter.unusedSimpArgs false
set_option linter.unusedVariables false
set_option linter.unusedSectionVars false
set_option maxRecDepth 100000

/-- An array: its elements' type, its dimensions, its elements. -/
abbrev Ar := ByteArray × List Int × List Int
def encA (a : Ar) : List AV := [S a.1, ints a.2.1, ints a.2.2]
abbrev arrs (l : List Ar) : AV := .sl false 3 (l.map encA)
abbrev argsV (size : Int) (l : List Ar) : AV := .agg [I size, arrs l]
def Dat (l : List Ar) (k i r : Int) : Prop := 0 ≤ k ∧ 0 ≤ i ∧ ∃ a, l[k.toNat]? = some a ∧ a.2.2[i.toNat]? = some r
def Dim (l : List Ar) (i d : Int) : Prop := 0 ≤ i ∧ ∃ a, l[0]? = some a ∧ a.2.1[i.toNat]? = some d

theorem dim_ {size : Int} {l : List Ar} {i d : Int} (h : Dim l i d) : Meets Try.prog 66 [argsV size l, I i] (I d) := by
  obtain ⟨h0, a, ha, hd⟩ := h
  have hx : (a.2.1.map enc)[i.toNat]? = some [I d] := by rw [List.getElem?_map, hd]; rfl
  refine meets_of (X := false) Ty.mixed Try.func66 (by kernel_rfl) rfl (by kernel_rfl) (by simp) ?_; rw [Try.ntmps66, Try.results66]
  simp only [awp_reg, awp_seq, awp_ret, seqQ_n, awpOps_nil, awpOps_one, awpOp_is, isCallV, putK_is, updK_is, put_s, upd_s, slot_is, retA_is, pureOp, apureO, astepO, killT, aev, cv, cvc, elO_s, loadA_d, loadA_p, cellsA, cellOk, toD_agg, notExit, resA_nil, resA_tmp, oneA_1, argT, Bool.false_eq_true, ↓reduceIte, List.getElem?_cons_zero, List.getElem?_cons_succ, List.length_cons, List.length_nil, List.nil_append, Option.map_some, List.drop_succ_cons, List.drop_zero, Bool.true_and, true_and, ne_eq, not_false_eq_true, reduceCtorEq, Nat.reduceAdd, Nat.reduceEqDiff, Nat.zero_add, Int.reduceToNat, Int.le_refl, Ty.td3, Ty.td22, Ty.td25, Ty.td29, Ty.td59, List.getElem?_map, ha, encA]
  rw [List.getElem?_map] at hx
  simp only [awp_ret, seqQ_n, awpOps_nil, awpOps_one, awpOp_is, putK_is, put_s, slot_is, retA_is, pureOp, apureO, aev, cv, cvc, elO_s, toD_c, notExit, resA_nil, resA_tmp, oneA_1, ↓reduceIte, List.getElem?_cons_zero, Bool.and_true, Bool.and_self, and_true, and_self, hx]
  exact h0
theorem data_ {size : Int} {l : List Ar} {k i r : Int} (h : Dat l k i r) : Meets Try.prog 56 [argsV size l, I k, I i] (I r) := by
  obtain ⟨hk, h0, a, ha, hd⟩ := h
  have hx : (a.2.2.map enc)[i.toNat]? = some [I r] := by rw [List.getElem?_map, hd]; rfl
  refine meets_of (X := false) Ty.mixed Try.func56 (by kernel_rfl) rfl (by kernel_rfl) (by simp) ?_; rw [Try.ntmps56, Try.results56]
  simp only [awp_reg, awp_seq, awp_ret, seqQ_n, awpOps_nil, awpOps_one, awpOp_is, isCallV, putK_is, updK_is, put_s, upd_s, slot_is, retA_is, pureOp, apureO, astepO, killT, aev, cv, cvc, elO_s, loadA_d, loadA_p, cellsA, cellOk, toD_agg, notExit, resA_nil, resA_tmp, oneA_1, argT, Bool.false_eq_true, ↓reduceIte, List.getElem?_cons_zero, List.getElem?_cons_succ, List.length_cons, List.length_nil, List.nil_append, Option.map_some, List.drop_succ_cons, List.drop_zero, Bool.true_and, true_and, ne_eq, not_false_eq_true, reduceCtorEq, Nat.reduceAdd, Nat.reduceEqDiff, Nat.zero_add, Ty.td3, Ty.td22, Ty.td25, Ty.td29, Ty.td59, List.getElem?_map, ha, encA]
  rw [List.getElem?_map] at hx
  simp only [awp_ret, seqQ_n, awpOps_nil, awpOps_one, awpOp_is, putK_is, put_s, slot_is, retA_is, pureOp, apureO, aev, cv, cvc, elO_s, toD_c, notExit, resA_nil, resA_tmp, oneA_1, ↓reduceIte, List.getElem?_cons_zero, Bool.and_true, Bool.and_self, and_true, and_self, hx]
  exact ⟨hk, h0⟩
def insideE (t d : Int) : Bool := decide (0 ≤ t) && decide (t < d)
theorem inside_ {size : Int} {l : List Ar} {t d : Int} (h1 : Dat l 1 0 t) (h2 : Dim l 0 d) : Meets Try.prog 40 [argsV size l] (B (insideE t d)) := by
  have m1 := data_ (size := size) h1
  have m2 := dim_ (size := size) h2
  unfold insideE
  refine meets_of (X := false) Ty.mixed Try.func40 (by kernel_rfl) rfl (by kernel_rfl) (by simp) ?_; rw [Try.ntmps40, Try.results40]
  by_cases h : 0 ≤ t
  · simp only [awp_reg, awp_regD, awp_seq, seqQ_n, awpOps_nil, awpOps_one, awpOpsD_one, awpOp_is, isCallV, awpOpD_is, callWD_is, callVD_is, lastOnly_nil, lastOnly_cons, putK_is, updK_is, put_s, upd_s, slot_is, keepOp, pureOp, apureO, astepO, killT, aev, cv, cvc, elO_s, loadA_p, cellsA, cellOk, argT, Bool.false_eq_true, ↓reduceIte, List.getElem?_cons_zero, List.length_cons, List.length_nil, List.map_cons, List.map_nil, List.nil_append, List.append_nil, List.take_succ_cons, List.drop_zero, Bool.true_and, true_and, Nat.reduceAdd, Nat.reduceEqDiff, Nat.zero_add, Nat.le_refl, List.take_nil, Ty.td59]
    refine calld_meets (m1) (by simp only [aev, cv, cvc, toD_c, toD_agg, toD_sl, consO_some, toDL_nil, toDL_cons, Option.map_some, h] <;> rfl) (by simp only [aev, cv, cvc, flat_c, ownsV_c, ownsV_agg, ownsV_sl, ownsL_nil, ownsL_cons, List.append_nil, Bool.or_true, List.isEmpty_nil, h]) ?_; simp only [awpOpsD_one, awpOpsD_if, isCallV, awpOpD_is, callWD_is, callVD_is, awpOD_is, putK_is, put_s, slot_is, keepOp, pureOp, apureO, aev, cv, cvc, binK, elO_s, loadA_p, yieldA, guardA_tt, Bool.false_eq_true, ↓reduceIte, List.getElem?_cons_zero, List.getElem?_cons_succ, List.length_cons, List.length_nil, List.map_cons, List.map_nil, List.append_nil, List.getElem?_toArray, Option.bind_some, List.take_succ_cons, List.drop_zero, Bool.true_and, true_and, Nat.reduceAdd, Nat.reduceEqDiff, Nat.zero_add, decide_true, Nat.le_refl, List.take_nil, Ty.td59, h]
    refine calld_meets (m1) (by simp only [aev, cv, cvc, toD_c, toD_agg, toD_sl, consO_some, toDL_nil, toDL_cons, Option.map_some, h] <;> rfl) (by simp only [aev, cv, cvc, flat_c, ownsV_c, ownsV_agg, ownsV_sl, ownsL_nil, ownsL_cons, List.append_nil, Bool.or_true, List.isEmpty_nil, h]) ?_; simp only [awpOpsD_if, isCallV, awpOpD_is, callWD_is, callVD_is, awpOD_is, putK_is, put_s, slot_is, keepOp, pureOp, apureO, aev, cv, cvc, elO_s, loadA_p, yieldA, guardA_tt, Bool.false_eq_true, ↓reduceIte, List.getElem?_cons_zero, List.getElem?_cons_succ, List.length_cons, List.length_nil, List.map_cons, List.map_nil, List.append_nil, List.getElem?_toArray, Option.bind_some, List.take_succ_cons, List.drop_zero, Bool.true_and, true_and, Nat.reduceAdd, Nat.reduceEqDiff, Nat.zero_add, Nat.le_refl, List.take_nil, Ty.td59, h]
    refine calld_meets (m2) (by simp only [aev, cv, cvc, toD_c, toD_agg, toD_sl, consO_some, toDL_nil, toDL_cons, Option.map_some, h] <;> rfl) (by simp only [aev, cv, cvc, flat_c, ownsV_c, ownsV_agg, ownsV_sl, ownsL_nil, ownsL_cons, List.append_nil, Bool.or_true, List.isEmpty_nil, h]) ?_; simp only [awp_ret, seqQ_n, awpOpsD_nil, awpOpsD_one, awpOpsD_if, awpOpD_is, awpOD_is, putK_is, put_s, slot_is, retA_is, keepOp, pureOp, apureO, aev, cv, cvc, binK, yieldA, guardA_tt, pickA_t, toD_c, notExit, resA_nil, resA_tmp, oneA_1, ↓reduceIte, List.getElem?_cons_zero, List.getElem?_cons_succ, List.getElem?_toArray, Option.bind_some, Bool.and_self, and_self, Nat.reduceEqDiff, h]
  · simp only [awp_reg, awp_regD, awp_seq, seqQ_n, awpOps_nil, awpOps_one, awpOpsD_one, awpOp_is, isCallV, awpOpD_is, callWD_is, callVD_is, lastOnly_nil, lastOnly_cons, putK_is, updK_is, put_s, upd_s, slot_is, keepOp, pureOp, apureO, astepO, killT, aev, cv, cvc, elO_s, loadA_p, cellsA, cellOk, argT, Bool.false_eq_true, ↓reduceIte, List.getElem?_cons_zero, List.length_cons, List.length_nil, List.map_cons, List.map_nil, List.nil_append, List.append_nil, List.take_succ_cons, List.drop_zero, Bool.true_and, true_and, Nat.reduceAdd, Nat.reduceEqDiff, Nat.zero_add, Nat.le_refl, List.take_nil, Ty.td59]
    refine calld_meets (m1) (by simp only [aev, cv, cvc, toD_c, toD_agg, toD_sl, consO_some, toDL_nil, toDL_cons, Option.map_some, h] <;> rfl) (by simp only [aev, cv, cvc, flat_c, ownsV_c, ownsV_agg, ownsV_sl, ownsL_nil, ownsL_cons, List.append_nil, Bool.or_true, List.isEmpty_nil, h]) ?_; simp only [awp_ret, seqQ_n, awpOpsD_nil, awpOpsD_one, awpOpsD_if, awpOpD_is, putK_is, put_s, slot_is, retA_is, keepOp, pureOp, apureO, aev, cv, cvc, binK, yieldA, guardA_tf, pickA_f, toD_c, notExit, resA_nil, resA_tmp, oneA_1, ↓reduceIte, List.getElem?_cons_zero, List.getElem?_cons_succ, List.getElem?_toArray, Option.bind_some, Bool.false_and, Bool.and_self, and_self, Nat.reduceEqDiff, decide_false, h]

/-- The element of the result at an index. -/
def El (o : Op13) (size : Int) (l : List Ar) (x y r : Int) : Prop :=
  match o with
  | .iota => r = x
  | .fill => Dat l 0 0 r
  | .take => Dat l 0 x r
  | .drop => Dat l 0 (W (x + size)) r
  | .reverse => ∃ d, Dim l 0 d ∧ Dat l 0 (W (W (d - 1) - x)) r
  | .append => ∃ d, Dim l 0 d ∧ if x < d then Dat l 0 x r else Dat l 1 (W (x - d)) r
  | .transpose => ∃ d, Dim l 1 d ∧ Dat l 0 (W (W (y * d) + x)) r
  | .diagonal => ∃ d, Dim l 0 d ∧ Dat l 0 (W (W (x * d) + x)) r
  | .windows => Dat l 0 (W (x + y)) r
  | .chunk => Dat l 0 (W (W (x * size) + y)) r
  | .index => ∃ t d, Dat l 1 0 t ∧ Dim l 0 d ∧ if insideE t d = true then Dat l 0 t r else r = 0
  | .update => ∃ t, Dat l 1 0 t ∧ if x = t then Dat l 2 0 r else Dat l 0 x r
  | .pack => Dat l x 0 r

theorem el_ {o : Op13} {size : Int} {l : List Ar} {x y r : Int} (h : El o size l x y r) : Meets Try.prog (eF o) [argsV size l, I x, I y] (I r) := by
  cases o
  case iota =>
    cases h
    show Meets Try.prog 58 _ _
    refine meets_of (X := false) Ty.mixed Try.func58 (by kernel_rfl) rfl (by kernel_rfl) (by simp) ?_; rw [Try.ntmps58, Try.results58]
    simp only [awp_reg, awp_seq, awp_ret, seqQ_n, awpOps_nil, awpOps_one, awpOp_is, isCallV, putK_is, updK_is, put_s, upd_s, slot_is, retA_is, pureOp, apureO, astepO, killT, aev, cv, cvc, cellsA, cellOk, toD_c, notExit, resA_nil, resA_tmp, oneA_1, argT, Bool.false_eq_true, ↓reduceIte, List.length_nil, List.nil_append, Bool.and_self, and_self, reduceCtorEq, Nat.reduceAdd, Nat.reduceEqDiff, Nat.zero_add]
  case fill =>
    have m := data_ (size := size) h
    show Meets Try.prog 59 _ _
    refine meets_of (X := false) Ty.mixed Try.func59 (by kernel_rfl) rfl (by kernel_rfl) (by simp) ?_; rw [Try.ntmps59, Try.results59]
    simp only [awp_reg, awp_seq, seqQ_n, awpOps_nil, awpOps_one, awpOp_is, isCallV, callW_is, callV_is, putK_is, updK_is, put_s, upd_s, slot_is, pureOp, apureO, astepO, killT, aev, cv, cvc, elO_s, loadA_p, cellsA, cellOk, argT, Bool.false_eq_true, ↓reduceIte, List.getElem?_cons_zero, List.length_cons, List.length_nil, List.map_cons, List.map_nil, List.nil_append, List.append_nil, List.take_succ_cons, List.drop_zero, Bool.true_and, true_and, Nat.reduceAdd, Nat.reduceEqDiff, Nat.zero_add, Nat.le_refl, List.take_nil, Ty.td59]
    refine call_meets (m) (by simp only [aev, cv, cvc, toD_c, toD_agg, toD_sl, consO_some, toDL_nil, toDL_cons, Option.map_some] <;> rfl) ?_; simp only [awp_ret, seqQ_n, awpOps_nil, awpOps_one, awpOp_is, putK_is, put_s, upd_s, slot_is, retA_is, pureOp, apureO, killT, aev, cv, cvc, flat_c, ownsV_c, ownsV_agg, ownsV_sl, ownsL_nil, ownsL_cons, toD_c, notExit, resA_nil, resA_tmp, oneA_1, ↓reduceIte, List.append_nil, Bool.and_self, Bool.or_true, and_self, List.isEmpty_nil]
  case take =>
    have m := data_ (size := size) h
    show Meets Try.prog 55 _ _
    refine meets_of (X := false) Ty.mixed Try.func55 (by kernel_rfl) rfl (by kernel_rfl) (by simp) ?_; rw [Try.ntmps55, Try.results55]
    simp only [awp_reg, awp_seq, seqQ_n, awpOps_nil, awpOps_one, awpOp_is, isCallV, callW_is, callV_is, putK_is, updK_is, put_s, upd_s, slot_is, pureOp, apureO, astepO, killT, aev, cv, cvc, elO_s, loadA_p, cellsA, cellOk, argT, Bool.false_eq_true, ↓reduceIte, List.getElem?_cons_zero, List.length_cons, List.length_nil, List.map_cons, List.map_nil, List.nil_append, List.append_nil, List.take_succ_cons, List.drop_zero, Bool.true_and, true_and, reduceCtorEq, Nat.reduceAdd, Nat.reduceEqDiff, Nat.zero_add, Nat.le_refl, List.take_nil, Ty.td59]
    refine call_meets (m) (by simp only [aev, cv, cvc, toD_c, toD_agg, toD_sl, consO_some, toDL_nil, toDL_cons, Option.map_some] <;> rfl) ?_; simp only [awp_ret, seqQ_n, awpOps_nil, awpOps_one, awpOp_is, putK_is, put_s, upd_s, slot_is, retA_is, pureOp, apureO, killT, aev, cv, cvc, flat_c, ownsV_c, ownsV_agg, ownsV_sl, ownsL_nil, ownsL_cons, toD_c, notExit, resA_nil, resA_tmp, oneA_1, ↓reduceIte, List.append_nil, Bool.and_self, Bool.or_true, and_self, List.isEmpty_nil]
  case drop =>
    have m := data_ (size := size) h
    show Meets Try.prog 63 _ _
    refine meets_of (X := false) Ty.mixed Try.func63 (by kernel_rfl) rfl (by kernel_rfl) (by simp) ?_; rw [Try.ntmps63, Try.results63]
    simp only [awp_reg, awp_seq, seqQ_n, awpOps_nil, awpOps_one, awpOp_is, isCallV, callW_is, callV_is, putK_is, updK_is, put_s, upd_s, slot_is, pureOp, apureO, astepO, killT, aev, cv, cvc, binK, elO_s, loadA_p, cellsA, cellOk, argT, Bool.false_eq_true, ↓reduceIte, List.getElem?_cons_zero, List.length_cons, List.length_nil, List.map_cons, List.map_nil, List.nil_append, List.append_nil, List.take_succ_cons, List.drop_zero, Bool.true_and, true_and, ne_eq, not_false_eq_true, reduceCtorEq, Nat.reduceAdd, Nat.reduceEqDiff, Nat.zero_add, Nat.le_refl, List.take_nil, Ty.td3, Ty.td59]
    refine call_meets (m) (by simp only [aev, cv, cvc, toD_c, toD_agg, toD_sl, consO_some, toDL_nil, toDL_cons, Option.map_some] <;> rfl) ?_; simp only [awp_ret, seqQ_n, awpOps_nil, awpOps_one, awpOp_is, putK_is, put_s, upd_s, slot_is, retA_is, pureOp, apureO, killT, aev, cv, cvc, flat_c, ownsV_c, ownsV_agg, ownsV_sl, ownsL_nil, ownsL_cons, toD_c, notExit, resA_nil, resA_tmp, oneA_1, ↓reduceIte, List.append_nil, Bool.and_self, Bool.or_true, and_self, List.isEmpty_nil]
  case reverse =>
    obtain ⟨d, h1, h2⟩ := h
    have m1 := dim_ (size := size) h1
    have m := data_ (size := size) h2
    show Meets Try.prog 65 _ _
    refine meets_of (X := false) Ty.mixed Try.func65 (by kernel_rfl) rfl (by kernel_rfl) (by simp) ?_; rw [Try.ntmps65, Try.results65]
    simp only [awp_reg, awp_regD, awp_seq, seqQ_n, awpOps_nil, awpOps_one, awpOpsD_one, awpOp_is, isCallV, awpOpD_is, callWD_is, callVD_is, lastOnly_nil, lastOnly_cons, putK_is, updK_is, put_s, upd_s, slot_is, keepOp, pureOp, apureO, astepO, killT, aev, cv, cvc, elO_s, loadA_p, cellsA, cellOk, argT, Bool.false_eq_true, ↓reduceIte, List.getElem?_cons_zero, List.length_cons, List.length_nil, List.map_cons, List.map_nil, List.nil_append, List.append_nil, List.take_succ_cons, List.drop_zero, Bool.true_and, true_and, Nat.reduceAdd, Nat.reduceEqDiff, Nat.zero_add, Nat.le_refl, List.take_nil, Ty.td59]
    refine calld_meets (m1) (by simp only [aev, cv, cvc, toD_c, toD_agg, toD_sl, consO_some, toDL_nil, toDL_cons, Option.map_some] <;> rfl) (by simp only [aev, cv, cvc, flat_c, ownsV_c, ownsV_agg, ownsV_sl, ownsL_nil, ownsL_cons, List.append_nil, Bool.or_true, List.isEmpty_nil]) ?_; simp only [awpOpsD_one, isCallV, awpOpD_is, callWD_is, callVD_is, putK_is, put_s, slot_is, keepOp, pureOp, apureO, aev, cv, cvc, binK, Bool.false_eq_true, ↓reduceIte, List.map_cons, List.map_nil, List.append_nil, Bool.true_and, true_and, reduceCtorEq, Nat.reduceEqDiff]
    refine calld_meets (m) (by simp only [aev, cv, cvc, toD_c, toD_agg, toD_sl, consO_some, toDL_nil, toDL_cons, Option.map_some] <;> rfl) (by simp only [aev, cv, cvc, flat_c, ownsV_c, ownsV_agg, ownsV_sl, ownsL_nil, ownsL_cons, List.append_nil, Bool.or_true, List.isEmpty_nil]) ?_; simp only [awp_ret, seqQ_n, awpOpsD_nil, awpOpsD_one, awpOpD_is, putK_is, put_s, slot_is, retA_is, keepOp, pureOp, apureO, aev, cv, cvc, toD_c, notExit, resA_nil, resA_tmp, oneA_1, ↓reduceIte, Bool.and_self, and_self]
  case append =>
    obtain ⟨d, h1, h2⟩ := h
    have m1 := dim_ (size := size) h1
    show Meets Try.prog 68 _ _
    refine meets_of (X := false) Ty.mixed Try.func68 (by kernel_rfl) rfl (by kernel_rfl) (by simp) ?_; rw [Try.ntmps68, Try.results68]
    split at h2
    · rename_i hlt
      have m := data_ (size := size) h2
      simp only [awp_reg, awp_seq, seqQ_n, awpOps_nil, awpOps_one, awpOp_is, isCallV, callW_is, callV_is, putK_is, updK_is, put_s, upd_s, slot_is, pureOp, apureO, astepO, killT, aev, cv, cvc, elO_s, loadA_p, cellsA, cellOk, argT, Bool.false_eq_true, ↓reduceIte, List.getElem?_cons_zero, List.length_cons, List.length_nil, List.map_cons, List.map_nil, List.nil_append, List.append_nil, List.take_succ_cons, List.drop_zero, Bool.true_and, true_and, reduceCtorEq, Nat.reduceAdd, Nat.reduceEqDiff, Nat.zero_add, Nat.le_refl, List.take_nil, Ty.td59]
      refine call_meets (m1) (by simp only [aev, cv, cvc, toD_c, toD_agg, toD_sl, consO_some, toDL_nil, toDL_cons, Option.map_some, hlt] <;> rfl) ?_; simp only [awp_reg, awp_seq, awp_cond, seqQ_n, awpOps_nil, awpOps_one, awpOp_is, isCallV, callW_is, callV_is, putK_is, put_s, upd_s, slot_is, pureOp, apureO, killT, aev, cv, cvc, binK, elO_s, loadA_p, condA_t, flat_c, ownsV_c, ownsV_agg, ownsV_sl, ownsL_nil, ownsL_cons, Bool.false_eq_true, ↓reduceIte, List.getElem?_cons_zero, List.length_cons, List.length_nil, List.map_cons, List.map_nil, List.append_nil, List.take_succ_cons, List.drop_zero, Bool.true_and, Bool.or_true, true_and, reduceCtorEq, Nat.reduceAdd, Nat.reduceEqDiff, Nat.zero_add, List.isEmpty_nil, decide_true, Nat.le_refl, List.take_nil, Ty.td59, hlt]
      refine call_meets (m) (by simp only [aev, cv, cvc, toD_c, toD_agg, toD_sl, consO_some, toDL_nil, toDL_cons, Option.map_some] <;> rfl) ?_; simp only [awp_ret, seqQ_n, seqQ_r, awpOps_nil, awpOps_one, awpOp_is, putK_is, put_s, upd_s, slot_is, retA_is, pureOp, apureO, killT, aev, cv, cvc, flat_c, ownsV_c, ownsV_agg, ownsV_sl, ownsL_nil, ownsL_cons, toD_c, notExit, resA_nil, resA_tmp, oneA_1, ↓reduceIte, List.append_nil, Bool.and_self, Bool.or_true, and_self, List.isEmpty_nil]
    · rename_i hlt
      have m := data_ (size := size) h2
      simp only [awp_reg, awp_seq, seqQ_n, awpOps_nil, awpOps_one, awpOp_is, isCallV, callW_is, callV_is, putK_is, updK_is, put_s, upd_s, slot_is, pureOp, apureO, astepO, killT, aev, cv, cvc, elO_s, loadA_p, cellsA, cellOk, argT, Bool.false_eq_true, ↓reduceIte, List.getElem?_cons_zero, List.length_cons, List.length_nil, List.map_cons, List.map_nil, List.nil_append, List.append_nil, List.take_succ_cons, List.drop_zero, Bool.true_and, true_and, reduceCtorEq, Nat.reduceAdd, Nat.reduceEqDiff, Nat.zero_add, Nat.le_refl, List.take_nil, Ty.td59]
      refine call_meets (m1) (by simp only [aev, cv, cvc, toD_c, toD_agg, toD_sl, consO_some, toDL_nil, toDL_cons, Option.map_some, hlt] <;> rfl) ?_; simp only [awp_skip, awp_regD, awp_seq, awp_cond, seqQ_n, awpOps_nil, awpOps_one, awpOpsD_one, awpOp_is, isCallV, awpOpD_is, callWD_is, callVD_is, lastOnly_nil, lastOnly_cons, putK_is, put_s, upd_s, slot_is, keepOp, pureOp, apureO, killT, aev, cv, cvc, binK, elO_s, loadA_p, condA_f, flat_c, ownsV_c, ownsV_agg, ownsV_sl, ownsL_nil, ownsL_cons, Bool.false_eq_true, ↓reduceIte, List.getElem?_cons_zero, List.length_cons, List.length_nil, List.map_cons, List.map_nil, List.append_nil, List.take_succ_cons, List.drop_zero, Bool.true_and, Bool.or_true, true_and, reduceCtorEq, Nat.reduceAdd, Nat.reduceEqDiff, Nat.zero_add, List.isEmpty_nil, decide_false, Nat.le_refl, List.take_nil, Ty.td59, hlt]
      refine calld_meets (m1) (by simp only [aev, cv, cvc, toD_c, toD_agg, toD_sl, consO_some, toDL_nil, toDL_cons, Option.map_some] <;> rfl) (by simp only [aev, cv, cvc, flat_c, ownsV_c, ownsV_agg, ownsV_sl, ownsL_nil, ownsL_cons, List.append_nil, Bool.or_true, List.isEmpty_nil]) ?_; simp only [awpOpsD_one, isCallV, awpOpD_is, callWD_is, callVD_is, putK_is, put_s, slot_is, keepOp, pureOp, apureO, aev, cv, cvc, binK, Bool.false_eq_true, ↓reduceIte, List.map_cons, List.map_nil, List.append_nil, Bool.true_and, true_and, Nat.reduceEqDiff]
      refine calld_meets (m) (by simp only [aev, cv, cvc, toD_c, toD_agg, toD_sl, consO_some, toDL_nil, toDL_cons, Option.map_some] <;> rfl) (by simp only [aev, cv, cvc, flat_c, ownsV_c, ownsV_agg, ownsV_sl, ownsL_nil, ownsL_cons, List.append_nil, Bool.or_true, List.isEmpty_nil]) ?_; simp only [awp_ret, seqQ_n, awpOpsD_nil, awpOpsD_one, awpOpD_is, putK_is, put_s, slot_is, retA_is, keepOp, pureOp, apureO, aev, cv, cvc, toD_c, notExit, resA_nil, resA_tmp, oneA_1, ↓reduceIte, Bool.and_self, and_self]
  case transpose =>
    obtain ⟨d, h1, h2⟩ := h
    have m1 := dim_ (size := size) h1
    have m := data_ (size := size) h2
    show Meets Try.prog 70 _ _
    refine meets_of (X := false) Ty.mixed Try.func70 (by kernel_rfl) rfl (by kernel_rfl) (by simp) ?_; rw [Try.ntmps70, Try.results70]
    simp only [awp_reg, awp_regD, awp_seq, seqQ_n, awpOps_nil, awpOps_one, awpOpsD_one, awpOp_is, isCallV, awpOpD_is, callWD_is, callVD_is, lastOnly_nil, lastOnly_cons, putK_is, updK_is, put_s, upd_s, slot_is, keepOp, pureOp, apureO, astepO, killT, aev, cv, cvc, elO_s, loadA_p, cellsA, cellOk, argT, Bool.false_eq_true, ↓reduceIte, List.getElem?_cons_zero, List.length_cons, List.length_nil, List.map_cons, List.map_nil, List.nil_append, List.append_nil, List.take_succ_cons, List.drop_zero, Bool.true_and, true_and, reduceCtorEq, Nat.reduceAdd, Nat.reduceEqDiff, Nat.zero_add, Nat.le_refl, List.take_nil, Ty.td59]
    refine calld_meets (m1) (by simp only [aev, cv, cvc, toD_c, toD_agg, toD_sl, consO_some, toDL_nil, toDL_cons, Option.map_some] <;> rfl) (by simp only [aev, cv, cvc, flat_c, ownsV_c, ownsV_agg, ownsV_sl, ownsL_nil, ownsL_cons, List.append_nil, Bool.or_true, List.isEmpty_nil]) ?_; simp only [awpOpsD_one, isCallV, awpOpD_is, callWD_is, callVD_is, putK_is, put_s, slot_is, keepOp, pureOp, apureO, aev, cv, cvc, binK, Bool.false_eq_true, ↓reduceIte, List.map_cons, List.map_nil, List.append_nil, Bool.true_and, true_and, reduceCtorEq, Nat.reduceEqDiff]
    refine calld_meets (m) (by simp only [aev, cv, cvc, toD_c, toD_agg, toD_sl, consO_some, toDL_nil, toDL_cons, Option.map_some] <;> rfl) (by simp only [aev, cv, cvc, flat_c, ownsV_c, ownsV_agg, ownsV_sl, ownsL_nil, ownsL_cons, List.append_nil, Bool.or_true, List.isEmpty_nil]) ?_; simp only [awp_ret, seqQ_n, awpOpsD_nil, awpOpsD_one, awpOpD_is, putK_is, put_s, slot_is, retA_is, keepOp, pureOp, apureO, aev, cv, cvc, toD_c, notExit, resA_nil, resA_tmp, oneA_1, ↓reduceIte, Bool.and_self, and_self]
  case diagonal =>
    obtain ⟨d, h1, h2⟩ := h
    have m1 := dim_ (size := size) h1
    have m := data_ (size := size) h2
    show Meets Try.prog 72 _ _
    refine meets_of (X := false) Ty.mixed Try.func72 (by kernel_rfl) rfl (by kernel_rfl) (by simp) ?_; rw [Try.ntmps72, Try.results72]
    simp only [awp_reg, awp_regD, awp_seq, seqQ_n, awpOps_nil, awpOps_one, awpOpsD_one, awpOp_is, isCallV, awpOpD_is, callWD_is, callVD_is, lastOnly_nil, lastOnly_cons, putK_is, updK_is, put_s, upd_s, slot_is, keepOp, pureOp, apureO, astepO, killT, aev, cv, cvc, elO_s, loadA_p, cellsA, cellOk, argT, Bool.false_eq_true, ↓reduceIte, List.getElem?_cons_zero, List.length_cons, List.length_nil, List.map_cons, List.map_nil, List.nil_append, List.append_nil, List.take_succ_cons, List.drop_zero, Bool.true_and, true_and, reduceCtorEq, Nat.reduceAdd, Nat.reduceEqDiff, Nat.zero_add, Nat.le_refl, List.take_nil, Ty.td59]
    refine calld_meets (m1) (by simp only [aev, cv, cvc, toD_c, toD_agg, toD_sl, consO_some, toDL_nil, toDL_cons, Option.map_some] <;> rfl) (by simp only [aev, cv, cvc, flat_c, ownsV_c, ownsV_agg, ownsV_sl, ownsL_nil, ownsL_cons, List.append_nil, Bool.or_true, List.isEmpty_nil]) ?_; simp only [awpOpsD_one, isCallV, awpOpD_is, callWD_is, callVD_is, putK_is, put_s, slot_is, keepOp, pureOp, apureO, aev, cv, cvc, binK, Bool.false_eq_true, ↓reduceIte, List.map_cons, List.map_nil, List.append_nil, Bool.true_and, true_and, reduceCtorEq, Nat.reduceEqDiff]
    refine calld_meets (m) (by simp only [aev, cv, cvc, toD_c, toD_agg, toD_sl, consO_some, toDL_nil, toDL_cons, Option.map_some] <;> rfl) (by simp only [aev, cv, cvc, flat_c, ownsV_c, ownsV_agg, ownsV_sl, ownsL_nil, ownsL_cons, List.append_nil, Bool.or_true, List.isEmpty_nil]) ?_; simp only [awp_ret, seqQ_n, awpOpsD_nil, awpOpsD_one, awpOpD_is, putK_is, put_s, slot_is, retA_is, keepOp, pureOp, apureO, aev, cv, cvc, toD_c, notExit, resA_nil, resA_tmp, oneA_1, ↓reduceIte, Bool.and_self, and_self]
  case windows =>
    have m := data_ (size := size) h
    show Meets Try.prog 74 _ _
    refine meets_of (X := false) Ty.mixed Try.func74 (by kernel_rfl) rfl (by kernel_rfl) (by simp) ?_; rw [Try.ntmps74, Try.results74]
    simp only [awp_reg, awp_seq, seqQ_n, awpOps_nil, awpOps_one, awpOp_is, isCallV, callW_is, callV_is, putK_is, updK_is, put_s, upd_s, slot_is, pureOp, apureO, astepO, killT, aev, cv, cvc, binK, elO_s, loadA_p, cellsA, cellOk, argT, Bool.false_eq_true, ↓reduceIte, List.getElem?_cons_zero, List.length_cons, List.length_nil, List.map_cons, List.map_nil, List.nil_append, List.append_nil, List.take_succ_cons, List.drop_zero, Bool.true_and, true_and, reduceCtorEq, Nat.reduceAdd, Nat.reduceEqDiff, Nat.zero_add, Nat.le_refl, List.take_nil, Ty.td59]
    refine call_meets (m) (by simp only [aev, cv, cvc, toD_c, toD_agg, toD_sl, consO_some, toDL_nil, toDL_cons, Option.map_some] <;> rfl) ?_; simp only [awp_ret, seqQ_n, awpOps_nil, awpOps_one, awpOp_is, putK_is, put_s, upd_s, slot_is, retA_is, pureOp, apureO, killT, aev, cv, cvc, flat_c, ownsV_c, ownsV_agg, ownsV_sl, ownsL_nil, ownsL_cons, toD_c, notExit, resA_nil, resA_tmp, oneA_1, ↓reduceIte, List.append_nil, Bool.and_self, Bool.or_true, and_self, List.isEmpty_nil]
  case chunk =>
    have m := data_ (size := size) h
    show Meets Try.prog 76 _ _
    refine meets_of (X := false) Ty.mixed Try.func76 (by kernel_rfl) rfl (by kernel_rfl) (by simp) ?_; rw [Try.ntmps76, Try.results76]
    simp only [awp_reg, awp_seq, seqQ_n, awpOps_nil, awpOps_one, awpOp_is, isCallV, callW_is, callV_is, putK_is, updK_is, put_s, upd_s, slot_is, pureOp, apureO, astepO, killT, aev, cv, cvc, binK, elO_s, loadA_p, cellsA, cellOk, argT, Bool.false_eq_true, ↓reduceIte, List.getElem?_cons_zero, List.length_cons, List.length_nil, List.map_cons, List.map_nil, List.nil_append, List.append_nil, List.take_succ_cons, List.drop_zero, Bool.true_and, true_and, ne_eq, not_false_eq_true, reduceCtorEq, Nat.reduceAdd, Nat.reduceEqDiff, Nat.zero_add, Nat.le_refl, List.take_nil, Ty.td3, Ty.td59]
    refine call_meets (m) (by simp only [aev, cv, cvc, toD_c, toD_agg, toD_sl, consO_some, toDL_nil, toDL_cons, Option.map_some] <;> rfl) ?_; simp only [awp_ret, seqQ_n, awpOps_nil, awpOps_one, awpOp_is, putK_is, put_s, upd_s, slot_is, retA_is, pureOp, apureO, killT, aev, cv, cvc, flat_c, ownsV_c, ownsV_agg, ownsV_sl, ownsL_nil, ownsL_cons, toD_c, notExit, resA_nil, resA_tmp, oneA_1, ↓reduceIte, List.append_nil, Bool.and_self, Bool.or_true, and_self, List.isEmpty_nil]
  case index =>
    obtain ⟨t, d, h1, h2, h3⟩ := h
    have mi := inside_ (size := size) h1 h2
    have m1 := data_ (size := size) h1
    show Meets Try.prog 77 _ _
    refine meets_of (X := false) Ty.mixed Try.func77 (by kernel_rfl) rfl (by kernel_rfl) (by simp) ?_; rw [Try.ntmps77, Try.results77]
    cases hi : insideE t d with
    | true =>
      rw [if_pos hi] at h3
      have m := data_ (size := size) h3
      rw [hi] at mi
      simp only [awp_reg, awp_seq, seqQ_n, awpOps_nil, awpOps_one, awpOp_is, isCallV, callW_is, callV_is, putK_is, updK_is, put_s, upd_s, slot_is, pureOp, apureO, astepO, killT, aev, cv, cvc, elO_s, loadA_p, cellsA, cellOk, argT, Bool.false_eq_true, ↓reduceIte, List.getElem?_cons_zero, List.length_cons, List.length_nil, List.map_cons, List.map_nil, List.nil_append, List.append_nil, List.take_succ_cons, List.drop_zero, Bool.true_and, true_and, Nat.reduceAdd, Nat.reduceEqDiff, Nat.zero_add, Nat.le_refl, List.take_nil, Ty.td59]
      refine call_meets (mi) (by simp only [aev, cv, cvc, toD_c, toD_agg, toD_sl, consO_some, toDL_nil, toDL_cons, Option.map_some] <;> rfl) ?_; simp only [awp_skip, awp_regD, awp_seq, awp_cond, seqQ_n, awpOps_nil, awpOps_one, awpOpsD_one, awpOp_is, isCallV, awpOpD_is, callWD_is, callVD_is, lastOnly_nil, lastOnly_cons, putK_is, put_s, upd_s, slot_is, keepOp, pureOp, apureO, killT, aev, cv, cvc, elO_s, loadA_p, condA_f, flat_c, ownsV_c, ownsV_agg, ownsV_sl, ownsL_nil, ownsL_cons, Bool.false_eq_true, ↓reduceIte, List.getElem?_cons_zero, List.length_cons, List.length_nil, List.map_cons, List.map_nil, List.append_nil, List.take_succ_cons, List.drop_zero, Bool.true_and, Bool.or_true, Bool.not_true, true_and, Nat.reduceAdd, Nat.reduceEqDiff, Nat.zero_add, List.isEmpty_nil, Nat.le_refl, List.take_nil, Ty.td59]
      refine calld_meets (m1) (by simp only [aev, cv, cvc, toD_c, toD_agg, toD_sl, consO_some, toDL_nil, toDL_cons, Option.map_some] <;> rfl) (by simp only [aev, cv, cvc, flat_c, ownsV_c, ownsV_agg, ownsV_sl, ownsL_nil, ownsL_cons, List.append_nil, Bool.or_true, List.isEmpty_nil]) ?_; simp only [awpOpsD_one, isCallV, awpOpD_is, callWD_is, callVD_is, put_s, slot_is, keepOp, pureOp, aev, cv, cvc, Bool.false_eq_true, ↓reduceIte, List.map_cons, List.map_nil, List.append_nil, Nat.reduceEqDiff]
      refine calld_meets (m) (by simp only [aev, cv, cvc, toD_c, toD_agg, toD_sl, consO_some, toDL_nil, toDL_cons, Option.map_some] <;> rfl) (by simp only [aev, cv, cvc, flat_c, ownsV_c, ownsV_agg, ownsV_sl, ownsL_nil, ownsL_cons, List.append_nil, Bool.or_true, List.isEmpty_nil]) ?_; simp only [awp_ret, seqQ_n, awpOpsD_nil, awpOpsD_one, awpOpD_is, putK_is, put_s, slot_is, retA_is, keepOp, pureOp, apureO, aev, cv, cvc, toD_c, notExit, resA_nil, resA_tmp, oneA_1, ↓reduceIte, Bool.and_self, and_self]
    | false =>
      rw [if_neg (by simp [hi])] at h3
      cases h3
      rw [hi] at mi
      simp only [awp_reg, awp_seq, seqQ_n, awpOps_nil, awpOps_one, awpOp_is, isCallV, callW_is, callV_is, putK_is, updK_is, put_s, upd_s, slot_is, pureOp, apureO, astepO, killT, aev, cv, cvc, elO_s, loadA_p, cellsA, cellOk, argT, Bool.false_eq_true, ↓reduceIte, List.getElem?_cons_zero, List.length_cons, List.length_nil, List.map_cons, List.map_nil, List.nil_append, List.append_nil, List.take_succ_cons, List.drop_zero, Bool.true_and, true_and, Nat.reduceAdd, Nat.reduceEqDiff, Nat.zero_add, Nat.le_refl, List.take_nil, Ty.td59]
      refine call_meets (mi) (by simp only [aev, cv, cvc, toD_c, toD_agg, toD_sl, consO_some, toDL_nil, toDL_cons, Option.map_some] <;> rfl) ?_; simp only [awp_reg, awp_seq, awp_cond, awp_ret, seqQ_n, seqQ_r, awpOps_nil, awpOps_one, awpOp_is, putK_is, put_s, upd_s, slot_is, retA_is, pureOp, apureO, killT, aev, cv, cvc, condA_t, flat_c, ownsV_c, ownsV_agg, ownsV_sl, ownsL_nil, ownsL_cons, toD_c, notExit, resA_nil, resA_tmp, oneA_1, ↓reduceIte, List.append_nil, Bool.and_self, Bool.or_true, Bool.not_false, and_self, List.isEmpty_nil]
  case update =>
    obtain ⟨t, h1, h2⟩ := h
    have m1 := data_ (size := size) h1
    show Meets Try.prog 78 _ _
    refine meets_of (X := false) Ty.mixed Try.func78 (by kernel_rfl) rfl (by kernel_rfl) (by simp) ?_; rw [Try.ntmps78, Try.results78]
    split at h2
    · rename_i he
      subst he
      have m := data_ (size := size) h2
      simp only [awp_reg, awp_seq, seqQ_n, awpOps_nil, awpOps_one, awpOp_is, isCallV, callW_is, callV_is, putK_is, updK_is, put_s, upd_s, slot_is, pureOp, apureO, astepO, killT, aev, cv, cvc, elO_s, loadA_p, cellsA, cellOk, argT, Bool.false_eq_true, ↓reduceIte, List.getElem?_cons_zero, List.length_cons, List.length_nil, List.map_cons, List.map_nil, List.nil_append, List.append_nil, List.take_succ_cons, List.drop_zero, Bool.true_and, true_and, reduceCtorEq, Nat.reduceAdd, Nat.reduceEqDiff, Nat.zero_add, Nat.le_refl, List.take_nil, Ty.td59]
      refine call_meets (m1) (by simp only [aev, cv, cvc, toD_c, toD_agg, toD_sl, consO_some, toDL_nil, toDL_cons, Option.map_some] <;> rfl) ?_; simp only [awp_reg, awp_seq, awp_cond, seqQ_n, awpOps_nil, awpOps_one, awpOp_is, isCallV, callW_is, callV_is, putK_is, put_s, upd_s, slot_is, pureOp, apureO, killT, aev, cv, cvc, binK, elO_s, loadA_p, condA_t, flat_c, ownsV_c, ownsV_agg, ownsV_sl, ownsL_nil, ownsL_cons, Bool.false_eq_true, ↓reduceIte, List.getElem?_cons_zero, List.length_cons, List.length_nil, List.map_cons, List.map_nil, List.append_nil, List.take_succ_cons, List.drop_zero, Bool.true_and, Bool.or_true, true_and, Nat.reduceAdd, Nat.reduceEqDiff, Nat.zero_add, List.isEmpty_nil, Nat.le_refl, List.take_nil, Ty.td59, beq_self_eq_true]
      refine call_meets (m) (by simp only [aev, cv, cvc, toD_c, toD_agg, toD_sl, consO_some, toDL_nil, toDL_cons, Option.map_some] <;> rfl) ?_; simp only [awp_ret, seqQ_n, seqQ_r, awpOps_nil, awpOps_one, awpOp_is, putK_is, put_s, upd_s, slot_is, retA_is, pureOp, apureO, killT, aev, cv, cvc, flat_c, ownsV_c, ownsV_agg, ownsV_sl, ownsL_nil, ownsL_cons, toD_c, notExit, resA_nil, resA_tmp, oneA_1, ↓reduceIte, List.append_nil, Bool.and_self, Bool.or_true, and_self, List.isEmpty_nil]
    · rename_i he
      have m := data_ (size := size) h2
      simp only [awp_reg, awp_seq, seqQ_n, awpOps_nil, awpOps_one, awpOp_is, isCallV, callW_is, callV_is, putK_is, updK_is, put_s, upd_s, slot_is, pureOp, apureO, astepO, killT, aev, cv, cvc, elO_s, loadA_p, cellsA, cellOk, argT, Bool.false_eq_true, ↓reduceIte, List.getElem?_cons_zero, List.length_cons, List.length_nil, List.map_cons, List.map_nil, List.nil_append, List.append_nil, List.take_succ_cons, List.drop_zero, Bool.true_and, true_and, reduceCtorEq, Nat.reduceAdd, Nat.reduceEqDiff, Nat.zero_add, Nat.le_refl, List.take_nil, Ty.td59]
      refine call_meets (m1) (by simp only [aev, cv, cvc, toD_c, toD_agg, toD_sl, consO_some, toDL_nil, toDL_cons, Option.map_some, show (x == t) = false by simpa using he] <;> rfl) ?_; simp only [awp_skip, awp_reg, awp_seq, awp_cond, seqQ_n, awpOps_nil, awpOps_one, awpOp_is, isCallV, callW_is, callV_is, putK_is, put_s, upd_s, slot_is, pureOp, apureO, killT, aev, cv, cvc, binK, elO_s, loadA_p, condA_f, flat_c, ownsV_c, ownsV_agg, ownsV_sl, ownsL_nil, ownsL_cons, Bool.false_eq_true, ↓reduceIte, List.getElem?_cons_zero, List.length_cons, List.length_nil, List.map_cons, List.map_nil, List.append_nil, List.take_succ_cons, List.drop_zero, Bool.true_and, Bool.or_true, true_and, reduceCtorEq, Nat.reduceAdd, Nat.reduceEqDiff, Nat.zero_add, List.isEmpty_nil, Nat.le_refl, List.take_nil, Ty.td59, show (x == t) = false by simpa using he]
      refine call_meets (m) (by simp only [aev, cv, cvc, toD_c, toD_agg, toD_sl, consO_some, toDL_nil, toDL_cons, Option.map_some] <;> rfl) ?_; simp only [awp_ret, seqQ_n, awpOps_nil, awpOps_one, awpOp_is, putK_is, put_s, upd_s, slot_is, retA_is, pureOp, apureO, killT, aev, cv, cvc, flat_c, ownsV_c, ownsV_agg, ownsV_sl, ownsL_nil, ownsL_cons, toD_c, notExit, resA_nil, resA_tmp, oneA_1, ↓reduceIte, List.append_nil, Bool.and_self, Bool.or_true, and_self, List.isEmpty_nil]
  case pack =>
    have m := data_ (size := size) h
    show Meets Try.prog 79 _ _
    refine meets_of (X := false) Ty.mixed Try.func79 (by kernel_rfl) rfl (by kernel_rfl) (by simp) ?_; rw [Try.ntmps79, Try.results79]
    simp only [awp_reg, awp_seq, seqQ_n, awpOps_nil, awpOps_one, awpOp_is, isCallV, callW_is, callV_is, putK_is, updK_is, put_s, upd_s, slot_is, pureOp, apureO, astepO, killT, aev, cv, cvc, elO_s, loadA_p, cellsA, cellOk, argT, Bool.false_eq_true, ↓reduceIte, List.getElem?_cons_zero, List.length_cons, List.length_nil, List.map_cons, List.map_nil, List.nil_append, List.append_nil, List.take_succ_cons, List.drop_zero, Bool.true_and, true_and, reduceCtorEq, Nat.reduceAdd, Nat.reduceEqDiff, Nat.zero_add, Nat.le_refl, List.take_nil, Ty.td59]
    refine call_meets (m) (by simp only [aev, cv, cvc, toD_c, toD_agg, toD_sl, consO_some, toDL_nil, toDL_cons, Option.map_some] <;> rfl) ?_; simp only [awp_ret, seqQ_n, awpOps_nil, awpOps_one, awpOp_is, putK_is, put_s, upd_s, slot_is, retA_is, pureOp, apureO, killT, aev, cv, cvc, flat_c, ownsV_c, ownsV_agg, ownsV_sl, ownsL_nil, ownsL_cons, toD_c, notExit, resA_nil, resA_tmp, oneA_1, ↓reduceIte, List.append_nil, Bool.and_self, Bool.or_true, and_self, List.isEmpty_nil]
end Go.Proofs.Ytbmmemglkjeogaa.S4
