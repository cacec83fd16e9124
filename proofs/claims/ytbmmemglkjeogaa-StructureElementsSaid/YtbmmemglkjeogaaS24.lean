/- Structure: the law of elements. -/
import Derived.Test.YtbmmemglkjeogaaS21
import Derived.Test.YtbmmemglkjeogaaS22
import Derived.Test.YtbmmemglkjeogaaS23
namespace Go.Proofs.Ytbmmemglkjeogaa.S24
open Go Go.Proofs.Ytbmmemglkjeogaa.Eng Go.Proofs.Ytbmmemglkjeogaa Go.RowKit Go.Proofs.Ytbmmemglkjeogaa.A1 Go.Proofs.Ytbmmemglkjeogaa.A2 Go.Proofs.Ytbmmemglkjeogaa.A3 Go.Proofs.Ytbmmemglkjeogaa.A4 Go.Proofs.Ytbmmemglkjeogaa.A5 Go.Proofs.Ytbmmemglkjeogaa.S8 Go.Proofs.Ytbmmemglkjeogaa.S13 Go.Proofs.Ytbmmemglkjeogaa.S14
set_option linter.unusedSimpArgs false
set_option linter.unusedVariables false
set_option linter.unusedSectionVars false
set_option maxRecDepth 100000

theorem law (a : List Int) (i k v : Int) (hi : -2147483648 ≤ i ∧ i ≤ 2147483647) (hk : -2147483648 ≤ k ∧ k ≤ 2147483647) (hv : -2147483648 ≤ v ∧ v ≤ 2147483647) : Meets Try.prog 7 [ints a, .agg [.c (.int .i32 i), .c (.int .i32 k)], .c (.int .i32 v)] (B true) := by
  cases hlb : listB [a] with
  | false =>
    have hw := awake
    have hli := lists_ [a] (by simp)
    rw [hlb] at hli
    refine meets_of (X := true) Ty.mixed Try.func7 (by kernel_rfl) rfl (by kernel_rfl) (by simp) ?_; rw [Try.ntmps7, Try.results7]
    simp only [awp_reg, awp_seq, seqQ_n, awpOps_nil, awpOps_one, awpOp_is, isCallV, callW_is, callV_is, putK_is, updK_is, put_s, upd_s, slot_is, pureOp, apureO, astepO, killT, aev, cv, cvc, cellsA, cellOk, argT, Bool.false_eq_true, ↓reduceIte, List.length_nil, List.map_nil, List.nil_append, List.append_nil, Bool.true_and, true_and, reduceCtorEq, Nat.reduceAdd, Nat.zero_add]
    refine call_meets (hw) (by simp only [aev, cv, cvc, toDL_nil] <;> rfl) ?_; simp only [awp_skip, awp_reg, awp_seq, awp_cond, seqQ_n, awpOps_nil, awpOps_one, awpOp_is, isCallV, callW_is, callV_is, putK_is, updK_is, put_s, upd_s, slot_is, slot.eq_1, pureOp, apureO, astepO, bsEnd_is, killT, aev, cv, cvc, elO_s, cellsA, cellOk, setAll, fillA, condA_f, chunk, flat_c, isD_sl, isDL_nil, isDL_cons, ownsL_nil, Bool.false_eq_true, ↓reduceIte, List.length_cons, List.length_nil, List.map_cons, List.map_nil, List.cons_append, List.nil_append, List.append_nil, List.set_cons_zero, List.take_succ_cons, List.drop_zero, List.all_cons, List.all_nil, Bool.true_and, Bool.and_self, Bool.or_true, Bool.not_true, Value.oneCell', true_and, and_self, reduceCtorEq, Nat.reduceMul, Nat.reduceLT, Nat.reduceLeDiff, Nat.reduceMod, Nat.zero_add, List.isEmpty_nil, List.range_succ, List.range_zero, Nat.le_refl, List.take_nil, Ty.td22, Ty.td35]
    refine call_meets (hli) (by simp only [aev, cv, cvc, elemsA, toD_own, consO_some, toDL_nil, toDL_cons, ↓reduceIte, List.getElem?_cons_zero, List.getElem?_cons_succ, List.length_cons, List.length_nil, Option.map_some, List.take_succ_cons, Bool.and_self, and_self, Nat.zero_add, Nat.le_refl, List.take_nil] <;> rfl) ?_; simp only [awp_reg, awp_seq, awp_cond, awp_ret, seqQ_n, seqQ_r, awpOps_nil, awpOps_one, awpOp_is, putK_is, put_s, upd_s, slot_is, retA_is, pureOp, apureO, killT, aev, cv, cvc, condA_t, flat_c, ownsV_own, ownsL_nil, ownsL_cons, toD_c, notExit, resA_nil, resA_tmp, oneA_1, ↓reduceIte, List.append_nil, Bool.and_self, Bool.or_false, Bool.not_false, and_self, List.isEmpty_cons, or_false]
  | true =>
    by_cases i0 : 0 ≤ i
    · by_cases i1 : i < (a.length : Int)
      · by_cases k0 : 0 ≤ k
        · by_cases k1 : k < (a.length : Int)
          · by_cases e : i = k
            · exact S23.law_eq a i k v hi hk hv hlb i0 i1 k0 k1 e
            · exact S23.law_ne a i k v hi hk hv hlb i0 i1 k0 k1 e
          · exact S23.law_ge a i k v hi hk hv hlb i0 i1 k0 k1
        · exact S23.law_neg a i k v hi hk hv hlb i0 i1 k0
      · by_cases k0 : 0 ≤ k
        · by_cases k1 : k < (a.length : Int)
          · exact S22.law_in a i k v hi hk hv hlb i0 i1 k0 k1
          · exact S22.law_ge a i k v hi hk hv hlb i0 i1 k0 k1
        · exact S22.law_neg a i k v hi hk hv hlb i0 i1 k0
    · by_cases k0 : 0 ≤ k
      · by_cases k1 : k < (a.length : Int)
        · exact S21.law_in a i k v hi hk hv hlb i0 k0 k1
        · exact S21.law_ge a i k v hi hk hv hlb i0 k0 k1
      · exact S21.law_neg a i k v hi hk hv hlb i0 k0

theorem wf_i32 {n : Int} (h : (Lit.int .i32 n).wf = true) : -2147483648 ≤ n ∧ n ≤ 2147483647 := by
  simp [Lit.wf, IntKind.min, IntKind.max, IntKind.signed, IntKind.bits] at h
  omega
theorem end_ (W : World) {v0 : Value} (a : List Int) (h0 : RepD (fun b => b < W.heap.size) W (ints a) v0) (hl0 : a.length ≤ maxLen) (hw0 : ∀ z ∈ a, (Lit.int .i64 z).wf = true) (az : List Int) (hl : az.length = 2) (hw : ∀ z ∈ az, (Lit.int .i32 z).wf = true) (v : Int) (wv : (Lit.int .i32 v).wf = true) :
    Calls Try.prog 7 #[v0, .agg (az.map (Value.int .i32)).toArray, .int .i32 v] W fun e w' => e = .returned (.bool true) ∧ Below W.heap.size W w' := by
  match az, hl with
  | [i, k], _ =>
    exact law_of (law a i k v (wf_i32 (hw i (by simp))) (wf_i32 (hw k (by simp))) (wf_i32 wv)) (vs := [v0, _, _]) ⟨_, _, rfl, h0, _, _, rfl, ⟨_, rfl, ⟨_, _, rfl, rfl, _, _, rfl, rfl, rfl⟩, by simp [Value.oneCell']⟩, _, _, rfl, rfl, rfl⟩
end Go.Proofs.Ytbmmemglkjeogaa.S24
