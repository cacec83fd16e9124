/- Arrays: the law of the order of indices. -/
import Derived.Test.YtnoaknemndjpmaaDoorA10
namespace Go.Proofs.YtnoaknemndjpmaaDoor.A11
open Go Go.Proofs.YtnoaknemndjpmaaDoor.Eng Go.Proofs.YtnoaknemndjpmaaDoor Go.RowKit Go.Proofs.YtnoaknemndjpmaaDoor.A1 Go.Proofs.YtnoaknemndjpmaaDoor.A2 Go.Proofs.YtnoaknemndjpmaaDoor.A5 Go.Proofs.YtnoaknemndjpmaaDoor.A7 Go.Proofs.YtnoaknemndjpmaaDoor.A8 Go.Proofs.YtnoaknemndjpmaaDoor.A10
set_option linter.unusedSimpArgs false
set_option linter.unusedVariables false
set_option maxRecDepth 100000

theorem sizeAny (zs : List Int) : Meets Tryd.prog 10 [ints zs] (two (sizeE zs)) := by
  by_cases h : 6 < zs.length
  · unfold sizeE
    rw [if_pos h]
    refine meets_of Ty.mixed Tryd.func10 (by kernel_rfl) rfl (by kernel_rfl) (by simp) ?_; rw [Tryd.ntmps10, Tryd.results10]
    simp only [awp_reg, awp_seq, awp_cond, awp_ret, seqQ_n, seqQ_r, awpOps_nil, awpOps_one, awpOp_is, putK_is, put_s, slot_is, retA_is, pureOp, apureO, aev, cv, cvc, binK, elO_s, lenA, lenK, condA_t, toD_c, toD_tup, consO_some, toDL_nil, toDL_cons, notExit, resA_nil, resA_tmp, oneA_2, argT, ↓reduceIte, Option.map_some, Bool.and_true, Bool.true_and, Bool.and_self, true_and, and_true, and_self, reduceCtorEq, Nat.reduceEqDiff, Option.isSome_some, decide_true, Ty.td22, List.length_map, show (6 : Int) < (zs.length : Int) by omega]
  · exact size zs (by omega)

theorem val_step {ds xs : List Int} {k : Nat} (h1 : k < ds.length) (h2 : k < xs.length) : val (ds.drop k) (xs.drop k) = xs[k] * prod (ds.drop (k + 1)) + val (ds.drop (k + 1)) (xs.drop (k + 1)) := by
  rw [List.drop_eq_getElem_cons h1, List.drop_eq_getElem_cons h2, val]

theorem fine_drop {ds : List Int} (h : fine ds) (k : Nat) : fine (ds.drop k) := fun d hd => h d (List.mem_of_mem_drop hd)

theorem law (ds : List Int) (a b : Int) (ha0 : 0 ≤ a) (ha : a ≤ 65535) (hb0 : 0 ≤ b) (hb : b ≤ 65535) (hd : ds.length ≤ maxLen) : Meets Tryd.prog 7 [ints ds, .c (.int .u16 a), .c (.int .u16 b)] (B true) := by
  have haw := awake
  have hs := sizeAny ds
  have hpl := @places ds
  have hsf := @size_fine ds
  refine meets_of Ty.mixed Tryd.func7 (by kernel_rfl) rfl (by kernel_rfl) (by simp) ?_; rw [Tryd.ntmps7, Tryd.results7]
  generalize sizeE ds = s at *
  obtain ⟨n, e⟩ := s
  simp only [awp_reg, awp_seq, seqQ_n, awpOps_nil, awpOps_one, awpOp_is, isCallV, callW_is, callV_is, putK_is, put_s, pureOp, apureO, aev, cv, cvc, argT, Bool.false_eq_true, ↓reduceIte, List.map_nil, List.append_nil, Nat.reduceAdd, Nat.zero_add]
  refine call_meets (haw) (by simp only [aev, cv, cvc, toDL_nil]) ?_; simp only [awp_skip, awp_reg, awp_seq, awp_cond, seqQ_n, awpOps_nil, awpOps_one, awpOp_is, isCallV, callW_is, callV_is, putK_is, put_s, upd_s, slot_is, pureOp, apureO, killT, aev, cv, cvc, condA_f, flat_c, ownsL_nil, Bool.false_eq_true, ↓reduceIte, List.map_cons, List.map_nil, List.append_nil, Bool.or_true, Bool.not_true, reduceCtorEq, List.isEmpty_nil]
  by_cases h1 : (8 : Int) < ds.length
  · refine call_meets (hs) (by simp only [aev, cv, cvc, toD_sl, consO_some, toDL_nil, toDL_cons, h1]) ?_; simp only [awp_reg, awp_seq, awp_cond, awp_ret, seqQ_n, seqQ_r, awpOps_nil, awpOps_one, awpOps_if, awpOp_is, putK_is, put_s, upd_s, slot_is, retA_is, pureOp, apureO, killT, aev, cv, cvc, binK, elO_s, lenA, lenK, yieldA, guardA_ft, condA_t, pickA_t, flat_c, flat_tup, flatL_nil, flatL_cons, ownsV_sl, ownsL_nil, ownsL_cons, toD_c, notExit, resA_nil, resA_tmp, oneA_1, ↓reduceIte, List.getElem?_cons_zero, List.getElem?_cons_succ, List.append_nil, List.getElem?_toArray, Option.bind_some, Bool.and_true, Bool.true_and, Bool.and_self, Bool.or_true, true_and, and_true, and_self, reduceCtorEq, Nat.reduceEqDiff, List.isEmpty_nil, Option.isSome_some, decide_true, Ty.td22, List.length_map, h1]
  by_cases he : e = 0
  case neg => refine call_meets (hs) (by simp only [aev, cv, cvc, toD_sl, consO_some, toDL_nil, toDL_cons, h1, show (e != 0) = true by simpa using he]) ?_; simp only [awp_reg, awp_seq, awp_cond, awp_ret, seqQ_n, seqQ_r, awpOps_nil, awpOps_one, awpOps_if, awpOp_is, awpO_is, putK_is, put_s, upd_s, slot_is, retA_is, pureOp, apureO, killT, aev, cv, cvc, binK, elO_s, lenA, lenK, yieldA, guardA_ft, guardA_ff, condA_t, pickA_t, pickA_f, flat_c, flat_tup, flatL_nil, flatL_cons, ownsV_sl, ownsL_nil, ownsL_cons, toD_c, notExit, resA_nil, resA_tmp, oneA_1, ↓reduceIte, List.getElem?_cons_zero, List.getElem?_cons_succ, List.append_nil, List.getElem?_toArray, Option.bind_some, Bool.and_true, Bool.true_and, Bool.and_self, Bool.or_true, true_and, and_true, and_self, reduceCtorEq, Nat.reduceEqDiff, List.isEmpty_nil, Option.isSome_some, decide_false, Ty.td22, List.length_map, h1, show (e != 0) = true by simpa using he]
  subst he
  by_cases hn : n = 0
  · subst hn
    refine call_meets (hs) (by simp only [aev, cv, cvc, toD_sl, consO_some, toDL_nil, toDL_cons, h1]) ?_; simp only [awp_reg, awp_seq, awp_cond, awp_ret, seqQ_n, seqQ_r, awpOps_nil, awpOps_one, awpOps_if, awpOp_is, awpO_is, putK_is, put_s, upd_s, slot_is, retA_is, pureOp, apureO, killT, aev, cv, cvc, binK, elO_s, lenA, lenK, yieldA, guardA_ff, condA_t, pickA_f, flat_c, flat_tup, flatL_nil, flatL_cons, ownsV_sl, ownsL_nil, ownsL_cons, toD_c, notExit, resA_nil, resA_tmp, oneA_1, ↓reduceIte, List.getElem?_cons_zero, List.getElem?_cons_succ, List.append_nil, List.getElem?_toArray, Option.bind_some, Bool.and_true, Bool.true_and, Bool.and_self, Bool.or_true, true_and, and_true, and_self, reduceCtorEq, Nat.reduceEqDiff, List.isEmpty_nil, Option.isSome_some, decide_false, Ty.td22, List.length_map, h1, bne_self_eq_false, beq_self_eq_true]
  have hn' : (n == 0) = false := by simpa using hn
  obtain ⟨hf, hnp, h6, hn4, hn1⟩ := hsf rfl hn
  have p0 : 0 ≤ a.tmod n := Int.tmod_nonneg _ ha0
  have p1 : a.tmod n < n := Int.tmod_lt_of_pos _ (by omega)
  have q0 : 0 ≤ b.tmod n := Int.tmod_nonneg _ hb0
  have q1 : b.tmod n < n := Int.tmod_lt_of_pos _ (by omega)
  obtain ⟨x1, x2, x3, x4⟩ := hpl rfl p0 p1
  obtain ⟨y1, y2, y3, _⟩ := hpl rfl q0 q1
  have i1 := index ds (a.tmod n) (by omega)
  have i2 := index ds (b.tmod n) (by omega)
  rw [x1] at i1
  rw [y1] at i2
  have hxl := inR_len x2
  have hyl := inR_len y2
  have o1 := offset ds (idxR ds (a.tmod n)).1 (by omega) (by omega)
  rw [x4] at o1
  clear x1 y1 x4 hpl hsf
  refine call_meets (hs) (by simp only [aev, cv, cvc, toD_sl, consO_some, toDL_nil, toDL_cons, h1, hn', wrap_in (x := a) (by omega) (by omega), wrap_in (x := b) (by omega) (by omega), hn]) ?_; simp only [awp_skip, awp_reg, awp_regD, awp_seq, awp_cond, seqQ_n, awpOps_nil, awpOps_one, awpOps_if, awpOpsD_nil, awpOpsD_one, awpOp_is, isCallV, callW_is, callV_is, awpOpD_is, awpO_is, putK_is, updD_is, put_s, upd_s, slot_is, keepOp, pureOp, apureO, astepO, convA_c, killT, aev, cv, cvc, binK, elO_s, lenA, lenK, yieldA, guardA_ff, condA_f, pickA_f, flat_c, flat_tup, flatL_nil, flatL_cons, ownsV_sl, ownsL_nil, ownsL_cons, Bool.false_eq_true, ↓reduceIte, List.getElem?_cons_zero, List.getElem?_cons_succ, List.map_cons, List.map_nil, List.append_nil, List.getElem?_toArray, Option.bind_some, Bool.true_and, Bool.and_self, Bool.or_true, true_and, and_self, ne_eq, not_false_eq_true, reduceCtorEq, Nat.reduceEqDiff, List.isEmpty_nil, Option.isSome_some, Option.isSome_none, decide_false, Ty.td3, Ty.td22, Ty.td47, List.length_map, h1, bne_self_eq_false, hn', wrap_in (x := a) (by omega) (by omega), wrap_in (x := b) (by omega) (by omega), hn]
  generalize (idxR ds (a.tmod n)).1 = x at *
  generalize (idxR ds (b.tmod n)).1 = y at *
  generalize a.tmod n = p at *
  generalize b.tmod n = q at *
  refine call_meets (i1) (by simp only [aev, cv, cvc, toD_c, toD_sl, consO_some, toDL_nil, toDL_cons]) ?_; simp only [awp_reg, awp_seq, seqQ_n, awpOps_nil, awpOps_one, awpOp_is, isCallV, callW_is, callV_is, putK_is, put_s, upd_s, slot_is, pureOp, apureO, killT, aev, cv, cvc, elO_s, flat_c, flat_tup, flat_sl, flatL_nil, flatL_cons, ownsV_c, ownsV_sl, ownsL_nil, ownsL_cons, Bool.false_eq_true, ↓reduceIte, List.getElem?_cons_zero, List.getElem?_cons_succ, List.map_cons, List.map_nil, List.append_nil, Bool.and_true, Bool.and_self, Bool.or_true, and_true, and_self, reduceCtorEq, Nat.reduceEqDiff, List.isEmpty_nil]
  refine call_meets (i2) (by simp only [aev, cv, cvc, toD_c, toD_sl, consO_some, toDL_nil, toDL_cons]) ?_; simp only [awp_reg, awp_seq, seqQ_n, awpOps_nil, awpOps_one, awpOp_is, isCallV, callW_is, callV_is, putK_is, put_s, upd_s, slot_is, pureOp, apureO, killT, aev, cv, cvc, elO_s, flat_c, flat_tup, flat_sl, flatL_nil, flatL_cons, ownsV_c, ownsV_sl, ownsL_nil, ownsL_cons, Bool.false_eq_true, ↓reduceIte, List.getElem?_cons_zero, List.getElem?_cons_succ, List.map_cons, List.map_nil, List.append_nil, Bool.and_true, Bool.and_self, Bool.or_true, and_true, and_self, reduceCtorEq, Nat.reduceEqDiff, List.isEmpty_nil]
  refine call_meets (o1) (by simp only [aev, cv, cvc, toD_sl, consO_some, toDL_nil, toDL_cons, hxl, hyl]) ?_; simp only [awp_skip, awp_reg, awp_seq, awp_cond, awp_block, awp_loop, seqQ_n, awpOps_nil, awpOps_one, awpOps_if, awpOp_is, awpO_is, putK_is, put_s, upd_s, slot_is, pureOp, apureO, killT, aev, cv, cvc, binK, elO_s, lenA, lenK, yieldA, guardA_ff, condA_f, pickA_f, flat_c, flat_tup, flatL_nil, flatL_cons, ownsV_sl, ownsL_nil, ownsL_cons, ↓reduceIte, List.getElem?_cons_zero, List.getElem?_cons_succ, List.append_nil, List.getElem?_toArray, Option.bind_some, Bool.true_and, Bool.and_self, Bool.or_true, true_and, and_self, reduceCtorEq, Nat.reduceEqDiff, List.isEmpty_nil, Option.isSome_some, Ty.td22, bne_self_eq_false, List.length_map, hxl, hyl]
  refine loop_k (fun k : Nat => k ≤ ds.length ∧ p - q = val (ds.drop k) (x.drop k) - val (ds.drop k) (y.drop k)) (fun k => ⟨122, [(93, I k), (92, I ds.length), (11, ints x), (13, ints y), (9, I p), (10, I q)], []⟩) (fun k => ds.length - k) 0 ⟨Nat.zero_le _, by rw [List.drop_zero, List.drop_zero, List.drop_zero, x3, y3]⟩ (by simp only [slot_is, aev, cv, cvc, Weak, ↓reduceIte, Bool.and_true, Bool.and_self, and_true, and_self, Nat.reduceEqDiff]; simp) rfl rfl ?_
  rintro k ⟨hk, hi⟩ K hK
  simp only at hK
  simp only [awp_reg, awp_seq, awp_cond, seqQ_n, awpOps_nil, awpOps_one, awpOp_is, putK_is, put_s, slot_is, pureOp, apureO, aev, cv, cvc, binK, ↓reduceIte, Bool.true_and, true_and, Nat.reduceEqDiff]
  refine condA_dec (fun hlt => ?_) (fun hge => ?_)
  · have g0 : k < ds.length := by omega
    have g1 : k < x.length := by omega
    have g2 : k < y.length := by omega
    have hx : x[k]? = some x[k] := List.getElem?_eq_getElem g1
    have hy : y[k]? = some y[k] := List.getElem?_eq_getElem g2
    have hvl := @val_lt ds[k] x[k] y[k] (ds.drop (k + 1)) (x.drop (k + 1)) (y.drop (k + 1))
    rw [← List.drop_eq_getElem_cons g0, ← List.drop_eq_getElem_cons g1, ← List.drop_eq_getElem_cons g2] at hvl
    have hvl := hvl (fine_drop hf k) (inR_drop k x2) (inR_drop k y2)
    have hsx := val_step g0 g1
    have hsy := val_step g0 g2
    generalize x[k] = u at *
    generalize y[k] = v at *
    by_cases hne : u = v
    · subst hne
      simp only [awp_skip, awp_reg, awp_regD, awp_seq, awp_cond, awp_block, seqQ_n, loopQ_n, blkQ_n, awpOps_nil, awpOps_one, awpOpsD_nil, awpOpsD_one, awpOp_is, awpOpD_is, putK_is, put_s, slot_is, keepOp, pureOp, apureO, aev, cv, cvc, binK, elO_s, loadA_d, condA_f, Int.natCast_nonneg, Bool.false_eq_true, ↓reduceIte, List.getElem?_cons_zero, Option.map_some, Bool.true_and, true_and, Nat.reduceEqDiff, Int.toNat_natCast, Ty.td3, Ty.td22, List.getElem?_map, hx, hy, bne_self_eq_false, wrap_in (x := (k : Int) + 1) (by omega) (by omega)]
      refine hK (k + 1) _ ⟨g0, by omega⟩ (by omega) ?_ rfl rfl
      simp only [slot_is, aev, cv, cvc, Weak, ↓reduceIte, Bool.and_true, Bool.and_self, and_true, and_self, Nat.reduceEqDiff]
      simp
    · have hd2 : (decide (u < v) == decide (p < q)) = true := by
        rw [beq_iff_eq]
        refine decide_eq_decide.2 ⟨fun h => ?_, fun h => (hvl hne).1 (by omega)⟩
        have := (hvl hne).2 h
        omega
      simp only [awp_skip, awp_reg, awp_regD, awp_seq, awp_cond, awp_block, awp_ret, seqQ_n, seqQ_r, loopQ_r, blkQ_r, awpOps_nil, awpOps_one, awpOpsD_nil, awpOpsD_one, awpOp_is, awpOpD_is, putK_is, put_s, slot_is, retA_is, keepOp, pureOp, apureO, aev, cv, cvc, binK, elO_s, loadA_d, condA_t, toD_c, notExit, resA_nil, resA_tmp, oneA_1, Int.natCast_nonneg, Bool.false_eq_true, ↓reduceIte, List.getElem?_cons_zero, Option.map_some, Bool.and_true, Bool.true_and, Bool.and_self, true_and, and_true, and_self, Nat.reduceEqDiff, Int.toNat_natCast, Ty.td3, Ty.td4, Ty.td22, List.getElem?_map, hx, hy, show (u != v) = true by simpa using hne, hd2]
  · have hk' : k = ds.length := by omega
    have hd0 : ds.drop k = [] := by rw [hk', List.drop_length]
    rw [hd0] at hi
    have hpq : p = q := by
      have e1 : ∀ l : List Int, val [] l = 0 := fun l => by cases l <;> rfl
      rw [e1, e1] at hi
      omega
    simp only [awp_reg, awp_seq, awp_exit, awp_ret, seqQ_n, seqQ_e, loopQ_e, blkQ_e, awpOps_nil, awpOps_one, awpOp_is, putK_is, put_s, slot_is, retA_is, pureOp, apureO, aev, cv, cvc, binK, toD_c, notExit, resA_nil, resA_tmp, oneA_1, ↓reduceIte, Bool.and_self, and_self, Nat.reduceEqDiff, hpq, beq_self_eq_true]

theorem wf_u16 {k : Int} (h : (Lit.int .u16 k).wf = true) : 0 ≤ k ∧ k ≤ 65535 := by simpa [Lit.wf, IntKind.min, IntKind.max, IntKind.signed, IntKind.bits] using h

theorem end_ (W : World) (_ : True) {v0 : Value} (ds : List Int) (h0 : RepD (fun b => b < W.heap.size) W (ints ds) v0) (hd : ds.length ≤ maxLen) (_ : ∀ z ∈ ds, (Lit.int .i64 z).wf = true) (a : Int) (ha : (Lit.int .u16 a).wf = true) (b : Int) (hb : (Lit.int .u16 b).wf = true) :
    Calls Tryd.prog 7 #[v0, .int .u16 a, .int .u16 b] W fun e w' => e = .returned (.bool true) ∧ Below W.heap.size W w' :=
  law_of (law ds a b (wf_u16 ha).1 (wf_u16 ha).2 (wf_u16 hb).1 (wf_u16 hb).2 hd) (vs := [v0, .int .u16 a, .int .u16 b]) ⟨_, _, rfl, h0, _, _, rfl, rfl, _, _, rfl, rfl, rfl⟩
end Go.Proofs.YtnoaknemndjpmaaDoor.A11
