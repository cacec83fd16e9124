/- Linear expressions: items of both kinds; parsing in the program. -/
import Derived.Test.YtjgaebomcdkohaaGreatDoorL9
namespace Go.Proofs.YtjgaebomcdkohaaGreatDoor.L10
open Go Go.Proofs.YtjgaebomcdkohaaGreatDoor.Eng Go.Proofs.YtjgaebomcdkohaaGreatDoor Go.RowKit Go.Proofs.YtjgaebomcdkohaaGreatDoor.L1 Go.Proofs.YtjgaebomcdkohaaGreatDoor.L2 Go.Proofs.YtjgaebomcdkohaaGreatDoor.L3 Go.Proofs.YtjgaebomcdkohaaGreatDoor.L4 Go.Proofs.YtjgaebomcdkohaaGreatDoor.L5 Go.Proofs.YtjgaebomcdkohaaGreatDoor.L6 Go.Proofs.YtjgaebomcdkohaaGreatDoor.L7 Go.Proofs.YtjgaebomcdkohaaGreatDoor.L8 Go.Proofs.YtjgaebomcdkohaaGreatDoor.L9
set_option linter.unusedSimpArgs false
set_option linter.unusedVariables false
set_option linter.unusedSectionVars false
set_option maxRecDepth 100000

instance (l : List UInt8) : Decidable (condN l) := by unfold condN; infer_instance
theorem condN_itemE (sg : Int) (l : List UInt8) (st : Int × List Tm) : itemE sg l st = if condN l then (varE l).map fun p => (trimE p.2, addS sg 0 (oneV p.1) st) else (itemN sg l st).map fun p => (trimE p.1, p.2) := by
  by_cases hc : condN l
  · rw [if_pos hc]
    exact if_pos hc
  · rw [if_neg hc]
    refine (if_neg hc).trans ?_
    unfold itemN
    cases varE (l.drop (spanN digI l)) with
    | some p => rfl
    | none =>
      simp only
      by_cases h42 : hd (trimE (l.drop (spanN digI l))) = 42
      · rw [if_pos h42, if_pos h42]
        cases varE (trimE ((trimE (l.drop (spanN digI l))).drop 1)) <;> rfl
      · rw [if_neg h42, if_neg h42]
        rfl
theorem itemN_len {sg : Int} {l : List UInt8} {st : Int × List Tm} {q : List UInt8 × (Int × List Tm)} {n : Nat} (hl : l.length ≤ n) (h : itemN sg l st = some q) : q.1.length ≤ n := by
  unfold itemN at h
  have h1 : (l.drop (spanN digI l)).length ≤ n := by simp; omega
  have h2 := trimE_len (l.drop (spanN digI l))
  have h3 := trimE_len ((trimE (l.drop (spanN digI l))).drop 1)
  have h4 : ((trimE (l.drop (spanN digI l))).drop 1).length ≤ n := by simp; omega
  cases hv : varE (l.drop (spanN digI l)) with
  | some p =>
    rw [hv] at h
    cases h
    have := (varE_len hv).2
    simp only
    omega
  | none =>
    rw [hv] at h
    simp only at h
    split at h
    · cases hv2 : varE (trimE ((trimE (l.drop (spanN digI l))).drop 1)) with
      | none => rw [hv2] at h; cases h
      | some p =>
        rw [hv2] at h
        cases h
        have := (varE_len hv2).2
        simp only
        omega
    · cases h
      simp only
      omega
section
variable {h : Heap} {r s m : Nat} {l : List UInt8} {sg c : Int} {cs : List Tm} (p : Pos h r s m)
include p
theorem H3_app (ex : Heap) : H3 h r s m l sg c cs ++ ex = H3 (h ++ ex) r s m l sg c cs := by
  unfold H3 H2
  rw [List.set_append_left _ _ p.hs, List.set_append_left _ _ (by simpa using p.hm), List.set_append_left _ _ (by simpa using p.hr)]
theorem pos_app (ex : Heap) : Pos (h ++ ex) r s m := ⟨by simp; have := p.hr; omega, by simp; have := p.hs; omega, by simp; have := p.hm; omega, p.rs, p.rm, p.sm⟩
end

section
variable {n : Nat} {t : List (Nat × AV)} {h : Heap} {d : Tmp} {r s m : Nat} {K : AS → Prop} {sg c : Int} {cs : List Tm} (p : Pos h r s m) (ht : refsT h.length t = true) (hh : refsH h.length h = true)
include p ht hh
theorem item_ (hA : AtoiOk) (l : List UInt8) (hl : l.length ≤ 1000000) (hT : ∀ q, itemE sg l (c, cs) = some q → K ⟨n, (d, B true) :: t, H3 h r s m q.1 sg q.2.1 q.2.2⟩)
    (hF : itemE sg l (c, cs) = none → ∀ l' c' cs', K ⟨n, (d, B false) :: t, H3 h r s m l' sg c' cs'⟩) :
    CallS Tryz.prog ⟨n, t, H3 h r s m l sg c cs⟩ (some d) 61 [.ptr r 0] K := by
  have gr : ∀ l sg c cs, (H3 h r s m l sg c cs)[r]? = some (readB l sg s) := fun l sg c cs => H3_r p
  refine call_weak ?_
  refine call_inl (X := false) Ty.mixed Tryz.func61 (by kernel_rfl) rfl (by kernel_rfl) (by simp) ?_; rw [Tryz.ntmps61, Tryz.results61]; simp only [awp_reg, awp_seq, seqQ_n, awpOps_nil, awpOps_one, awpOp_is, isCallV, putK_is, put_s, slot_is, pureOp, apureO, astepO, bsEnd_is, aev, cv, cvc, elO_s, cellsA, cellOk, setAll, fillA, isD_c, isD_ptr, isDL_nil, isDL_cons, toD_ptr, toDL_nil, toDL_cons, argT, isC, mkfA_mv, isD_mv, toD_mv, bsD, Bool.false_eq_true, ↓reduceIte, List.length_cons, List.length_nil, List.map_cons, List.map_nil, List.cons_append, List.nil_append, List.set_cons_zero, List.set_cons_succ, List.all_cons, List.all_nil, Bool.and_true, Bool.true_and, Bool.and_false, Bool.and_self, Value.oneCell', true_and, and_true, and_self, reduceCtorEq, Nat.reduceAdd, Nat.reduceMul, Nat.reduceLT, Nat.reduceLeDiff, Nat.reduceEqDiff, Nat.reduceMod, Nat.zero_add, List.range_succ, List.range_zero, Nat.le_refl, Ty.td25, Ty.td120, gr]
  simp only [gr, isDL, isD, Option.map_none, consO, Bool.false_eq_true, Bool.and_false, if_false, bsF0_n]
  simp only [awp_block, awp_loop, seqQ_n, awpOps_nil, awpOps_one, awpOp_is, putK_is, updK_is, put_s, upd_s, slot_is, pureOp, apureO, killT, aev, cv, cvc, elO_s, lenA, lenK, mlenA_own, isC, bsD, ↓reduceIte, Bool.true_and, true_and, Option.isSome_some, Ty.td120, H3_len, gr]
  have hr1 : r < h.length + 1 := by have := p.hr; omega
  obtain ⟨blk, hblk⟩ : ∃ b : Option Blk, b = (some (Blk.var 25 [AV.mv 92 [.ptr r 0], AV.mv 93 [.ptr r 0]])) := ⟨_, rfl⟩
  have p' : Pos (h ++ [blk]) r s m := pos_app p _
  have hh' : refsH (h ++ [blk]).length (h ++ [blk]) = true := by
    rw [List.length_append]
    exact refsH_app (refsH_mono (Nat.le_succ _) hh) (by simp [hblk, refsH, refsL, refsV, hr1])
  have gr' : ∀ l sg c cs, (H3 (h ++ [blk]) r s m l sg c cs)[r]? = some (readB l sg s) := fun l sg c cs => H3_r p'
  have gb : ∀ l sg c cs, (H3 (h ++ [blk]) r s m l sg c cs)[h.length]? = some (some (Blk.var 25 [AV.mv 92 [.ptr r 0], AV.mv 93 [.ptr r 0]])) := fun l sg c cs => by
    rw [← hblk]
    rw [← H3_app p]
    have := app_end (h := H3 h r s m l sg c cs) blk []
    rwa [H3_len] at this
  have fin : ∀ (v : AV) l' c' cs', K ⟨n, (d, v) :: t, H3 h r s m l' sg c' cs'⟩ → refsV h.length v = true → ∃ σ'', WeakO ((d, v) :: t) σ''.t ∧ n = σ''.n ∧ HW (H3 (h ++ [blk]) r s m l' sg c' cs') σ'' ∧ K σ'' := fun v l' c' cs' hk hv =>
    ⟨_, weakO_refl _, rfl, by rw [← H3_app p]; exact hw_app (by rw [H3_len, refsT_cons, hv, ht]; rfl) (by rw [H3_len]; exact H3_refs p hh), hk⟩
  have hI := condN_itemE sg l (c, cs)
  refine loop_s 20 t (fun a : Nat × List UInt8 × Int × List Tm => (a.1 = 0 ∧ a.2 = (l, c, cs)) ∨ (a.1 = 1 ∧ ((condN l ∧ a.2 = (l, c, cs)) ∨ (itemE sg l (c, cs) = none ∧ varE a.2.1 = none ∧ a.2.1.length ≤ 1000000))) ∨ (a.1 = 2 ∧ itemE sg l (c, cs) = none)) (fun a => [(11, I a.1), (10, I (2 : Nat)), (9, .own h.length 1 2), (0, .ptr r 0)]) (fun a => H3 (h ++ [blk]) r s m a.2.1 sg a.2.2.1 a.2.2.2) (fun a => 2 - a.1) (0, l, c, cs) (Or.inl ⟨rfl, rfl⟩) (by repeat (first | exact tail_self | refine tail_cons (by decide) ?_)) (by simp only [slot_is, aev, cv, cvc, Weak, isC, bsD, ↓reduceIte, Bool.and_true, Bool.and_self, and_true, and_self, reduceCtorEq, Nat.reduceEqDiff]; rfl) (.inl (by rw [hblk]; exact H3_app p _)) (fun a => by simp) ?_
  rintro ⟨i, l1, c1, cs1⟩ hinv K' hK'
  simp only at hinv ⊢
  rcases hinv with ⟨rfl, h2⟩ | ⟨rfl, hinv⟩ | ⟨rfl, hn⟩
  · simp only [Prod.mk.injEq] at h2
    obtain ⟨rfl, rfl, rfl⟩ := h2
    simp only [awp_skip, awp_reg, awp_seq, awp_cond, awp_block, seqQ_n, awpOps_nil, awpOps_one, awpOp_is, isCallV, callW_is, putK_is, put_s, slot_is, pureOp, apureO, aev, cv, cvc, binK, elO_s, loadA_r, condA_t, isC, callV_mv, bsD, Int.natCast_nonneg, Bool.false_eq_true, ↓reduceIte, List.getElem?_cons_zero, List.length_cons, List.length_nil, List.map_nil, List.cons_append, List.nil_append, List.append_nil, List.drop_zero, Bool.true_and, true_and, Nat.reduceAdd, Nat.reduceMul, Nat.reduceLT, Nat.reduceEqDiff, Nat.zero_add, Nat.add_zero, Int.toNat_natCast, Ty.td25, Ty.td120, show decide (((0 : Nat) : Int) < ((2 : Nat) : Int)) = true from rfl, gb]
    refine numbered_ p' (by simp [refsT_cons, refsT_shift, refsT_mono (Nat.le_succ _) t ht, refsV, refsL, hr1]) hh' hA l1 hl (fun hc q hq => ?_) (fun hc => ?_) fun hc hq l2 c2 cs2 h2 h3 => ?_
    · rw [if_neg hc, hq] at hI
      have hle := itemN_len hl hq
      simp only [awp_reg, awp_seq, awp_cond, seqQ_n, awpOps_nil, awpOps_one, awpOp_is, isCallV, callW_is, callV_is, putK_is, put_s, slot_is, pureOp, apureO, aev, cv, cvc, condA_t, isC, bsD, Bool.false_eq_true, ↓reduceIte, List.map_cons, List.map_nil, List.append_nil, reduceCtorEq, gr']
      refine spaces_ p' _ hle ?_
      simp only [awp_reg, awp_seq, awp_ret, seqQ_n, seqQ_r, loopQ_r, blkQ_r, awpOps_nil, awpOps_one, awpOp_is, inlQ_is, retT_s, unshift, putK_is, put_s, slot_is, pureOp, apureO, aev, cv, cvc, notExit, resA_nil, resA_tmp, oneA_1, unshift_shift, isC, bsD, ↓reduceIte, Bool.true_and, true_and, Nat.reduceLeDiff]
      exact fin _ _ _ _ (hT _ hI) rfl
    · simp only [awp_skip, awp_reg, awp_cond, seqQ_n, loopQ_n, blkQ_n, awpOps_nil, awpOps_one, awpOp_is, putK_is, put_s, slot_is, pureOp, apureO, aev, cv, cvc, binK, condA_f, isC, bsD, ↓reduceIte, Bool.true_and, true_and, Nat.reduceEqDiff]
      refine hK' (1, l1, c1, cs1) _ _ (Or.inr (Or.inl ⟨rfl, Or.inl ⟨hc, rfl⟩⟩)) (by simp) (by repeat (first | exact tail_self | refine tail_cons (by decide) ?_)) (by simp only [slot_is, aev, cv, cvc, Weak, isC, bsD, ↓reduceIte, Bool.and_true, Bool.and_self, and_true, and_self, reduceCtorEq, Nat.reduceEqDiff]; rfl) (.inl rfl)
    · rw [if_neg hc, hq] at hI
      simp only [awp_skip, awp_reg, awp_cond, seqQ_n, loopQ_n, blkQ_n, awpOps_nil, awpOps_one, awpOp_is, putK_is, put_s, slot_is, pureOp, apureO, aev, cv, cvc, binK, condA_f, isC, bsD, ↓reduceIte, Bool.true_and, true_and, Nat.reduceEqDiff]
      refine hK' (1, l2, c2, cs2) _ _ (Or.inr (Or.inl ⟨rfl, Or.inr ⟨hI, h2, h3⟩⟩)) (by simp) (by repeat (first | exact tail_self | refine tail_cons (by decide) ?_)) (by simp only [slot_is, aev, cv, cvc, Weak, isC, bsD, ↓reduceIte, Bool.and_true, Bool.and_self, and_true, and_self, reduceCtorEq, Nat.reduceEqDiff]; rfl) (.inl rfl)
  · simp only [awp_skip, awp_reg, awp_seq, awp_cond, awp_block, seqQ_n, awpOps_nil, awpOps_one, awpOp_is, isCallV, callW_is, putK_is, put_s, slot_is, pureOp, apureO, aev, cv, cvc, binK, elO_s, loadA_r, condA_t, isC, callV_mv, bsD, Int.natCast_nonneg, Bool.false_eq_true, ↓reduceIte, List.getElem?_cons_zero, List.getElem?_cons_succ, List.length_cons, List.length_nil, List.map_nil, List.cons_append, List.nil_append, List.append_nil, List.drop_succ_cons, List.drop_zero, Bool.true_and, true_and, Nat.reduceAdd, Nat.reduceMul, Nat.reduceLT, Nat.reduceEqDiff, Nat.zero_add, Nat.add_zero, Int.toNat_natCast, Ty.td25, Ty.td120, show decide (((1 : Nat) : Int) < ((2 : Nat) : Int)) = true from rfl, gb]
    have hl1 : l1.length ≤ 1000000 := by
      rcases hinv with ⟨_, h2⟩ | ⟨_, _, h2⟩
      · simp only [Prod.mk.injEq] at h2
        rw [h2.1]; exact hl
      · exact h2
    refine alone_ p' (by simp [refsT_cons, refsT_shift, refsT_mono (Nat.le_succ _) t ht, refsV, refsL, hr1]) hh' l1 hl1 (fun q hq => ?_) fun hq c2 cs2 => ?_
    · rcases hinv with ⟨hc, h2⟩ | ⟨_, h2, _⟩
      · simp only [Prod.mk.injEq] at h2
        obtain ⟨rfl, rfl, rfl⟩ := h2
        rw [if_pos hc, hq] at hI
        have hle := (varE_len hq).2
        simp only [awp_reg, awp_seq, awp_cond, seqQ_n, awpOps_nil, awpOps_one, awpOp_is, isCallV, callW_is, callV_is, putK_is, put_s, slot_is, pureOp, apureO, aev, cv, cvc, condA_t, isC, bsD, Bool.false_eq_true, ↓reduceIte, List.map_cons, List.map_nil, List.append_nil, reduceCtorEq, gr']
        refine spaces_ p' _ (Nat.le_trans hle hl1) ?_
        simp only [awp_reg, awp_seq, awp_ret, seqQ_n, seqQ_r, loopQ_r, blkQ_r, awpOps_nil, awpOps_one, awpOp_is, inlQ_is, retT_s, unshift, putK_is, put_s, slot_is, pureOp, apureO, aev, cv, cvc, notExit, resA_nil, resA_tmp, oneA_1, unshift_shift, isC, bsD, ↓reduceIte, Bool.true_and, true_and, Nat.reduceLeDiff]
        exact fin _ _ _ _ (hT _ hI) rfl
      · rw [hq] at h2; cases h2
    · have hn : itemE sg l (c, cs) = none := by
        rcases hinv with ⟨hc, h2⟩ | ⟨hn, _⟩
        · simp only [Prod.mk.injEq] at h2
          obtain ⟨rfl, rfl, rfl⟩ := h2
          rw [if_pos hc, hq] at hI
          exact hI
        · exact hn
      simp only [awp_skip, awp_reg, awp_cond, seqQ_n, loopQ_n, blkQ_n, awpOps_nil, awpOps_one, awpOp_is, putK_is, put_s, slot_is, pureOp, apureO, aev, cv, cvc, binK, condA_f, isC, bsD, ↓reduceIte, Bool.true_and, true_and, Nat.reduceEqDiff]
      refine hK' (2, l1, c2, cs2) _ _ (Or.inr (Or.inr ⟨rfl, hn⟩)) (by simp) (by repeat (first | exact tail_self | refine tail_cons (by decide) ?_)) (by simp only [slot_is, aev, cv, cvc, Weak, isC, bsD, ↓reduceIte, Bool.and_true, Bool.and_self, and_true, and_self, reduceCtorEq, Nat.reduceEqDiff]; rfl) (.inl rfl)
  · simp only [awp_reg, awp_seq, awp_cond, awp_exit, awp_ret, seqQ_n, seqQ_e, loopQ_e, blkQ_e, awpOps_nil, awpOps_one, awpOp_is, inlQ_is, retT_s, unshift, putK_is, put_s, slot_is, pureOp, apureO, aev, cv, cvc, binK, condA_f, notExit, resA_nil, resA_tmp, oneA_1, unshift_shift, isC, bsD, ↓reduceIte, List.cons_append, List.nil_append, Bool.true_and, true_and, Nat.reduceLeDiff, Nat.reduceEqDiff, show decide (((2 : Nat) : Int) < ((2 : Nat) : Int)) = false from rfl]
    exact fin _ _ _ _ (hF hn _ _ _) rfl
end

end Go.Proofs.YtjgaebomcdkohaaGreatDoor.L10
