/- Linear expressions: sums in the program; their methods, whatever the caller's memory. -/
import Derived.Test.YtjgaebomcdkohaaGreatDoorL3
namespace Go.Proofs.YtjgaebomcdkohaaGreatDoor.L4
open Go Go.Proofs.YtjgaebomcdkohaaGreatDoor.Eng Go.Proofs.YtjgaebomcdkohaaGreatDoor Go.RowKit Go.Proofs.YtjgaebomcdkohaaGreatDoor.L1 Go.Proofs.YtjgaebomcdkohaaGreatDoor.L2 Go.Proofs.YtjgaebomcdkohaaGreatDoor.L3
set_option linter.unusedSimpArgs false
set_option linter.unusedVariables false
set_option linter.unusedSectionVars false
set_option maxRecDepth 100000

abbrev sumB (M : Nat) (c : Int) : Option Blk := some (.var 111 [I c, .mp M])
abbrev mapB (cs : List Tm) : Option Blk := some (.map .s (ents cs))
/-- The memory of a sum. -/
def H2 (h : Heap) (s m : Nat) (c : Int) (cs : List Tm) : Heap := (h.set s (sumB m c)).set m (mapB cs)
theorem H2_self {h : Heap} {s m : Nat} {c : Int} {cs : List Tm} (hs : h[s]? = some (sumB m c)) (hm : h[m]? = some (mapB cs)) : H2 h s m c cs = h := by
  unfold H2
  rw [set_same hs, set_same hm]
theorem H2_ne {h : Heap} {s m : Nat} {c : Int} {cs : List Tm} (hs : h[s]? = some (sumB m c)) (hm : h[m]? = some (mapB cs)) : s ≠ m := by
  rintro rfl
  rw [hs] at hm
  cases hm
section
variable {h : Heap} {s m : Nat} {c c' : Int} {cs cs' : List Tm} (hs : s < h.length) (hm : m < h.length) (hn : s ≠ m)
theorem H2_len : (H2 h s m c cs).length = h.length := by simp [H2]
include hs hm hn
theorem H2_s : (H2 h s m c cs)[s]? = some (sumB m c) := by
  unfold H2
  rw [List.getElem?_set_ne (fun e => hn e.symm), List.getElem?_set_self hs]
theorem H2_m : (H2 h s m c cs)[m]? = some (mapB cs) := by
  unfold H2
  rw [List.getElem?_set_self (by simpa using hm)]
theorem H2_set_s : (H2 h s m c cs).set s (sumB m c') = H2 h s m c' cs := by
  unfold H2
  rw [List.set_comm _ _ (fun e => hn e.symm), List.set_set]
theorem H2_set_m : (H2 h s m c cs).set m (mapB cs') = H2 h s m c cs' := by
  unfold H2
  rw [List.set_set]
theorem H2_refs (hh : refsH h.length h = true) : refsH h.length (H2 h s m c cs) = true := by
  unfold H2
  exact refsH_set _ (refsH_set _ hh (by simp [refsH, refsL, refsV, hm])) (by simp [refsH])
end

theorem add_ {n : Nat} {t : List (Nat × AV)} {h : Heap} {d : Tmp} {s m : Nat} {c0 : Int} {cs : List Tm} {K : AS → Prop} (c k : Int) (ts : List Tm) (hts : small ts) (hs : s < h.length) (hm : m < h.length) (hn : s ≠ m) (ht : refsT h.length t = true) (hh : refsH h.length h = true)
    (hK : K (AS.put ⟨n, t, H2 h s m (addC c0 k c) (addT k ts cs)⟩ (some d) (.tup []))) : CallS Tryz.prog ⟨n, t, H2 h s m c0 cs⟩ (some d) 49 [.ptr s 0, ln c ts, I k] K := by
  obtain ⟨hl, hv⟩ := hts
  have gs : ∀ c cs x, (H2 h s m c cs ++ x)[s]? = some (sumB m c) := fun c cs x => app_left (H2_s hs hm hn) x
  have gm : ∀ c cs x, (H2 h s m c cs ++ x)[m]? = some (mapB cs) := fun c cs x => app_left (H2_m hs hm hn) x
  have ss : ∀ c c' cs x, (H2 h s m c cs ++ x).set s (sumB m c') = H2 h s m c' cs ++ x := fun c c' cs x => by rw [set_left (by rw [H2_len]; exact hs), H2_set_s hs hm hn]
  have sm : ∀ c cs cs' x, (H2 h s m c cs ++ x).set m (mapB cs') = H2 h s m c cs' ++ x := fun c cs cs' x => by rw [set_left (by rw [H2_len]; exact hm), H2_set_m hs hm hn]
  have g0 : ∀ c cs b x, (H2 h s m c cs ++ b :: x)[h.length]? = some b := fun c cs b x => by have := app_end (h := H2 h s m c cs) b x; rwa [H2_len] at this
  have g1 : ∀ c cs a b x, (H2 h s m c cs ++ a :: b :: x)[h.length + 1]? = some b := fun c cs a b x => by
    rw [List.getElem?_append_right (by rw [H2_len]; omega), H2_len, Nat.add_sub_cancel_left]; rfl
  have s1 : ∀ c cs a b b' x, (H2 h s m c cs ++ a :: b :: x).set (h.length + 1) b' = H2 h s m c cs ++ a :: b' :: x := fun c cs a b b' x => by
    rw [List.set_append_right _ _ (by rw [H2_len]; omega), H2_len, Nat.add_sub_cancel_left]; rfl
  refine call_weak ?_
  refine call_inl (X := false) Ty.mixed Tryz.func49 (by kernel_rfl) rfl (by kernel_rfl) (by simp) ?_; rw [Tryz.ntmps49, Tryz.results49]; simp only [awp_reg, awp_regD, awp_seq, awp_block, awp_loop, seqQ_n, awpOps_nil, awpOps_one, awpOpsD_one, awpOp_is, isCallV, awpOpD_is, lastOnly_cons, putK_is, updK_is, put_s, upd_n, upd_s, slot_is, keepOp, pureOp, apureO, astepO, killT, aev, cv, cvc, binK, elO_s, lenA, lenK, loadA_p, storeA, cellsA, cellOk, setAll, argT, mlenA_sl, isC, nilA_ptr, bsD, Bool.false_eq_true, ↓reduceIte, List.getElem?_cons_zero, List.getElem?_cons_succ, List.length_cons, List.length_nil, List.cons_append, List.nil_append, List.set_cons_zero, Bool.true_and, Value.oneCell', true_and, ne_eq, not_false_eq_true, reduceCtorEq, Nat.reduceAdd, Nat.reduceLeDiff, Nat.reduceEqDiff, Nat.zero_add, List.isEmpty_nil, Option.isSome_some, Ty.td3, Ty.td22, Ty.td24, Ty.td111, H2_len, gs, gm, g0, ss]
  refine loop_s 39 t (fun j : Nat × List Tm => j.1 ≤ ts.length ∧ addT k (ts.drop j.1) j.2 = addT k ts cs) (fun j => [(22, I j.1), (21, I ts.length), (20, tms ts), (0, .ptr s 0), (2, I k)]) (fun j => H2 h s m (addC c0 k c) j.2 ++ [some (Blk.var 24 [I c, tms ts])]) (fun j => ts.length - j.1) (0, cs) ⟨Nat.zero_le _, rfl⟩ (by repeat (first | exact tail_self | refine tail_cons (by decide) ?_)) (by simp only [slot_is, aev, cv, cvc, Weak, isC, bsD, ↓reduceIte, Bool.and_true, Bool.and_self, and_true, and_self, reduceCtorEq, Nat.reduceEqDiff, List.length_map]; simp) (.inl rfl) (fun a => by simp) ?_
  rintro ⟨j, ds⟩ ⟨hj, hi⟩ K' hK'
  simp only at hj hi ⊢
  by_cases hlt : j < ts.length
  case neg =>
    have h0 : ts.drop j = [] := List.drop_eq_nil_of_le (by omega)
    rw [h0] at hi
    simp only [addT] at hi
    simp only [awp_reg, awp_seq, awp_cond, awp_exit, seqQ_n, seqQ_e, loopQ_e, blkQ_e, awpOps_nil, awpOps_one, awpOp_is, inlQ_is, retT_s, unshift, putK_is, put_s, slot_is, pureOp, apureO, aev, cv, cvc, binK, condA_f, notExit, resA_nil, oneA_0, unshift_shift, isC, bsD, ↓reduceIte, List.cons_append, List.nil_append, Bool.true_and, true_and, Nat.reduceLeDiff, Nat.reduceEqDiff, show decide ((j : Int) < (ts.length : Int)) = false from decide_eq_false (by omega)]
    refine ⟨_, weakO_refl _, rfl, ?_, hi ▸ hK⟩
    exact hw_app (t := (d, .tup []) :: t) (by rw [refsT_cons, H2_len]; simpa [refsV, refsL] using ht) (by rw [H2_len]; exact H2_refs hs hm hn hh)
  obtain ⟨q, hq⟩ : ∃ q, ts[j]? = some q := ⟨_, List.getElem?_eq_getElem hlt⟩
  rw [List.drop_eq_getElem_cons hlt, addT] at hi
  obtain rfl : ts[j] = q := by rw [List.getElem?_eq_getElem hlt] at hq; exact Option.some.inj hq
  generalize ts[j] = q at *
  obtain ⟨v, x⟩ := q
  simp only at hi
  simp only [awp_skip, awp_reg, awp_regD, awp_seq, awp_cond, awp_block, seqQ_n, loopQ_n, blkQ_n, awpOps_nil, awpOps_one, awpOpsD_one, awpOp_is, isCallV, awpOpD_is, lastOnly_cons, putK_is, updK_is, put_s, upd_n, upd_s, slot_is, keepOp, pureOp, apureO, astepO, killT, aev, cv, cvc, binK, elO_s, loadA_d, loadA_p, storeA, cellsA, cellOk, setAll, condA_t, isD_c, mapT_is, kindK_is, mupA_m, lookA_m, keyA_s, isC, nilA_ptr, bsD, Int.natCast_nonneg, Bool.false_eq_true, ↓reduceIte, List.getElem?_cons_zero, List.getElem?_cons_succ, List.length_cons, List.length_nil, List.map_cons, List.map_nil, List.cons_append, List.nil_append, List.set_cons_zero, List.set_cons_succ, Option.map_some, List.take_succ_cons, List.all_cons, List.all_nil, Bool.true_and, Bool.and_self, Value.oneCell', true_and, and_self, ne_eq, not_false_eq_true, reduceCtorEq, Nat.reduceAdd, Nat.reduceEqDiff, Nat.zero_add, List.isEmpty_nil, Int.toNat_natCast, Nat.le_refl, List.take_nil, Ty.td3, Ty.td9, Ty.td22, Ty.td42, Ty.td109, Ty.td111, show decide ((j : Int) < (ts.length : Int)) = true from decide_eq_true (by omega), List.getElem?_map, hq, List.append_assoc, List.length_append, H2_len, gs, gm, g0, g1, s1, ss, sm, look_ents, mput_ents]
  rw [wrap_in (x := (j : Int) + 1) (by omega) (by omega)]
  refine hK' (j + 1, _) _ _ ⟨by simp; omega, hi⟩ (by simp; omega) (by repeat (first | exact tail_self | refine tail_cons (by decide) ?_)) (by simp only [slot_is, aev, cv, cvc, Weak, isC, bsD, ↓reduceIte, Bool.and_true, Bool.and_self, and_true, and_self, reduceCtorEq, Nat.reduceEqDiff]; simp) ?_
  have hb : (H2 h s m (addC c0 k c) (aput v (W (aget v ds + W (k * x))) ds) ++ [some (Blk.var 24 [I c, tms ts])]).length = h.length + 1 := by simp [H2_len]
  have := hw_app (n := 39) (ex := [some (Blk.var 42 [S v, I x])]) (t := [(22, I (j + 1 : Nat)), (21, I ts.length), (20, tms ts), (0, .ptr s 0), (2, I k)] ++ shiftT 39 t) (h := H2 h s m (addC c0 k c) (aput v (W (aget v ds + W (k * x))) ds) ++ [some (Blk.var 24 [I c, tms ts])]) (by
    rw [hb]
    simp only [List.cons_append, List.nil_append, refsT_cons, refsT_shift, refsT_mono (Nat.le_succ _) t ht, refsV, Bool.and_true, Bool.true_and, decide_eq_true_eq]
    omega) (by
    rw [hb]
    exact refsH_app (refsH_mono (Nat.le_succ _) (H2_refs hs hm hn hh)) (by simp [refsH, refsL, refsV]))
  rwa [List.append_assoc] at this

end Go.Proofs.YtjgaebomcdkohaaGreatDoor.L4
