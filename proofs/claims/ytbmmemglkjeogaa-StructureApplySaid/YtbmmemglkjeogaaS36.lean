/- Structure: index and update in the reference, for every run. -/
import Derived.Test.YtbmmemglkjeogaaS35
import Derived.Test.YtbmmemglkjeogaaS18
namespace Go.Proofs.Ytbmmemglkjeogaa.S36
open Go Go.Proofs.Ytbmmemglkjeogaa.Eng Go.Proofs.Ytbmmemglkjeogaa Go.RowKit Go.Proofs.Ytbmmemglkjeogaa.A1 Go.Proofs.Ytbmmemglkjeogaa.A2 Go.Proofs.Ytbmmemglkjeogaa.A3 Go.Proofs.Ytbmmemglkjeogaa.A4 Go.Proofs.Ytbmmemglkjeogaa.A5 Go.Proofs.Ytbmmemglkjeogaa.S1 Go.Proofs.Ytbmmemglkjeogaa.S2 Go.Proofs.Ytbmmemglkjeogaa.S3 Go.Proofs.Ytbmmemglkjeogaa.S4 Go.Proofs.Ytbmmemglkjeogaa.S5 Go.Proofs.Ytbmmemglkjeogaa.S6 Go.Proofs.Ytbmmemglkjeogaa.S7 Go.Proofs.Ytbmmemglkjeogaa.S8 Go.Proofs.Ytbmmemglkjeogaa.S9 Go.Proofs.Ytbmmemglkjeogaa.S10 Go.Proofs.Ytbmmemglkjeogaa.S11 Go.Proofs.Ytbmmemglkjeogaa.S12 Go.Proofs.Ytbmmemglkjeogaa.S15 Go.Proofs.Ytbmmemglkjeogaa.S18 Go.Proofs.Ytbmmemglkjeogaa.S35
set_option linter.unusedSimpArgs false
set_option linter.unusedVariables false
set_option linter.unusedSectionVars false
set_option maxRecDepth 100000

theorem refChosen_ {e el : ByteArray} {o : Op13} {zs : List Int} {num : Int} {l : List Ar} {out : List Int} (ho : opOf e = some o) (hn : isNm e = true) (h : Run o zs num l out) (hres : resE e (l.map (·.1)) = (el, true)) :
    Meets Try.prog 42 [S e, S el, arrs l] (okV e el o zs num l out) := by
  have hok := run_ok ho h hres
  have hd := h.dms
  have hn2 := hn
  rw [isNm_op ho] at hn2
  cases o <;> first | (exact absurd hn2 (by decide)) | skip
  case index =>
    obtain ⟨f1, f2, xs, t, rfl, hxl⟩ := h.onezero rfl rfl
    obtain rfl : [] = out := (Prod.mk.inj hd).1
    unfold okV
    rw [hn, Bool.true_and]
    have hg : gatherE [] (elF .index (szV zs num) [(f1, [(xs.length : Int)], xs), (f2, [], [t])]) = [if insideE t (xs.length : Int) = true then xs.getD t.toNat 0 else 0] := rfl
    rw [hg] at hok ⊢
    show Meets _ _ _ (.tup [arr el [] [if insideE t (xs.length : Int) = true then xs.getD t.toNat 0 else 0], B (!insideE t (xs.length : Int)), I 0])
    refine index_ e el f1 f2 (xs.length : Int) t _ xs (op_is ho .index) rfl ?_ hok
    cases hi : insideE t (xs.length : Int) with
    | false => exact Or.inr ⟨rfl, by simp⟩
    | true =>
      refine Or.inl ⟨rfl, ?_⟩
      rw [if_pos rfl]
      unfold insideE at hi
      simp only [Bool.and_eq_true, decide_eq_true_eq] at hi
      rw [List.getD_eq_getElem?_getD, List.getElem?_eq_getElem (by omega)]
      rfl
  case update =>
    obtain ⟨f1, f2, f3, xs, t, v, rfl, hxl⟩ := h.three rfl rfl
    obtain rfl : [(xs.length : Int)] = out := (Prod.mk.inj hd).1
    unfold okV
    rw [hn, Bool.true_and]
    have hg : gatherE [(xs.length : Int)] (elF .update (szV zs num) [(f1, [(xs.length : Int)], xs), (f2, [], [t]), (f3, [], [v])]) = upd xs t v := by
      refine gather1_eq (by rw [upd_len]) fun i hi => ?_
      rw [upd_len] at hi
      rw [upd_get t v hi]
      show (if (i : Int) = t then v else xs.getD (i : Int).toNat 0) = _
      by_cases hit : (i : Int) = t
      · rw [if_pos hit, if_pos ⟨by unfold insideE; simp; omega, hit⟩]
      · rw [if_neg hit, if_neg (fun g => hit g.2), Int.toNat_natCast]
    rw [hg] at hok ⊢
    show Meets _ _ _ (.tup [arr el [(xs.length : Int)] (upd xs t v), B (!insideE t (xs.length : Int)), I 0])
    refine update_ e el f1 f2 f3 (xs.length : Int) t v xs _ ?_ rfl hxl rfl hok
    exact op_is ho .index
end Go.Proofs.Ytbmmemglkjeogaa.S36
