/- Structure: the reference's element at each place of a run. -/
import Derived.Test.YtbmmemglkjeogaaS37
namespace Go.Proofs.Ytbmmemglkjeogaa.S38
open Go Go.Proofs.Ytbmmemglkjeogaa.Eng Go.Proofs.Ytbmmemglkjeogaa Go.RowKit Go.Proofs.Ytbmmemglkjeogaa.A1 Go.Proofs.Ytbmmemglkjeogaa.A2 Go.Proofs.Ytbmmemglkjeogaa.A3 Go.Proofs.Ytbmmemglkjeogaa.A4 Go.Proofs.Ytbmmemglkjeogaa.A5 Go.Proofs.Ytbmmemglkjeogaa.A8 Go.Proofs.Ytbmmemglkjeogaa.S1 Go.Proofs.Ytbmmemglkjeogaa.S2 Go.Proofs.Ytbmmemglkjeogaa.S3 Go.Proofs.Ytbmmemglkjeogaa.S4 Go.Proofs.Ytbmmemglkjeogaa.S5 Go.Proofs.Ytbmmemglkjeogaa.S6 Go.Proofs.Ytbmmemglkjeogaa.S7 Go.Proofs.Ytbmmemglkjeogaa.S8 Go.Proofs.Ytbmmemglkjeogaa.S9 Go.Proofs.Ytbmmemglkjeogaa.S10 Go.Proofs.Ytbmmemglkjeogaa.S11 Go.Proofs.Ytbmmemglkjeogaa.S12 Go.Proofs.Ytbmmemglkjeogaa.S15 Go.Proofs.Ytbmmemglkjeogaa.S34 Go.Proofs.Ytbmmemglkjeogaa.S37
set_option linter.unusedSimpArgs false
set_option linter.unusedVariables false
set_option linter.unusedSectionVars false
set_option maxRecDepth 100000

theorem run_len {o : Op13} {zs : List Int} {num : Int} {l : List Ar} {out : List Int} (h : Run o zs num l out) (hn : ((ix o == 10) || (ix o == 11)) = false) : (out.length = 1 ∨ out.length = 2) ∧ ((ix o = 6 ∨ ix o = 8 ∨ ix o = 9) → out.length = 2) := by
  have hd := h.dms
  cases o <;> first | (exact absurd hn (by decide)) | skip
  all_goals
    simp only [dm] at hd
    first
      | (obtain ⟨_, _, rfl⟩ := wi_ok hd; exact ⟨by simp, by simp [ix]⟩)
      | (split at hd
         · simp at hd
         · first
             | (split at hd
                · simp at hd
                · obtain rfl := (Prod.mk.inj hd).1; exact ⟨by simp, by simp [ix]⟩)
             | (obtain rfl := (Prod.mk.inj hd).1; exact ⟨by simp, by simp [ix]⟩))
      | (obtain rfl := (Prod.mk.inj hd).1; exact ⟨by simp, by simp [ix]⟩)
theorem run_at {o : Op13} {zs : List Int} {num : Int} {l : List Ar} {out : List Int} (h : Run o zs num l out) (hn : ((ix o == 10) || (ix o == 11)) = false) {is : List Int} {x y : Int} (h0 : is[0]? = some x) (h1 : out.length = 2 → is[1]? = some y) : At o zs num (szV zs num) l is x y := by
  obtain ⟨_, _, hzl, _⟩ := h.ranks
  refine ⟨fun _ => h0, fun g => h1 ((run_len h hn).2 g), fun g => ?_, fun g => ?_, fun g a d ha hd => ?_, fun g a d ha hd => ?_⟩
  · cases o <;> first | (exact absurd g (by decide)) | skip
    have hz : zs.length = 1 := Int.ofNat_inj.1 hzl
    unfold szV
    rw [if_pos (by omega), List.getD_eq_getElem?_getD, List.getElem?_eq_getElem (by omega)]
    rfl
  · cases o <;> first | (exact absurd g (by decide)) | skip
    have hz : zs.length = 0 := Int.ofNat_inj.1 hzl
    unfold szV
    rw [if_neg (by omega)]
  · cases o <;> first | (exact absurd g (by decide)) | skip
    · obtain ⟨e, xs, rfl, _⟩ := h.one rfl rfl
      simp at ha
      subst ha
      simpa using hd
    · obtain ⟨e, f, xs, ys, rfl, _⟩ := h.oneone rfl rfl
      simp at ha
      subst ha
      simpa using hd
  · have hdm := h.dms
    cases o <;> first | (exact absurd g (by decide)) | skip
    obtain ⟨e, r, c, xs, rfl, _⟩ := h.two rfl rfl
    simp at ha
    subst ha
    simp only [dm] at hdm
    split at hdm
    · simp at hdm
    · rename_i hh
      simp at hh hd ⊢
      omega
theorem refEl_run {e : ByteArray} {o : Op13} {zs : List Int} {num n : Int} {l : List Ar} {out : List Int} (ho : opOf e = some o) (hn : isNm e = false) (h : Run o zs num l out) (hz : sizeE out = (n, 0)) (i : Nat) (hi : (i : Int) < n) :
    ∃ is : List Int, indexE out i = (is, 0) ∧ is.length ≤ 2 ∧ Meets Try.prog 45 [S e, ints zs, I num, arrs l, ints is] (I (elF o (szV zs num) l (plX out i) (plY out i))) := by
  have hn2 := hn
  rw [isNm_op ho] at hn2
  obtain ⟨is, h1, h2, h3, h4, h5, h6⟩ := pl_at (run_len h hn2).1 hz hi
  exact ⟨is, h1, h2, refEl_ ho hn (run_el h _ _ h5 h6) (run_at h hn2 h3 h4)⟩
end Go.Proofs.Ytbmmemglkjeogaa.S38
