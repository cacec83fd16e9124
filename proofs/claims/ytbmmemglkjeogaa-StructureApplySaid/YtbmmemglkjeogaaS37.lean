/- Structure: the places of a result, one behind the other. -/
import Derived.Test.YtbmmemglkjeogaaS36
import Derived.Test.YtbmmemglkjeogaaA8
namespace Go.Proofs.Ytbmmemglkjeogaa.S37
open Go Go.Proofs.Ytbmmemglkjeogaa.Eng Go.Proofs.Ytbmmemglkjeogaa Go.RowKit Go.Proofs.Ytbmmemglkjeogaa.A1 Go.Proofs.Ytbmmemglkjeogaa.A2 Go.Proofs.Ytbmmemglkjeogaa.A3 Go.Proofs.Ytbmmemglkjeogaa.A4 Go.Proofs.Ytbmmemglkjeogaa.A5 Go.Proofs.Ytbmmemglkjeogaa.A8 Go.Proofs.Ytbmmemglkjeogaa.S1 Go.Proofs.Ytbmmemglkjeogaa.S2 Go.Proofs.Ytbmmemglkjeogaa.S3 Go.Proofs.Ytbmmemglkjeogaa.S4 Go.Proofs.Ytbmmemglkjeogaa.S5 Go.Proofs.Ytbmmemglkjeogaa.S6 Go.Proofs.Ytbmmemglkjeogaa.S7 Go.Proofs.Ytbmmemglkjeogaa.S8 Go.Proofs.Ytbmmemglkjeogaa.S9 Go.Proofs.Ytbmmemglkjeogaa.S10 Go.Proofs.Ytbmmemglkjeogaa.S11 Go.Proofs.Ytbmmemglkjeogaa.S12 Go.Proofs.Ytbmmemglkjeogaa.S15
set_option linter.unusedSimpArgs false
set_option linter.unusedVariables false
set_option linter.unusedSectionVars false
set_option maxRecDepth 100000

/-- The row and the column of a place. -/
def plX (out : List Int) (i : Nat) : Nat := match out with | [_, c] => i / c.toNat | _ => i
def plY (out : List Int) (i : Nat) : Nat := match out with | [_, c] => i % c.toNat | _ => 0
theorem seq_eq {out : List Int} {f : Int → Int → Int} {n : Int} (hl : out.length = 1 ∨ out.length = 2) (hz : sizeE out = (n, 0)) : gatherE out f = (List.range n.toNat).map fun (i : Nat) => f (plX out i) (plY out i) := by
  match out, hl with
  | [d], _ =>
    obtain ⟨h0, h1, rfl⟩ := size1d_inv hz
    refine gather1_eq (by simp; omega) fun i hi => ?_
    rw [List.getD_eq_getElem?_getD, List.getElem?_eq_getElem hi]
    simp [plX, plY]
  | [r, c], _ =>
    obtain ⟨h0, h1, h2, h3, rfl, h5⟩ := size2d_inv hz
    have hrc : 0 ≤ r * c := Int.mul_nonneg h0 h2
    refine gather2_eq h0 h2 (by simp; omega) fun x y hx hy => ?_
    have hlt : x * c.toNat + y < (r * c).toNat := by
      have e1 : ((r * c).toNat : Int) = r * c := Int.toNat_of_nonneg hrc
      have e2 : ((c.toNat : Nat) : Int) = c := Int.toNat_of_nonneg h2
      have : ((x * c.toNat + y : Nat) : Int) < ((r * c).toNat : Int) := by
        rw [e1, Int.natCast_add, Int.natCast_mul, e2]
        have : ((x : Int) + 1) * c ≤ r * c := Int.mul_le_mul_of_nonneg_right (by omega) h2
        rw [Int.add_mul, Int.one_mul] at this
        omega
      exact Int.ofNat_lt.1 this
    have hc : 0 < c.toNat := by omega
    have hy' : y < c.toNat := by omega
    rw [List.getD_eq_getElem?_getD, List.getElem?_eq_getElem (by simpa using hlt)]
    simp only [List.getElem_map, List.getElem_range, Option.getD_some, plX, plY]
    rw [Nat.mul_comm, Nat.mul_add_div hc, Nat.div_eq_of_lt hy', Nat.mul_add_mod, Nat.mod_eq_of_lt hy', Nat.add_zero]
/-- The index of a place. -/
theorem pl_at {out : List Int} {n : Int} {i : Nat} (hl : out.length = 1 ∨ out.length = 2) (hz : sizeE out = (n, 0)) (hi : (i : Int) < n) :
    ∃ is : List Int, indexE out i = (is, 0) ∧ is.length ≤ 2 ∧ is[0]? = some (plX out i : Int) ∧ (out.length = 2 → is[1]? = some (plY out i : Int)) ∧ (plX out i : Int) < rowsN out ∧ (plY out i : Int) < colsN out := by
  match out, hl with
  | [d], _ =>
    obtain ⟨h0, h1, rfl⟩ := size1d_inv hz
    refine ⟨[(i : Int)], ?_, by simp, rfl, fun h => by simp at h, hi, by show ((0 : Nat) : Int) < 1; omega⟩
    unfold indexE
    rw [hz, if_neg (by simp), if_neg (by omega)]
    simp only [idxR]
    rw [Int.tmod_eq_of_lt (by omega) hi]
  | [r, c], _ =>
    obtain ⟨h0, h1, h2, h3, rfl, h5⟩ := size2d_inv hz
    have e2 : ((c.toNat : Nat) : Int) = c := Int.toNat_of_nonneg h2
    have hc : 0 < c.toNat := by
      rcases Nat.eq_zero_or_pos c.toNat with h | h
      · have : c = 0 := by omega
        rw [this, Int.mul_zero] at hi
        omega
      · exact h
    have hq : i / c.toNat < r.toNat := by
      rw [Nat.div_lt_iff_lt_mul hc]
      have : (i : Int) < ((r.toNat * c.toNat : Nat) : Int) := by rw [Int.natCast_mul, Int.toNat_of_nonneg h0, e2]; exact hi
      omega
    have hm : i % c.toNat < c.toNat := Nat.mod_lt _ hc
    have t1 : (i : Int).tdiv c = ((i / c.toNat : Nat) : Int) := by rw [← e2]; rfl
    have t2 : (i : Int).tmod c = ((i % c.toNat : Nat) : Int) := by rw [← e2]; rfl
    refine ⟨[((i / c.toNat : Nat) : Int), ((i % c.toNat : Nat) : Int)], ?_, by simp, rfl, fun _ => rfl, ?_, ?_⟩
    · unfold indexE
      rw [hz, if_neg (by simp), if_neg (by omega)]
      simp only [idxR]
      rw [t1, t2]
      clear t1 t2
      generalize i / c.toNat = q at *
      generalize i % c.toNat = m at *
      rw [wrap_in (x := (q : Int)) (by omega) (by omega), Int.tmod_eq_of_lt (by omega) (by omega)]
    · show ((i / c.toNat : Nat) : Int) < r
      clear t1 t2
      generalize i / c.toNat = q at *
      omega
    · show ((i % c.toNat : Nat) : Int) < c
      clear t1 t2
      generalize i % c.toNat = m at *
      omega
end Go.Proofs.Ytbmmemglkjeogaa.S37
