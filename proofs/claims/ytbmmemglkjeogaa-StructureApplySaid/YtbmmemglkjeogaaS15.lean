/- Structure: results of single primitives, as lists. -/
import Derived.Test.YtbmmemglkjeogaaS14
namespace Go.Proofs.Ytbmmemglkjeogaa.S15
open Go Go.Proofs.Ytbmmemglkjeogaa.Eng Go.Proofs.Ytbmmemglkjeogaa Go.RowKit Go.Proofs.Ytbmmemglkjeogaa.A1 Go.Proofs.Ytbmmemglkjeogaa.A2 Go.Proofs.Ytbmmemglkjeogaa.A3 Go.Proofs.Ytbmmemglkjeogaa.A4 Go.Proofs.Ytbmmemglkjeogaa.A5 Go.Proofs.Ytbmmemglkjeogaa.S1 Go.Proofs.Ytbmmemglkjeogaa.S2 Go.Proofs.Ytbmmemglkjeogaa.S3 Go.Proofs.Ytbmmemglkjeogaa.S4 Go.Proofs.Ytbmmemglkjeogaa.S5 Go.Proofs.Ytbmmemglkjeogaa.S6 Go.Proofs.Ytbmmemglkjeogaa.S7 Go.Proofs.Ytbmmemglkjeogaa.S8 Go.Proofs.Ytbmmemglkjeogaa.S9 Go.Proofs.Ytbmmemglkjeogaa.S10 Go.Proofs.Ytbmmemglkjeogaa.S11 Go.Proofs.Ytbmmemglkjeogaa.S12 Go.Proofs.Ytbmmemglkjeogaa.S13 Go.Proofs.Ytbmmemglkjeogaa.S14
set_option linter.unusedSimpArgs false
set_option linter.unusedVariables false
set_option linter.unusedSectionVars false
set_option maxRecDepth 100000

/-- A list of numbers that may be elements. -/
def okL (a : List Int) : Prop := a.length ≤ 4096 ∧ ∀ z ∈ a, validE intB z = true
theorem okL.take {a : List Int} (ha : okL a) (k : Nat) : okL (a.take k) := ⟨by have := ha.1; rw [List.length_take]; omega, fun z hz => ha.2 z (List.mem_of_mem_take hz)⟩
theorem okL.drop {a : List Int} (ha : okL a) (k : Nat) : okL (a.drop k) := ⟨by have := ha.1; rw [List.length_drop]; omega, fun z hz => ha.2 z (List.mem_of_mem_drop hz)⟩
theorem pre_one (f : Int → Int → Int) : ∀ n : Nat, pre f 1 n = (List.range n).map fun (i : Nat) => f i 0
  | 0 => rfl
  | n + 1 => by
    rw [pre_succ, pre_one f n, List.range_succ, List.map_append]
    rfl
theorem gather1_eq {n : Int} {f : Int → Int → Int} {xs : List Int} (hl : (xs.length : Int) = n) (h : ∀ i : Nat, i < xs.length → f i 0 = xs.getD i 0) : gatherE [n] f = xs := by
  subst hl
  unfold gatherE pre
  simp only [rowsN, colsN, Int.toNat_natCast]
  apply List.ext_getElem?
  intro i
  have e1 := pre_one f xs.length
  unfold pre at e1
  rw [e1, List.getElem?_map]
  rcases Nat.lt_or_ge i xs.length with hlt | hge
  · rw [List.getElem?_range hlt, Option.map_some, h i hlt, List.getD_eq_getElem?_getD, List.getElem?_eq_getElem hlt]
    rfl
  · rw [List.getElem?_eq_none (by simpa using hge), List.getElem?_eq_none hge]
    rfl
theorem pre_get (f : Int → Int → Int) (c : Int) : ∀ (n x y : Nat), x < n → y < c.toNat → (pre f c n)[x * c.toNat + y]? = some (f x y)
  | 0, _, _, h, _ => by omega
  | n + 1, x, y, hx, hy => by
    rw [pre_succ]
    rcases Nat.lt_or_ge x n with h | h
    · rw [List.getElem?_append_left]
      · exact pre_get f c n x y h hy
      · rw [pre_len]
        have := Nat.mul_le_mul_right c.toNat (show x + 1 ≤ n by omega)
        rw [Nat.add_mul, Nat.one_mul] at this
        omega
    · obtain rfl : x = n := by omega
      rw [List.getElem?_append_right (by rw [pre_len]; omega), pre_len, Nat.add_sub_cancel_left, List.getElem?_map, List.getElem?_range hy]
      rfl
theorem gather2_len (r c : Int) (f : Int → Int → Int) : (gatherE [r, c] f).length = r.toNat * c.toNat := by
  unfold gatherE
  rw [pre_len]
  rfl
theorem gather2_eq {r c : Int} {f : Int → Int → Int} {xs : List Int} (hr : 0 ≤ r) (hc : 0 ≤ c) (hl : (xs.length : Int) = r * c) (h : ∀ x y : Nat, (x : Int) < r → (y : Int) < c → f x y = xs.getD (x * c.toNat + y) 0) : gatherE [r, c] f = xs := by
  have hlen : xs.length = r.toNat * c.toNat := by
    have := Int.toNat_mul hr hc
    rw [← hl] at this
    simpa using this
  apply List.ext_getElem?
  intro i
  rcases Nat.lt_or_ge i xs.length with hlt | hge
  · have hc0 : 0 < c.toNat := by
      rcases Nat.eq_zero_or_pos c.toNat with h0 | h0
      · rw [h0, Nat.mul_zero] at hlen; omega
      · exact h0
    have hx : i / c.toNat < r.toNat := by rw [Nat.div_lt_iff_lt_mul hc0]; omega
    have hy : i % c.toNat < c.toNat := Nat.mod_lt _ hc0
    have e1 : i / c.toNat * c.toNat + i % c.toNat = i := by rw [Nat.mul_comm]; exact Nat.div_add_mod i _
    have := h (i / c.toNat) (i % c.toNat) (by omega) (by omega)
    unfold gatherE
    simp only [rowsN, colsN]
    have hg := pre_get f c r.toNat (i / c.toNat) (i % c.toNat) hx hy
    rw [e1] at hg this
    rw [hg, this, List.getD_eq_getElem?_getD, List.getElem?_eq_getElem hlt]
    rfl
  · rw [List.getElem?_eq_none (by rw [gather2_len]; omega), List.getElem?_eq_none hge]

section
variable {a b : List Int}
end
end Go.Proofs.Ytbmmemglkjeogaa.S15
