/- Plain integer facts for the walks of intmath: quotients and remainders rounded down, by cases on the signs. No program is named here. -/
namespace Go.Proofs.Ytbpppeekfjfolaa.IntPlain

/-- A number in the range of intmath. -/
def inR (n : Int) : Bool := decide (-4611686018427387904 ≤ n) && decide (n ≤ 4611686018427387904)

theorem inR_iff (n : Int) : inR n = true ↔ -4611686018427387904 ≤ n ∧ n ≤ 4611686018427387904 := by
  unfold inR; simp

/-- The truncated quotient and remainder by a number above 0. -/
theorem trunc_pos (a b : Int) (hb : 0 < b) : a.tdiv b * b + a.tmod b = a ∧ a.tmod b < b ∧ -b < a.tmod b ∧ (0 ≤ a → 0 ≤ a.tmod b) ∧ (a ≤ 0 → a.tmod b ≤ 0) := by
  refine ⟨Int.tdiv_mul_add_tmod a b, Int.tmod_lt_of_pos a hb, Int.lt_tmod_of_pos a hb, fun h => Int.tmod_nonneg b h, fun h => ?_⟩
  have h1 := Int.tmod_nonneg (a := -a) b (by omega)
  rw [Int.neg_tmod] at h1
  omega

/-- The truncated quotient and remainder by a number below 0. -/
theorem trunc_neg (a b : Int) (hb : b < 0) : a.tdiv b * b + a.tmod b = a ∧ a.tmod b < -b ∧ b < a.tmod b ∧ (0 ≤ a → 0 ≤ a.tmod b) ∧ (a ≤ 0 → a.tmod b ≤ 0) := by
  have h := trunc_pos a (-b) (by omega)
  rw [Int.tmod_neg, Int.tdiv_neg] at h
  have e : -a.tdiv b * -b = a.tdiv b * b := by rw [Int.neg_mul_neg]
  rw [e] at h
  exact ⟨h.1, h.2.1, by omega, h.2.2.2.1, h.2.2.2.2⟩

/-- What 'divide' answers: the quotient rounded down, the remainder, the quotient rounded up. -/
def floorOf (a b : Int) : Int := if (0 < a.tmod b ∧ b < 0) ∨ (a.tmod b < 0 ∧ 0 < b) then a.tdiv b - 1 else a.tdiv b
def modOf (a b : Int) : Int := if (0 < a.tmod b ∧ b < 0) ∨ (a.tmod b < 0 ∧ 0 < b) then a.tmod b + b else a.tmod b
def ceilOf (a b : Int) : Int := if (0 < a.tmod b ∧ 0 < b) ∨ (a.tmod b < 0 ∧ b < 0) then a.tdiv b + 1 else a.tdiv b

/-- How far the truncated quotient is from zero. -/
theorem tdiv_range (a b : Int) (h1 : -4611686018427387904 ≤ a) (h2 : a ≤ 4611686018427387904) : -4611686018427387904 ≤ a.tdiv b ∧ a.tdiv b ≤ 4611686018427387904 := by
  have h : (a.tdiv b).natAbs ≤ a.natAbs := by rw [Int.natAbs_tdiv]; exact Nat.div_le_self _ _
  omega

theorem tmod_zero_range (a b : Int) (hb : b ≠ 0) : -b.natAbs < a.tmod b ∧ a.tmod b < b.natAbs := by
  have h := Int.natAbs_tmod a b
  have : a.natAbs % b.natAbs < b.natAbs := Nat.mod_lt _ (by omega)
  omega

end Go.Proofs.Ytbpppeekfjfolaa.IntPlain
