/- The reference's long quotient. -/
import Derived.Test.YtbpppeekfjfolaaIntInverse
import Derived.Test.YtbpppeekfjfolaaBits
namespace Go.Proofs.Ytbpppeekfjfolaa.IntWhole
set_option linter.unusedVariables false
open Go.RowKit Go.Proofs.Ytbpppeekfjfolaa.IntPlain Go.Proofs.Ytbpppeekfjfolaa.IntWalks Go.Proofs.Ytbpppeekfjfolaa.IntWide Go.Proofs.Ytbpppeekfjfolaa.IntSum Go.Proofs.Ytbpppeekfjfolaa.IntDivision Go.Proofs.Ytbpppeekfjfolaa.IntBasic Go.Proofs.Ytbpppeekfjfolaa.IntGcd Go.Proofs.Ytbpppeekfjfolaa.IntLcm Go.Proofs.Ytbpppeekfjfolaa.IntMultiples Go.Proofs.Ytbpppeekfjfolaa.IntEuclid Go.Proofs.Ytbpppeekfjfolaa.IntExtended Go.Proofs.Ytbpppeekfjfolaa.IntBezout Go.Proofs.Ytbpppeekfjfolaa.IntInverse

theorem half (x : Int) (j : Nat) : x / 2 ^ (j + 1) = x / 2 ^ j / 2 := by
  rw [Int.pow_succ, Int.ediv_ediv_of_nonneg (Int.pow_nonneg (by decide))]

/-- The quotient is at most the other factor. -/
theorem quo_le (n X d quo rem : Int) (hn : 0 ≤ n) (hn2 : n < d) (hX : 0 ≤ X) (hr : 0 ≤ rem) (h : n * X = quo * d + rem) : quo ≤ X := by
  apply Int.le_of_not_gt
  intro hc
  have h1 : (X + 1) * d ≤ quo * d := Int.mul_le_mul_of_nonneg_right (by omega) (by omega)
  have h2 : n * X ≤ d * X := Int.mul_le_mul_of_nonneg_right (by omega) hX
  rw [Int.add_mul, Int.mul_comm X d] at h1
  omega

theorem multiple_cases (k d e : Int) (hd : 0 < d) (h : e = k * d) : (0 < e → e ≤ d → k = 1) ∧ (0 ≤ e → e < d → k = 0) ∧ (e = -1 → k = -1) := by
  have h2 : 2 ≤ k → 2 * d ≤ k * d := fun h => Int.mul_le_mul_of_nonneg_right h (by omega)
  have h1 : 1 ≤ k → 1 * d ≤ k * d := fun h => Int.mul_le_mul_of_nonneg_right h (by omega)
  have h0 : k ≤ 0 → k * d ≤ 0 * d := fun h => Int.mul_le_mul_of_nonneg_right h (by omega)
  have h3 : k ≤ -1 → k * d ≤ -1 * d := fun h => Int.mul_le_mul_of_nonneg_right h (by omega)
  have h4 : k ≤ -2 → k * d ≤ -2 * d := fun h => Int.mul_le_mul_of_nonneg_right h (by omega)
  refine ⟨fun a b => ?_, fun a b => ?_, fun a => ?_⟩
  · by_cases p : k ≤ 0
    · have := h0 p; omega
    · by_cases q : 2 ≤ k
      · have := h2 q; omega
      · omega
  · by_cases p : k ≤ -1
    · have := h3 p; omega
    · by_cases q : 1 ≤ k
      · have := h1 q; omega
      · omega
  · by_cases p : k ≤ -2
    · have := h4 p; omega
    · by_cases q : 0 ≤ k
      · have : 0 * d ≤ k * d := Int.mul_le_mul_of_nonneg_right q (by omega)
        omega
      · omega

set_option maxHeartbeats 1000000 in
theorem whole_is (n x d s W : Int) (w : World) (hn : 0 ≤ n) (hn2 : n < d) (hx : 0 ≤ x) (hx2 : x < d) (hd : d ≤ 4611686018427387904) (hs : s = -1 ∨ s = 1) (hW : n * x - s = W * d) :
    Calls Try.prog 52 #[.int .i64 n, .int .i64 x, .int .i64 d, .int .i64 s] w fun e w' => e = .returned (.int .i64 W) ∧ Below w.heap.size w w' := by
  have HW := Lib.hid hW
  have HS := Lib.hid hs
  have hs1 : -1 ≤ s := by omega
  have hs2 : s ≤ 1 := by omega
  clear hW hs
  go_enter Try.func52, Try.ntmps52
  go_wp2
  go_loopw [9, 10, 11] (fun s9 s10 s11 wr => ∃ (quo rem : Int) (i : Nat), s9 = .int .i64 quo ∧ s10 = .int .i64 rem ∧ s11 = .int .i64 ((i : Int) - 1) ∧ i ≤ 63 ∧ 0 ≤ rem ∧ rem < d ∧ 0 ≤ quo ∧ Hid (n * (x / 2 ^ i) = quo * d + rem) ∧ Below w.heap.size w wr) (fun _ _ s11 _ => (intOf s11 + 1).toNat)
  case atStart =>
    refine ⟨0, 0, 63, rfl, rfl, rfl, by omega, by omega, by omega, by omega, Lib.hid ?_, Below.refl _ _⟩
    rw [Int.ediv_eq_zero_of_lt hx (by omega)]
    omega
  case round =>
    obtain ⟨quo, rem, i, rfl, rfl, rfl, hi, hr1, hr2, hq1, HE, hB⟩ := hrel
    have HB := Lib.hid hB
    clear hB
    by_cases h0 : 0 < i
    · obtain ⟨j, rfl⟩ : ∃ j : Nat, i = j + 1 := ⟨i - 1, by omega⟩
      rw [show ((j + 1 : Nat) : Int) - 1 = (j : Int) from by omega]
      have hX : 0 ≤ x / 2 ^ j := Int.ediv_nonneg hx (Int.pow_nonneg (by decide))
      have hX2 : x / 2 ^ j ≤ x := Int.ediv_le_self _ hx
      have he := HE.out
      rw [half] at he
      have hql := quo_le n (x / 2 ^ j / 2) d quo rem hn hn2 (by omega) hr1 he
      have hq2 : quo ≤ 2305843009213693952 := by omega
      have HD : Hid (n * (x / 2 ^ j) = 2 * (quo * d + rem) + n * (x / 2 ^ j % 2)) := Lib.hid (by
        rw [← he]
        have := Int.mul_ediv_add_emod (x / 2 ^ j) 2
        generalize x / 2 ^ j = X at *
        generalize X / 2 = Y at *
        generalize X % 2 = b at *
        rw [← this]
        grind)
      have hbit : bits .and .i64 (x / 2 ^ j) 1 = x / 2 ^ j % 2 := Bits.i64_one _
      clear HE he hql
      by_cases hb : x / 2 ^ j % 2 = 1
      · rw [hb, Int.mul_one] at HD
        have hbt : (bits .and .i64 (x / 2 ^ j) 1 == 1) = true := by rw [hbit, hb]; rfl
        clear hbit hb hX hX2
        go_wp2
        all_goals
          go_roundw
          case rel =>
            refine ⟨_, _, j, rfl, rfl, rfl, by omega, by omega, by omega, by omega, Lib.hid ?_, HB.out⟩
            rw [HD.out]
            grind
          case measure => simp [intOf]
      · have hb0 : x / 2 ^ j % 2 = 0 := by omega
        rw [hb0, Int.mul_zero] at HD
        have hbt : (bits .and .i64 (x / 2 ^ j) 1 == 1) = false := by rw [hbit, hb0]; rfl
        clear hbit hb hb0 hX hX2
        go_wp2
        all_goals
          go_roundw
          case rel =>
            refine ⟨_, _, j, rfl, rfl, rfl, by omega, by omega, by omega, by omega, Lib.hid ?_, HB.out⟩
            rw [HD.out]
            grind
          case measure => simp [intOf]
    · obtain rfl : i = 0 := by omega
      have he := HE.out
      rw [show x / 2 ^ 0 = x from by simp] at he
      have hql := quo_le n x d quo rem hn hn2 hx hr1 he
      have hq2 : quo ≤ 4611686018427387904 := by omega
      have hres : (s < 0 ∧ quo + 1 = W) ∨ (0 ≤ s ∧ rem = 0 ∧ quo - 1 = W) ∨ (0 ≤ s ∧ ¬ rem = 0 ∧ quo = W) := by
        have hw := HW.out
        have hk : rem - s = (W - quo) * d := by rw [Int.sub_mul]; omega
        obtain ⟨k1, k2, k3⟩ := multiple_cases (W - quo) d (rem - s) (by omega) hk
        rcases HS.out with rfl | rfl
        · left; have := k1 (by omega) (by omega); omega
        · by_cases hz : rem = 0
          · have := k3 (by omega); omega
          · have := k2 (by omega) (by omega); omega
      clear HE he hql
      rcases hres with ⟨g1, g2⟩ | ⟨g1, g2, g3⟩ | ⟨g1, g2, g3⟩
      · have HG := Lib.hid g2
        clear g2
        go_wp2
        go_ret
        exact ⟨by rw [← HG.out]; rfl, HB.out⟩
      · have HG := Lib.hid g3
        subst g2
        clear g3
        go_wp2
        go_ret
        exact ⟨by rw [← HG.out]; rfl, HB.out⟩
      · have HG := Lib.hid g3
        have hz : (rem == 0) = false := beq_eq_false_iff_ne.2 g2
        clear g3
        go_wp2
        go_ret
        exact ⟨by rw [← HG.out]; rfl, HB.out⟩

end Go.Proofs.Ytbpppeekfjfolaa.IntWhole
