/- The law IntmathBasic, further: quotients in the reference, and the functions of the program. -/
import Derived.Test.YtbpppeekfjfolaaIntBasic2
namespace Go.Proofs.Ytbpppeekfjfolaa.IntBasic
set_option linter.unusedVariables false
open Go.RowKit Go.Proofs.Ytbpppeekfjfolaa.IntPlain Go.Proofs.Ytbpppeekfjfolaa.IntWalks Go.Proofs.Ytbpppeekfjfolaa.IntWide Go.Proofs.Ytbpppeekfjfolaa.IntTotal Go.Proofs.Ytbpppeekfjfolaa.IntNumber Go.Proofs.Ytbpppeekfjfolaa.IntSum Go.Proofs.Ytbpppeekfjfolaa.IntAwake Go.Proofs.Ytbpppeekfjfolaa.IntDivision

theorem refDiv_zero (a : Int) (ha : inR a = true) : Pair 17 a 0 0 1 := by
  intro w
  obtain ⟨ha1, ha2⟩ := (inR_iff a).1 ha
  clear ha
  go_enter Try.func17, Try.ntmps17
  go_wp2_with (go_at_call 36; refine (in_yes _ _ (by omega) (by omega)).mono ?_; rintro e w' ⟨rfl, rfl⟩)
  go_ret2
  exact ⟨rfl, Below.refl _ _⟩

theorem refMod_zero (a : Int) (ha : inR a = true) : Pair 19 a 0 0 1 := by
  intro w
  obtain ⟨ha1, ha2⟩ := (inR_iff a).1 ha
  clear ha
  go_enter Try.func19, Try.ntmps19
  go_wp2_with (go_at_call 36; refine (in_yes _ _ (by omega) (by omega)).mono ?_; rintro e w' ⟨rfl, rfl⟩)
  go_ret2
  exact ⟨rfl, Below.refl _ _⟩

set_option maxHeartbeats 1000000 in
theorem refDiv_main (a b q r n : Int) (w : World) (ha1 : -4611686018427387904 ≤ a) (ha2 : a ≤ 4611686018427387904) (hb1 : -4611686018427387904 ≤ b) (hb2 : b ≤ 4611686018427387904)
    (hq : a.tdiv b = q) (hr : a.tmod b = r) (q1 : -4611686018427387904 ≤ q) (q2 : q ≤ 4611686018427387904) (r1 : -4611686018427387904 ≤ r) (r2 : r ≤ 4611686018427387904)
    (sa : ((decide (a < 0) = true ∧ a < 0) ∨ (decide (a < 0) = false ∧ 0 ≤ a ∧ a / b = q ∧ a % b = r))) (sb : ((decide (b < 0) = true ∧ b < 0) ∨ (decide (b < 0) = false ∧ 0 < b)))
    (hc : ((r != 0) = false ∧ n = q) ∨ ((r != 0) = true ∧ ((a < 0 ∧ 0 < b ∧ n = q - 1) ∨ (0 ≤ a ∧ b < 0 ∧ n = q - 1) ∨ (a < 0 ∧ b < 0 ∧ n = q) ∨ (0 ≤ a ∧ 0 < b ∧ n = q)))) :
    Calls Try.prog 17 #[.int .i64 a, .int .i64 b] w fun x w' => x = .returned (.tuple #[.int .i64 n, .int .i64 0]) ∧ Below w.heap.size w w' := by
  rcases hc with ⟨hz, hn⟩ | ⟨hz, hn⟩
  · subst hn
    rcases sa with ⟨d1, g1⟩ | ⟨d1, g1, e1, e2⟩ <;> rcases sb with ⟨d2, g2⟩ | ⟨d2, g2⟩
    all_goals
      go_enter Try.func17, Try.ntmps17
      go_wp2_with (go_at_call 36; refine (in_yes _ _ (by omega) (by omega)).mono ?_; rintro e w' ⟨rfl, rfl⟩)
      go_ret2
      exact ⟨rfl, Below.refl _ _⟩
  · rcases sa with ⟨d1, g1⟩ | ⟨d1, g1, e1, e2⟩ <;> rcases sb with ⟨d2, g2⟩ | ⟨d2, g2⟩
    · obtain rfl : q = n := by omega
      go_enter Try.func17, Try.ntmps17
      go_wp2_with (go_at_call 36; refine (in_yes _ _ (by omega) (by omega)).mono ?_; rintro e w' ⟨rfl, rfl⟩)
      go_ret2
      exact ⟨rfl, Below.refl _ _⟩
    · obtain rfl : n = q - 1 := by omega
      go_enter Try.func17, Try.ntmps17
      go_wp2_with (go_at_call 36; refine (in_yes _ _ (by omega) (by omega)).mono ?_; rintro e w' ⟨rfl, rfl⟩)
      go_ret2
      exact ⟨rfl, Below.refl _ _⟩
    · obtain rfl : n = q - 1 := by omega
      clear e1 e2
      go_enter Try.func17, Try.ntmps17
      go_wp2_with (go_at_call 36; refine (in_yes _ _ (by omega) (by omega)).mono ?_; rintro e w' ⟨rfl, rfl⟩)
      go_ret2
      exact ⟨rfl, Below.refl _ _⟩
    · obtain rfl : q = n := by omega
      go_enter Try.func17, Try.ntmps17
      go_wp2_with (go_at_call 36; refine (in_yes _ _ (by omega) (by omega)).mono ?_; rintro e w' ⟨rfl, rfl⟩)
      go_ret2
      exact ⟨rfl, Below.refl _ _⟩

theorem refDiv_in (a b : Int) (ha : inR a = true) (hb : inR b = true) (hb0 : b ≠ 0) : Pair 17 a b (floorOf a b) 0 := by
  intro w
  have ha' := (inR_iff a).1 ha
  have hb' := (inR_iff b).1 hb
  have hq := tdiv_range a b ha'.1 ha'.2
  have hr := tmod_zero_range a b hb0
  refine refDiv_main a b (a.tdiv b) (a.tmod b) (floorOf a b) w ha'.1 ha'.2 hb'.1 hb'.2 rfl rfl hq.1 hq.2 (by omega) (by omega) ?_ ?_ ?_
  · by_cases h : a < 0
    · exact Or.inl ⟨decide_eq_true h, h⟩
    · exact Or.inr ⟨decide_eq_false h, by omega, (Int.tdiv_eq_ediv_of_nonneg (by omega)).symm, (Int.tmod_eq_emod_of_nonneg (by omega)).symm⟩
  · by_cases h : b < 0
    · exact Or.inl ⟨decide_eq_true h, h⟩
    · exact Or.inr ⟨decide_eq_false h, by omega⟩
  unfold floorOf
  by_cases hz : a.tmod b = 0
  · left; exact ⟨by simp [hz], by rw [if_neg (by omega)]⟩
  · right
    refine ⟨bne_iff_ne.2 hz, ?_⟩
    by_cases hp : 0 < b
    · have ht := trunc_pos a b hp
      by_cases hn : a < 0
      · left; exact ⟨hn, hp, by rw [if_pos (by omega)]⟩
      · right; right; right; exact ⟨by omega, hp, by rw [if_neg (by omega)]⟩
    · have ht := trunc_neg a b (by omega)
      by_cases hn : a < 0
      · right; right; left; exact ⟨hn, by omega, by rw [if_neg (by omega)]⟩
      · right; left; exact ⟨by omega, by omega, by rw [if_pos (by omega)]⟩

set_option maxHeartbeats 1000000 in
theorem refMod_main (a b r n : Int) (w : World) (ha1 : -4611686018427387904 ≤ a) (ha2 : a ≤ 4611686018427387904) (hb1 : -4611686018427387904 ≤ b) (hb2 : b ≤ 4611686018427387904)
    (hr : a.tmod b = r) (r1 : -4611686018427387904 ≤ r) (r2 : r ≤ 4611686018427387904)
    (sa : a < 0 ∨ (0 ≤ a ∧ 0 ≤ r ∧ a % b = r)) (sb : ((decide (b < 0) = true ∧ b < 0) ∨ (decide (b < 0) = false ∧ 0 < b))) (sr : ((decide (r < 0) = true ∧ r < 0) ∨ (decide (r < 0) = false ∧ 0 ≤ r)))
    (hc : ((r != 0) = false ∧ n = r) ∨ ((r != 0) = true ∧ ((r < 0 ∧ 0 < b ∧ n = r + b) ∨ (0 ≤ r ∧ b < 0 ∧ n = r + b) ∨ (r < 0 ∧ b < 0 ∧ n = r) ∨ (0 ≤ r ∧ 0 < b ∧ n = r)))) :
    Calls Try.prog 19 #[.int .i64 a, .int .i64 b] w fun x w' => x = .returned (.tuple #[.int .i64 n, .int .i64 0]) ∧ Below w.heap.size w w' := by
  rcases hc with ⟨hz, hn⟩ | ⟨hz, hn⟩
  · subst hn
    rcases sa with g1 | ⟨g1, g3, e2⟩ <;> rcases sb with ⟨d2, g2⟩ | ⟨d2, g2⟩
    all_goals
      clear sr
      go_enter Try.func19, Try.ntmps19
      go_wp2_with (go_at_call 36; refine (in_yes _ _ (by omega) (by omega)).mono ?_; rintro e w' ⟨rfl, rfl⟩)
      go_ret2
      exact ⟨rfl, Below.refl _ _⟩
  · have hb0 : (b == 0) = false := beq_eq_false_iff_ne.2 (by omega)
    rcases hn with ⟨k1, k2, k3⟩ | ⟨k1, k2, k3⟩ | ⟨k1, k2, k3⟩ | ⟨k1, k2, k3⟩
    all_goals
      rcases sa with g1 | ⟨g1, g3, e2⟩ <;> rcases sb with ⟨d2, g2⟩ | ⟨d2, g2⟩ <;> rcases sr with ⟨d1, g4⟩ | ⟨d1, g4⟩
    all_goals (try (exfalso; omega))
    all_goals
      subst k3
      go_enter Try.func19, Try.ntmps19
      go_wp2_with (go_at_call 36; refine (in_yes _ _ (by omega) (by omega)).mono ?_; rintro e w' ⟨rfl, rfl⟩)
      go_ret2
      exact ⟨rfl, Below.refl _ _⟩

theorem refMod_in (a b : Int) (ha : inR a = true) (hb : inR b = true) (hb0 : b ≠ 0) : Pair 19 a b (modOf a b) 0 := by
  intro w
  have ha' := (inR_iff a).1 ha
  have hb' := (inR_iff b).1 hb
  have hr := tmod_zero_range a b hb0
  refine refMod_main a b (a.tmod b) (modOf a b) w ha'.1 ha'.2 hb'.1 hb'.2 rfl (by omega) (by omega) ?_ ?_ ?_ ?_
  · by_cases h : a < 0
    · exact Or.inl h
    · exact Or.inr ⟨by omega, Int.tmod_nonneg b (by omega), (Int.tmod_eq_emod_of_nonneg (by omega)).symm⟩
  · by_cases h : b < 0
    · exact Or.inl ⟨decide_eq_true h, h⟩
    · exact Or.inr ⟨decide_eq_false h, by omega⟩
  · by_cases h : a.tmod b < 0
    · exact Or.inl ⟨decide_eq_true h, h⟩
    · exact Or.inr ⟨decide_eq_false h, by omega⟩
  · unfold modOf
    by_cases hz : a.tmod b = 0
    · left; exact ⟨by simp [hz], by rw [if_neg (by omega)]⟩
    · right
      refine ⟨bne_iff_ne.2 hz, ?_⟩
      by_cases hp : 0 < b
      · by_cases hn : a.tmod b < 0
        · left; exact ⟨hn, hp, by rw [if_pos (by omega)]⟩
        · right; right; right; exact ⟨by omega, hp, by rw [if_neg (by omega)]⟩
      · by_cases hn : a.tmod b < 0
        · right; right; left; exact ⟨hn, by omega, by rw [if_neg (by omega)]⟩
        · right; left; exact ⟨by omega, by omega, by rw [if_pos (by omega)]⟩

end Go.Proofs.Ytbpppeekfjfolaa.IntBasic
