/- The law IntmathDivisors: Bezout and Inverse in the reference, and the walk. -/
import Derived.Test.YtbpppeekfjfolaaIntWhole
namespace Go.Proofs.Ytbpppeekfjfolaa.IntDivisors
set_option linter.unusedVariables false
open Go.RowKit Go.Proofs.Ytbpppeekfjfolaa.IntPlain Go.Proofs.Ytbpppeekfjfolaa.IntWalks Go.Proofs.Ytbpppeekfjfolaa.IntWide Go.Proofs.Ytbpppeekfjfolaa.IntSum Go.Proofs.Ytbpppeekfjfolaa.IntAwake Go.Proofs.Ytbpppeekfjfolaa.IntDivision Go.Proofs.Ytbpppeekfjfolaa.IntBasic Go.Proofs.Ytbpppeekfjfolaa.IntGcd Go.Proofs.Ytbpppeekfjfolaa.IntLcm Go.Proofs.Ytbpppeekfjfolaa.IntMultiples Go.Proofs.Ytbpppeekfjfolaa.IntEuclid Go.Proofs.Ytbpppeekfjfolaa.IntExtended Go.Proofs.Ytbpppeekfjfolaa.IntBezout Go.Proofs.Ytbpppeekfjfolaa.IntInverse Go.Proofs.Ytbpppeekfjfolaa.IntWhole

set_option maxHeartbeats 1000000 in
theorem quotient_core (a x b y q r n d W : Int) (w : World) (hb : b < 0 ∨ 0 < b) (hq1 : -4611686018427387905 ≤ q) (hq2 : q ≤ 4611686018427387904) (hW1 : -1 ≤ W) (hW2 : W ≤ 4611686018427387904)
    (hy : Hid (wrap64 (-W - wrap64 (q * x)) = y))
    (HQ : Hid (Pair 17 a b q 0)) (HR : Hid (Pair 19 a b r 0))
    (HA : Hid (∀ w, Calls Try.prog 41 #[.int .i64 r] w fun e w' => e = .returned (.int .i64 n) ∧ w = w')) (HB : Hid (∀ w, Calls Try.prog 41 #[.int .i64 b] w fun e w' => e = .returned (.int .i64 d) ∧ w = w'))
    (HW : Hid (∀ s w, (s = if b < 0 then -1 else 1) → Calls Try.prog 52 #[.int .i64 n, .int .i64 x, .int .i64 d, .int .i64 s] w fun e w' => e = .returned (.int .i64 W) ∧ Below w.heap.size w w')) :
    Calls Try.prog 47 #[.int .i64 a, .int .i64 x, .int .i64 b] w fun e w' => e = .returned (.int .i64 y) ∧ Below w.heap.size w w' := by
  have hs : (b < 0 → (if b < 0 then (-1 : Int) else 1) = -1) ∧ (0 < b → (if b < 0 then (-1 : Int) else 1) = 1) := ⟨fun h => if_pos h, fun h => if_neg (by omega)⟩
  have HS := Lib.hid hs
  clear hs
  rcases hb with hb | hb
  · go_enter Try.func47, Try.ntmps47
    go_wp2_with (fail)
    refine (HQ.out _).mono ?_
    rintro e w1 ⟨rfl, b1⟩
    go_wp2_with (fail)
    refine (HR.out _).mono ?_
    rintro e w2 ⟨rfl, b2⟩
    go_wp2_with (fail)
    refine (HA.out _).mono ?_
    rintro e w' ⟨rfl, rfl⟩
    go_wp2_with (fail)
    refine (HB.out _).mono ?_
    rintro e w' ⟨rfl, rfl⟩
    go_wp2_with (fail)
    refine (HW.out (-1) _ (HS.out.1 hb).symm).mono ?_
    rintro e w3 ⟨rfl, b3⟩
    go_wp2
    go_ret
    exact ⟨by rw [← hy.out]; rfl, bt (bt b1 b2) b3⟩
  · go_enter Try.func47, Try.ntmps47
    go_wp2_with (fail)
    refine (HQ.out _).mono ?_
    rintro e w1 ⟨rfl, b1⟩
    go_wp2_with (fail)
    refine (HR.out _).mono ?_
    rintro e w2 ⟨rfl, b2⟩
    go_wp2_with (fail)
    refine (HA.out _).mono ?_
    rintro e w' ⟨rfl, rfl⟩
    go_wp2_with (fail)
    refine (HB.out _).mono ?_
    rintro e w' ⟨rfl, rfl⟩
    go_wp2_with (fail)
    refine (HW.out 1 _ (HS.out.2 hb).symm).mono ?_
    rintro e w3 ⟨rfl, b3⟩
    go_wp2
    go_ret
    exact ⟨by rw [← hy.out]; rfl, bt (bt b1 b2) b3⟩

theorem quotient_is (a x b y : Int) (w : World) (ha : inR a = true) (hb : inR b = true) (hb0 : b ≠ 0) (hx : 0 ≤ x) (hx2 : x < (b.natAbs : Nat)) (hl : Leads a b x y) :
    Calls Try.prog 47 #[.int .i64 a, .int .i64 x, .int .i64 b] w fun e w' => e = .returned (.int .i64 y) ∧ Below w.heap.size w w' := by
  have ha' := (inR_iff a).1 ha
  have hb' := (inR_iff b).1 hb
  have hfr := floor_range a b ha
  have hfm := floor_mod a b
  have hmr : (modOf a b).natAbs < b.natAbs := by
    by_cases hp : 0 < b
    · have := mod_pos a b hp; omega
    · have := mod_neg a b (by omega); omega
  have hms : (b < 0 → modOf a b ≤ 0) ∧ (0 < b → 0 ≤ modOf a b) := ⟨fun h => (mod_neg a b h).1, fun h => (mod_pos a b h).1⟩
  have hyr := leads_range a b.sign ((b.natAbs : Nat) : Int) x y (by
    by_cases hp : 0 < b
    · exact Or.inl (Int.sign_eq_one_of_pos hp)
    · exact Or.inr (Int.sign_eq_neg_one_of_neg (by omega))) (by omega) (by omega) (by omega) (by rw [Int.sign_mul_natAbs]; exact hl)
  have hW : ∀ s : Int, (s = if b < 0 then -1 else 1) → ((modOf a b).natAbs : Int) * x - s = (-(floorOf a b * x + y)) * (b.natAbs : Nat) := by
    intro s hs
    unfold Leads at hl
    by_cases hn : b < 0
    · rw [if_pos hn] at hs
      have e1 : ((modOf a b).natAbs : Int) = -modOf a b := by have := hms.1 hn; omega
      have e2 : ((b.natAbs : Nat) : Int) = -b := by omega
      rw [e1, e2, hs]
      rw [← hfm] at hl
      grind
    · rw [if_neg hn] at hs
      have e1 : ((modOf a b).natAbs : Int) = modOf a b := by have := hms.2 (by omega); omega
      have e2 : ((b.natAbs : Nat) : Int) = b := by omega
      rw [e1, e2, hs]
      rw [← hfm] at hl
      grind
  have hWr : -1 ≤ -(floorOf a b * x + y) ∧ -(floorOf a b * x + y) ≤ (b.natAbs : Nat) := by
    have h1 := hW _ rfl
    generalize -(floorOf a b * x + y) = W at *
    have hnx : ((modOf a b).natAbs : Int) * x ≤ (b.natAbs - 1 : Nat) * (b.natAbs - 1 : Nat) := Int.mul_le_mul (by omega) (by omega) hx (by omega)
    have hnx0 : 0 ≤ ((modOf a b).natAbs : Int) * x := Int.mul_nonneg (by omega) hx
    have hsv : (if b < 0 then (-1 : Int) else 1) = -1 ∨ (if b < 0 then (-1 : Int) else 1) = 1 := by split <;> omega
    obtain ⟨D, hD⟩ : ∃ D : Nat, b.natAbs = D + 1 := ⟨b.natAbs - 1, by omega⟩
    rw [hD] at h1 hnx
    rw [hD]
    generalize (if b < 0 then (-1 : Int) else 1) = s at *
    constructor
    · apply Int.le_of_not_gt
      intro hc
      have := Int.mul_le_mul_of_nonneg_right (show W ≤ -2 by omega) (show (0 : Int) ≤ ((D + 1 : Nat) : Int) by omega)
      omega
    · apply Int.le_of_not_gt
      intro hc
      have h5 := Int.mul_le_mul_of_nonneg_right (show ((D + 2 : Nat) : Int) ≤ W by omega) (show (0 : Int) ≤ ((D + 1 : Nat) : Int) by omega)
      have h6 : ((D + 2 : Nat) : Int) * ((D + 1 : Nat) : Int) = ((D + 1 - 1 : Nat) : Int) * ((D + 1 - 1 : Nat) : Int) + 3 * D + 2 := by
        rw [Nat.add_sub_cancel]; grind
      omega
  refine quotient_core a x b y (floorOf a b) (modOf a b) ((modOf a b).natAbs : Nat) (b.natAbs : Nat) (-(floorOf a b * x + y)) w (by omega) hfr.1 hfr.2 hWr.1 (by omega) (Lib.hid ?_)
    (Lib.hid (refDiv_in a b ha hb hb0)) (Lib.hid (refMod_in a b ha hb hb0)) (Lib.hid fun w => refabs_any _ w (by omega)) (Lib.hid fun w => refabs_any b w (by omega)) (Lib.hid fun s w hs => ?_)
  · unfold wrap64
    omega
  · refine whole_is _ x _ s _ w (by omega) (by omega) hx hx2 (by omega) ?_ (hW s hs)
    rw [hs]
    split <;> omega

theorem refBezout_out (a b : Int) (h : (inR a && inR b) = false) : Quad 25 a b 0 0 0 2 := by
  intro w
  cases ha : inR a
  all_goals (cases hb : inR b)
  all_goals (try (rw [ha, hb] at h; cases h; done))
  all_goals
    have HA := Lib.hid ha
    have HB := Lib.hid hb
    clear ha hb h
    go_enter Try.func25, Try.ntmps25
    go_wp2_with (go_at_call 36; refine (in_any _ _).mono ?_; (first | rw [HA.out] | rw [HB.out]); rintro e w' ⟨rfl, rfl⟩)
    refine bodyPost_ret (v := .tuple #[.int .i64 0, .int .i64 0, .int .i64 0, .int .i64 2]) (by simp [results, Try.results25, go_sem]) rfl ⟨rfl, ?_⟩
    exact Below.refl _ _

theorem refBezout_zero (a g s : Int) (ha : -4611686018427387904 ≤ a ∧ a ≤ 4611686018427387904) (hs : (a < 0 ∧ s = -1) ∨ (0 < a ∧ s = 1) ∨ (a = 0 ∧ s = 0 ∧ g = 0)) (HG : Hid (Pair 23 a 0 g 0)) : Quad 25 a 0 g s 0 0 := by
  intro w
  obtain ⟨ha1, ha2⟩ := ha
  rcases hs with ⟨hs, rfl⟩ | ⟨hs, rfl⟩ | ⟨rfl, rfl, rfl⟩
  · go_enter Try.func25, Try.ntmps25
    go_wp2_with (go_at_call 36; refine (in_yes _ _ (by omega) (by omega)).mono ?_; rintro e w' ⟨rfl, rfl⟩)
    refine (HG.out _).mono ?_
    rintro e w1 ⟨rfl, b1⟩
    go_wp2
    refine bodyPost_ret (v := .tuple #[.int .i64 g, .int .i64 (-1), .int .i64 0, .int .i64 0]) (by simp [results, Try.results25, go_sem]) rfl ⟨rfl, b1⟩
  · go_enter Try.func25, Try.ntmps25
    go_wp2_with (go_at_call 36; refine (in_yes _ _ (by omega) (by omega)).mono ?_; rintro e w' ⟨rfl, rfl⟩)
    refine (HG.out _).mono ?_
    rintro e w1 ⟨rfl, b1⟩
    go_wp2
    refine bodyPost_ret (v := .tuple #[.int .i64 g, .int .i64 1, .int .i64 0, .int .i64 0]) (by simp [results, Try.results25, go_sem]) rfl ⟨rfl, b1⟩
  · go_enter Try.func25, Try.ntmps25
    go_wp2_with (go_at_call 36; refine (in_yes _ _ (by omega) (by omega)).mono ?_; rintro e w' ⟨rfl, rfl⟩)
    refine (HG.out _).mono ?_
    rintro e w1 ⟨rfl, b1⟩
    go_wp2
    refine bodyPost_ret (v := .tuple #[.int .i64 0, .int .i64 0, .int .i64 0, .int .i64 0]) (by simp [results, Try.results25, go_sem]) rfl ⟨rfl, b1⟩

end Go.Proofs.Ytbpppeekfjfolaa.IntDivisors
