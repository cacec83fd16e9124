/- The law IntmathDivisors: the cases put together, and the walk. -/
import Derived.Test.YtbpppeekfjfolaaIntDivisors2
namespace Go.Proofs.Ytbpppeekfjfolaa.IntDivisors
set_option linter.unusedVariables false
open Go.RowKit Go.Proofs.Ytbpppeekfjfolaa.IntPlain Go.Proofs.Ytbpppeekfjfolaa.IntWalks Go.Proofs.Ytbpppeekfjfolaa.IntWide Go.Proofs.Ytbpppeekfjfolaa.IntSum Go.Proofs.Ytbpppeekfjfolaa.IntAwake Go.Proofs.Ytbpppeekfjfolaa.IntDivision Go.Proofs.Ytbpppeekfjfolaa.IntBasic Go.Proofs.Ytbpppeekfjfolaa.IntGcd Go.Proofs.Ytbpppeekfjfolaa.IntLcm Go.Proofs.Ytbpppeekfjfolaa.IntMultiples Go.Proofs.Ytbpppeekfjfolaa.IntEuclid Go.Proofs.Ytbpppeekfjfolaa.IntExtended Go.Proofs.Ytbpppeekfjfolaa.IntBezout Go.Proofs.Ytbpppeekfjfolaa.IntInverse Go.Proofs.Ytbpppeekfjfolaa.IntWhole

theorem leads_mod (n c s m x y : Int) (hs : s * m = c) (h : Leads n c x y) : Leads (modOf n m) m x (floorOf n m * x + s * y) := by
  unfold Leads at *
  have hfm := floor_mod n m
  rw [← h, ← hs]
  have e : n * x = (floorOf n m * m + modOf n m) * x := by rw [hfm]
  rw [e]
  grind

theorem refGcd_pair (a b : Int) (ha : inR a = true) (hb : inR b = true) : Pair 23 a b (Int.gcd a b : Nat) 0 := refGcd_in a b ha hb

theorem sameBezout (a b : Int) : ∃ g x y e : Int, Quad 24 a b g x y e ∧ Quad 25 a b g x y e ∧
    (((inR a && inR b) = false ∧ e = 2) ∨ ((inR a && inR b) = true ∧ e = 0 ∧ g = (Int.gcd a b : Nat) ∧ (b ≠ 0 → Leads (a / (Int.gcd a b : Nat)) (b / (Int.gcd a b : Nat)) x y ∧ 0 ≤ x ∧ x < ((b.natAbs : Nat) : Int) / (Int.gcd a b : Nat)))) := by
  cases hi : inR a && inR b
  · exact ⟨0, 0, 0, 2, bezout_out a b hi, refBezout_out a b hi, Or.inl ⟨rfl, rfl⟩⟩
  · obtain ⟨ha, hb⟩ := Bool.and_eq_true_iff.1 hi
    have ha' := (inR_iff a).1 ha
    have hb' := (inR_iff b).1 hb
    by_cases hb0 : b = 0
    · subst hb0
      have hg : ((Int.gcd a 0 : Nat) : Int) = ((a.natAbs : Nat) : Int) := by rw [Int.gcd_zero_right]
      have hG := refGcd_pair a 0 ha hb
      refine ⟨_, _, 0, 0, bezout_zero a ha, ?_, Or.inr ⟨rfl, rfl, hg.symm, fun h => absurd rfl h⟩⟩
      rw [hg] at hG
      refine refBezout_zero a _ _ ha' ?_ (Lib.hid hG)
      by_cases h1 : a < 0
      · exact Or.inl ⟨h1, Int.sign_eq_neg_one_of_neg h1⟩
      · by_cases h2 : 0 < a
        · exact Or.inr (Or.inl ⟨h2, Int.sign_eq_one_of_pos h2⟩)
        · obtain rfl : a = 0 := by omega
          exact Or.inr (Or.inr ⟨rfl, rfl, rfl⟩)
    · obtain ⟨x, y, hB, hL, hx1, hx2⟩ := bezout_in a b ha hb hb0
      obtain ⟨f1, f2, f3, f4, f5, f6⟩ := bezout_facts a b hb0
      have hgr := (inR_iff _).1 (gcd_range a b ha hb)
      have hda : ((Int.gcd a b : Nat) : Int) ∣ a := Int.gcd_dvd_left ..
      have hdb : ((Int.gcd a b : Nat) : Int) ∣ b := Int.gcd_dvd_right ..
      have hmr : ((b.natAbs : Nat) : Int) / (Int.gcd a b : Nat) ≤ ((b.natAbs : Nat) : Int) := Int.ediv_le_self _ (by omega)
      have hnr : ((a / ((Int.gcd a b : Nat) : Int)).natAbs : Int) ≤ 4611686018427387904 := by
        have h1 := congrArg Int.natAbs f2
        rw [Int.natAbs_mul] at h1
        have h2 : (a / ((Int.gcd a b : Nat) : Int)).natAbs * 1 ≤ (a / ((Int.gcd a b : Nat) : Int)).natAbs * (((Int.gcd a b : Nat) : Int)).natAbs := Nat.mul_le_mul_left _ (by omega)
        omega
      have hn : inR (a / ((Int.gcd a b : Nat) : Int)) = true := (inR_iff _).2 (by omega)
      have hc : inR (b / ((Int.gcd a b : Nat) : Int)) = true := (inR_iff _).2 (by omega)
      have hm : inR (((b.natAbs : Nat) : Int) / ((Int.gcd a b : Nat) : Int)) = true := (inR_iff _).2 (by omega)
      have hc0 : b / ((Int.gcd a b : Nat) : Int) ≠ 0 := fun h => by rw [h] at f6; simp at f6; omega
      have hmp := mod_pos (a / ((Int.gcd a b : Nat) : Int)) (((b.natAbs : Nat) : Int) / ((Int.gcd a b : Nat) : Int)) f5
      refine ⟨_, x, y, 0, hB, fun w => ?_, Or.inr ⟨rfl, rfl, rfl, fun _ => ⟨hL, hx1, hx2⟩⟩⟩
      refine refBezout_core a b _ ((b.natAbs : Nat) : Int) (((b.natAbs : Nat) : Int) / ((Int.gcd a b : Nat) : Int)) (a / ((Int.gcd a b : Nat) : Int)) (b / ((Int.gcd a b : Nat) : Int)) x y (modOf (a / ((Int.gcd a b : Nat) : Int)) (((b.natAbs : Nat) : Int) / ((Int.gcd a b : Nat) : Int))) w ha' hb' (beq_eq_false_iff_ne.2 hb0)
        f1 hgr.2 (by omega) (by omega) rfl f5 (by omega) (Int.tdiv_eq_ediv_of_dvd hda) (by omega) (by omega) (Int.tdiv_eq_ediv_of_dvd hdb) (by omega) (by omega) (by omega)
        (Lib.hid (refGcd_pair a b ha hb)) (Lib.hid fun w => refabs_any b w (by omega)) (Lib.hid (refMod_in _ _ hn hm (by omega))) (Lib.hid fun h1 w => ?_) (Lib.hid fun w => quotient_is _ x _ y w hn hc hc0 hx1 (by omega) hL)
      exact inverse_is _ _ x _ w h1 (by omega) hmp.1 hmp.2.1 hx1 hx2 (leads_mod _ _ b.sign _ x y f4 hL)

theorem refInverse_out (a m : Int) (h : (inR a && inR m) = false) : Pair 29 a m 0 2 := by
  intro w
  cases ha : inR a
  all_goals (cases hb : inR m)
  all_goals (try (rw [ha, hb] at h; cases h; done))
  all_goals
    have HA := Lib.hid ha
    have HB := Lib.hid hb
    clear ha hb h
    go_enter Try.func29, Try.ntmps29
    go_wp2_with (go_at_call 36; refine (in_any _ _).mono ?_; (first | rw [HA.out] | rw [HB.out]); rintro e w' ⟨rfl, rfl⟩)
    go_ret2
    exact ⟨rfl, Below.refl _ _⟩

theorem refInverse_core (a m g x t v f : Int) (w : World) (ha : -4611686018427387904 ≤ a ∧ a ≤ 4611686018427387904) (hb : -4611686018427387904 ≤ m ∧ m ≤ 4611686018427387904)
    (hc : (m < 1 ∧ v = 0 ∧ f = 1) ∨ (1 ≤ m ∧ (g != 1) = true ∧ v = 0 ∧ f = 9) ∨ (m = 1 ∧ g = 1 ∧ v = 0 ∧ f = 0) ∨ (1 < m ∧ g = 1 ∧ v = x ∧ f = 0))
    (HG : Hid (Pair 23 a m g 0)) (HM : Hid (1 < m → Pair 19 a m t 0)) (HI : Hid (1 < m → g = 1 → ∀ w, Calls Try.prog 46 #[.int .i64 t, .int .i64 m] w fun e w' => e = .returned (.int .i64 x) ∧ Below w.heap.size w w')) :
    Calls Try.prog 29 #[.int .i64 a, .int .i64 m] w fun r w' => r = .returned (.tuple #[.int .i64 v, .int .i64 f]) ∧ Below w.heap.size w w' := by
  obtain ⟨ha1, ha2⟩ := ha
  obtain ⟨hb1, hb2⟩ := hb
  rcases hc with ⟨h1, rfl, rfl⟩ | ⟨h1, h2, rfl, rfl⟩ | ⟨rfl, rfl, rfl, rfl⟩ | ⟨h1, rfl, rfl, rfl⟩
  · go_enter Try.func29, Try.ntmps29
    go_wp2_with (go_at_call 36; refine (in_yes _ _ (by omega) (by omega)).mono ?_; rintro e w' ⟨rfl, rfl⟩)
    go_ret2
    exact ⟨rfl, Below.refl _ _⟩
  · go_enter Try.func29, Try.ntmps29
    go_wp2_with (go_at_call 36; refine (in_yes _ _ (by omega) (by omega)).mono ?_; rintro e w' ⟨rfl, rfl⟩)
    refine (HG.out _).mono ?_
    rintro r w1 ⟨rfl, b1⟩
    go_wp2
    go_ret2
    exact ⟨rfl, b1⟩
  · go_enter Try.func29, Try.ntmps29
    go_wp2_with (go_at_call 36; refine (in_yes _ _ (by omega) (by omega)).mono ?_; rintro e w' ⟨rfl, rfl⟩)
    refine (HG.out _).mono ?_
    rintro r w1 ⟨rfl, b1⟩
    go_wp2
    go_ret2
    exact ⟨rfl, b1⟩
  · have HM2 := Lib.hid (HM.out h1)
    have HI2 := Lib.hid (HI.out h1 rfl)
    have hm1 : (m == 1) = false := beq_eq_false_iff_ne.2 (by omega)
    go_enter Try.func29, Try.ntmps29
    go_wp2_with (go_at_call 36; refine (in_yes _ _ (by omega) (by omega)).mono ?_; rintro e w' ⟨rfl, rfl⟩)
    refine (HG.out _).mono ?_
    rintro r w1 ⟨rfl, b1⟩
    go_wp2_with (fail)
    refine (HM2.out _).mono ?_
    rintro r w2 ⟨rfl, b2⟩
    go_wp2_with (fail)
    refine (HI2.out _).mono ?_
    rintro r w3 ⟨rfl, b3⟩
    go_wp2
    go_ret2
    exact ⟨rfl, bt (bt b1 b2) b3⟩

theorem sameInverse (a m : Int) : ∃ v f, Pair 28 a m v f ∧ Pair 29 a m v f := by
  obtain ⟨g, x, y, e, hB, _, hc⟩ := sameBezout a m
  rcases hc with ⟨hi, rfl⟩ | ⟨hi, rfl, rfl, hL⟩
  · exact ⟨0, 2, inverse_of a m _ _ _ _ 0 2 (Lib.hid hB) (Or.inl ⟨rfl, rfl, rfl⟩), refInverse_out a m hi⟩
  · obtain ⟨ha, hb⟩ := Bool.and_eq_true_iff.1 hi
    have ha' := (inR_iff a).1 ha
    have hb' := (inR_iff m).1 hb
    have hG := refGcd_pair a m ha hb
    have hM : 1 < m → Pair 19 a m (modOf a m) 0 := fun h => refMod_in a m ha hb (by omega)
    have hI : 1 < m → ((Int.gcd a m : Nat) : Int) = 1 → ∀ w, Calls Try.prog 46 #[.int .i64 (modOf a m), .int .i64 m] w fun e w' => e = .returned (.int .i64 x) ∧ Below w.heap.size w w' := by
      intro h1 hg w
      obtain ⟨l1, l2, l3⟩ := hL (by omega)
      rw [hg, Int.ediv_one, Int.ediv_one] at l1
      rw [hg, Int.ediv_one] at l3
      have hmp := mod_pos a m (by omega)
      exact inverse_is _ m x _ w h1 hb'.2 hmp.1 hmp.2.1 l2 (by omega) (leads_mod a m 1 m x y (by omega) l1)
    by_cases h1 : m < 1
    · exact ⟨0, 1, inverse_of a m _ _ _ _ 0 1 (Lib.hid hB) (Or.inr (Or.inl ⟨rfl, h1, rfl, rfl⟩)), fun w => refInverse_core a m _ x _ 0 1 w ha' hb' (Or.inl ⟨h1, rfl, rfl⟩) (Lib.hid hG) (Lib.hid hM) (Lib.hid hI)⟩
    · by_cases hg : ((Int.gcd a m : Nat) : Int) = 1
      · by_cases hm1 : m = 1
        · obtain ⟨_, l2, l3⟩ := hL (by omega)
          have hx0 : x = 0 := by
            rw [hg, Int.ediv_one] at l3
            omega
          exact ⟨0, 0, inverse_of a m _ _ _ _ 0 0 (Lib.hid hB) (Or.inr (Or.inr (Or.inr ⟨rfl, by omega, hg, hx0.symm, rfl⟩))), fun w => refInverse_core a m _ x _ 0 0 w ha' hb' (Or.inr (Or.inr (Or.inl ⟨hm1, hg, rfl, rfl⟩))) (Lib.hid hG) (Lib.hid hM) (Lib.hid hI)⟩
        · exact ⟨x, 0, inverse_of a m _ _ _ _ x 0 (Lib.hid hB) (Or.inr (Or.inr (Or.inr ⟨rfl, by omega, hg, rfl, rfl⟩))), fun w => refInverse_core a m _ x _ x 0 w ha' hb' (Or.inr (Or.inr (Or.inr ⟨by omega, hg, rfl, rfl⟩))) (Lib.hid hG) (Lib.hid hM) (Lib.hid hI)⟩
      · exact ⟨0, 9, inverse_of a m _ _ _ _ 0 9 (Lib.hid hB) (Or.inr (Or.inr (Or.inl ⟨rfl, by omega, bne_iff_ne.2 hg, rfl, rfl⟩))), fun w => refInverse_core a m _ x _ 0 9 w ha' hb' (Or.inr (Or.inl ⟨by omega, bne_iff_ne.2 hg, rfl, rfl⟩)) (Lib.hid hG) (Lib.hid hM) (Lib.hid hI)⟩

set_option maxRecDepth 100000 in
set_option maxHeartbeats 2000000 in
theorem walk (a b : Int) (w : World) :
    Calls Try.prog 4 #[.int .i64 a, .int .i64 b] w fun e w' => e = .returned (.bool true) ∧ Below w.heap.size w w' := by
  obtain ⟨v0, e0, p0, r0, _⟩ := sameGcd a b
  obtain ⟨g1, x1, y1, e1, p1, r1, _⟩ := sameBezout a b
  obtain ⟨v2, e2, p2, r2, _⟩ := sameLcm a b
  obtain ⟨v3, e3, p3, r3⟩ := sameInverse a b
  have P0 := Lib.hid p0
  have R0 := Lib.hid r0
  have P1 := Lib.hid p1
  have R1 := Lib.hid r1
  have P2 := Lib.hid p2
  have R2 := Lib.hid r2
  have P3 := Lib.hid p3
  have R3 := Lib.hid r3
  clear p0 p1 p2 p3 r0 r1 r2 r3
  go_enter Try.func4, Try.ntmps4
  go_wp2_with (fail)
  refine (awake_any _).mono ?_
  rintro e w0 ⟨rfl, b0⟩
  go_wp2_with (fail)
  refine (P0.out _).mono ?_
  rintro e u0 ⟨rfl, c0⟩
  go_wp2_with (fail)
  refine (R0.out _).mono ?_
  rintro e z0 ⟨rfl, d0⟩
  go_wp2_with (fail)
  refine (P1.out _).mono ?_
  rintro e u1 ⟨rfl, c1⟩
  go_wp2_with (fail)
  refine (R1.out _).mono ?_
  rintro e z1 ⟨rfl, d1⟩
  go_wp2_with (fail)
  refine (P2.out _).mono ?_
  rintro e u2 ⟨rfl, c2⟩
  go_wp2_with (fail)
  refine (R2.out _).mono ?_
  rintro e z2 ⟨rfl, d2⟩
  go_wp2_with (fail)
  refine (P3.out _).mono ?_
  rintro e u3 ⟨rfl, c3⟩
  go_wp2_with (fail)
  refine (R3.out _).mono ?_
  rintro e z3 ⟨rfl, d3⟩
  go_wp2
  go_ret
  exact ⟨by first | rfl | simp, bt (bt (bt (bt (bt (bt (bt (bt b0 c0) d0) c1) d1) c2) d2) c3) d3⟩

end Go.Proofs.Ytbpppeekfjfolaa.IntDivisors
