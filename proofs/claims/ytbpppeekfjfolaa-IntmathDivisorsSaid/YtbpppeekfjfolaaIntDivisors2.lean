/- The law IntmathDivisors: Bezout in the reference. -/
import Derived.Test.YtbpppeekfjfolaaIntDivisors
namespace Go.Proofs.Ytbpppeekfjfolaa.IntDivisors
set_option linter.unusedVariables false
open Go.RowKit Go.Proofs.Ytbpppeekfjfolaa.IntPlain Go.Proofs.Ytbpppeekfjfolaa.IntWalks Go.Proofs.Ytbpppeekfjfolaa.IntWide Go.Proofs.Ytbpppeekfjfolaa.IntSum Go.Proofs.Ytbpppeekfjfolaa.IntAwake Go.Proofs.Ytbpppeekfjfolaa.IntDivision Go.Proofs.Ytbpppeekfjfolaa.IntBasic Go.Proofs.Ytbpppeekfjfolaa.IntGcd Go.Proofs.Ytbpppeekfjfolaa.IntLcm Go.Proofs.Ytbpppeekfjfolaa.IntMultiples Go.Proofs.Ytbpppeekfjfolaa.IntEuclid Go.Proofs.Ytbpppeekfjfolaa.IntExtended Go.Proofs.Ytbpppeekfjfolaa.IntBezout Go.Proofs.Ytbpppeekfjfolaa.IntInverse Go.Proofs.Ytbpppeekfjfolaa.IntWhole

set_option maxHeartbeats 2000000 in
theorem refBezout_core (a b g d m n c x y t : Int) (w : World) (ha : -4611686018427387904 ≤ a ∧ a ≤ 4611686018427387904) (hb : -4611686018427387904 ≤ b ∧ b ≤ 4611686018427387904) (hb0 : (b == 0) = false)
    (hg1 : 0 < g) (hg2 : g ≤ 4611686018427387904) (hd : 0 ≤ d) (hd2 : d ≤ 4611686018427387904) (hm : d / g = m) (hm1 : 0 < m) (hm2 : m ≤ 4611686018427387904)
    (hn : a.tdiv g = n) (hn1 : -4611686018427387904 ≤ n) (hn2 : n ≤ 4611686018427387904) (hc : b.tdiv g = c) (hc1 : -4611686018427387904 ≤ c) (hc2 : c ≤ 4611686018427387904)
    (hmx : (1 < m) ∨ (m = 1 ∧ x = 0))
    (HG : Hid (Pair 23 a b g 0)) (HA : Hid (∀ w, Calls Try.prog 41 #[.int .i64 b] w fun e w' => e = .returned (.int .i64 d) ∧ w = w'))
    (HM : Hid (Pair 19 n m t 0)) (HI : Hid (1 < m → ∀ w, Calls Try.prog 46 #[.int .i64 t, .int .i64 m] w fun e w' => e = .returned (.int .i64 x) ∧ Below w.heap.size w w'))
    (HQ : Hid (∀ w, Calls Try.prog 47 #[.int .i64 n, .int .i64 x, .int .i64 c] w fun e w' => e = .returned (.int .i64 y) ∧ Below w.heap.size w w')) :
    Calls Try.prog 25 #[.int .i64 a, .int .i64 b] w fun r w' => r = .returned (.tuple #[.int .i64 g, .int .i64 x, .int .i64 y, .int .i64 0]) ∧ Below w.heap.size w w' := by
  obtain ⟨ha1, ha2⟩ := ha
  obtain ⟨hb1, hb2⟩ := hb
  have hg0 : (g == 0) = false := beq_eq_false_iff_ne.2 (by omega)
  rcases hmx with hmx | ⟨rfl, rfl⟩
  · have HI2 := Lib.hid (HI.out hmx)
    clear HI
    all_goals
      go_enter Try.func25, Try.ntmps25
      go_wp2_with (go_at_call 36; refine (in_yes _ _ (by omega) (by omega)).mono ?_; rintro e w' ⟨rfl, rfl⟩)
      refine (HG.out _).mono ?_
      rintro r w1 ⟨rfl, b1⟩
      go_wp2_with (fail)
      refine (HA.out _).mono ?_
      rintro r w' ⟨rfl, rfl⟩
      go_wp2_with (fail)
      refine (HM.out _).mono ?_
      rintro r w2 ⟨rfl, b2⟩
      go_wp2_with (fail)
      refine (HI2.out _).mono ?_
      rintro r w3 ⟨rfl, b3⟩
      go_wp2_with (fail)
      have wn : IntKind.i64.wrap n = n := by rw [IntKind.wrap_i64]; omega
      have wc : IntKind.i64.wrap c = c := by rw [IntKind.wrap_i64]; omega
      go_region_with (go_at_call 47; ((with_reducible refine (HQ.out _).mono ?_); rintro r w4 ⟨rfl, b4⟩))
      all_goals
        go_wp2
        refine bodyPost_ret (v := .tuple #[.int .i64 g, .int .i64 x, .int .i64 y, .int .i64 0]) (by simp [results, Try.results25, go_sem]) rfl ⟨rfl, bt (Below.drew (bt (bt b1 b2) b3)) b4⟩
  · all_goals
      go_enter Try.func25, Try.ntmps25
      go_wp2_with (go_at_call 36; refine (in_yes _ _ (by omega) (by omega)).mono ?_; rintro e w' ⟨rfl, rfl⟩)
      refine (HG.out _).mono ?_
      rintro r w1 ⟨rfl, b1⟩
      go_wp2_with (fail)
      refine (HA.out _).mono ?_
      rintro r w' ⟨rfl, rfl⟩
      go_wp2_with (fail)
      have wn : IntKind.i64.wrap n = n := by rw [IntKind.wrap_i64]; omega
      have wc : IntKind.i64.wrap c = c := by rw [IntKind.wrap_i64]; omega
      go_region_with (go_at_call 47; ((with_reducible refine (HQ.out _).mono ?_); rintro r w4 ⟨rfl, b4⟩))
      all_goals
        go_wp2
        refine bodyPost_ret (v := .tuple #[.int .i64 g, .int .i64 0, .int .i64 y, .int .i64 0]) (by simp [results, Try.results25, go_sem]) rfl ⟨rfl, bt (Below.drew b1) b4⟩

end Go.Proofs.Ytbpppeekfjfolaa.IntDivisors
