/- The law IntmathCommon. -/
import Derived.Test.YtbpppeekfjfolaaIntBezout2
namespace Go.Proofs.Ytbpppeekfjfolaa.IntCommon
set_option linter.unusedVariables false
open Go.RowKit Go.Proofs.Ytbpppeekfjfolaa.IntPlain Go.Proofs.Ytbpppeekfjfolaa.IntWalks Go.Proofs.Ytbpppeekfjfolaa.IntWide Go.Proofs.Ytbpppeekfjfolaa.IntSum Go.Proofs.Ytbpppeekfjfolaa.IntAwake Go.Proofs.Ytbpppeekfjfolaa.IntBasic Go.Proofs.Ytbpppeekfjfolaa.IntGcd Go.Proofs.Ytbpppeekfjfolaa.IntLcm Go.Proofs.Ytbpppeekfjfolaa.IntMultiples Go.Proofs.Ytbpppeekfjfolaa.IntEuclid Go.Proofs.Ytbpppeekfjfolaa.IntExtended Go.Proofs.Ytbpppeekfjfolaa.IntBezout

set_option maxRecDepth 100000 in
set_option maxHeartbeats 1000000 in
theorem law_out (a b k : Int) (w : World) (h : a < -1073741824 ∨ (-1073741824 ≤ a ∧ 1073741824 < a) ∨ (-1073741824 ≤ a ∧ a ≤ 1073741824 ∧ b < -1073741824) ∨ (-1073741824 ≤ a ∧ a ≤ 1073741824 ∧ -1073741824 ≤ b ∧ 1073741824 < b) ∨ (-1073741824 ≤ a ∧ a ≤ 1073741824 ∧ -1073741824 ≤ b ∧ b ≤ 1073741824 ∧ k < -1048576) ∨ (-1073741824 ≤ a ∧ a ≤ 1073741824 ∧ -1073741824 ≤ b ∧ b ≤ 1073741824 ∧ -1048576 ≤ k ∧ 1048576 < k)) :
    Calls Try.prog 7 #[.int .i64 a, .int .i64 b, .int .i64 k] w fun e w' => e = .returned (.bool true) ∧ Below w.heap.size w w' := by
  rcases h with h1 | ⟨h1, h2⟩ | ⟨h1, h2, h3⟩ | ⟨h1, h2, h3, h4⟩ | ⟨h1, h2, h3, h4, h5⟩ | ⟨h1, h2, h3, h4, h5, h6⟩
  all_goals
    go_enter Try.func7, Try.ntmps7
    go_wp2_with (fail)
    refine (awake_any _).mono ?_
    rintro e w1 ⟨rfl, b1⟩
    go_wp2
    go_ret
    exact ⟨rfl, b1⟩

set_option maxRecDepth 100000 in
set_option maxHeartbeats 1000000 in
theorem law_zero (k : Int) (w : World) (h1 : -1048576 ≤ k) (h2 : k ≤ 1048576) (HG : Hid (Pair 22 0 0 0 0)) (HB : Hid (Quad 24 0 0 0 0 0 0)) :
    Calls Try.prog 7 #[.int .i64 0, .int .i64 0, .int .i64 k] w fun e w' => e = .returned (.bool true) ∧ Below w.heap.size w w' := by
  go_enter Try.func7, Try.ntmps7
  go_wp2_with (fail)
  refine (awake_any _).mono ?_
  rintro e w1 ⟨rfl, b1⟩
  go_wp2_with (fail)
  refine (HG.out _).mono ?_
  rintro e w2 ⟨rfl, b2⟩
  go_wp2_with (fail)
  refine (HB.out _).mono ?_
  rintro e w3 ⟨rfl, b3⟩
  go_wp2
  go_ret
  exact ⟨rfl, bt (bt b1 b2) b3⟩

set_option maxRecDepth 100000 in
set_option maxHeartbeats 8000000 in
theorem law_main (a b k g x y m p q A B r s t more n j : Int) (w : World) (ha1 : -1073741824 ≤ a) (ha2 : a ≤ 1073741824) (hb1 : -1073741824 ≤ b) (hb2 : b ≤ 1073741824) (hk1 : -1048576 ≤ k) (hk2 : k ≤ 1048576)
    (hg1 : 0 < g) (hg2 : g ≤ 1073741824) (hx1 : -1073741824 ≤ x) (hx2 : x ≤ 1073741824)
    (hp : a * x = p) (hp1 : -1152921504606846976 ≤ p) (hp2 : p ≤ 1152921504606846976) (hq : b * y = q) (hq1 : -2305843009213693952 ≤ q) (hq2 : q ≤ 2305843009213693952) (hpq : p + q = g)
    (hA : a * k = A) (hA1 : -1125899906842624 ≤ A) (hA2 : A ≤ 1125899906842624) (hB : b * k = B) (hB1 : -1125899906842624 ≤ B) (hB2 : B ≤ 1125899906842624)
    (hr1 : -1073741824 ≤ r) (hr2 : r ≤ 1073741824) (hs1 : -1073741824 ≤ s) (hs2 : s ≤ 1073741824) (hr : (r != 0) = false) (hs : (s != 0) = false) (ht1 : -1073741824 ≤ t) (ht2 : t ≤ 1073741824) (ht : (t == 0) = true) (hm : more ≤ 1125899906842624) (hm0 : 0 ≤ more)
    (ca : (a < 0 ∧ a.tmod g = r) ∨ (0 ≤ a ∧ a % g = r)) (ck : (k < 0 ∧ g * -k = more) ∨ (0 ≤ k ∧ g * k = more))
    (cb : (b < 0 ∧ b.tmod g = s ∧ (-b) / g = m ∧ 0 ≤ x ∧ x < m ∧ j = 1) ∨ (b = 0 ∧ s = 0 ∧ j = 1) ∨ (0 < b ∧ b % g = s ∧ b / g = m ∧ 0 ≤ x ∧ x < m ∧ ((¬ g = 1 ∧ j = 9) ∨ (g = 1 ∧ j = 0 ∧ n = x ∧ x < b ∧ (p - 1).tmod b = t))))
    (HG : Hid (Pair 22 a b g 0)) (HB : Hid (Quad 24 a b g x y 0)) (HM : Hid (Pair 22 A B more 0)) (HI : Hid (Pair 28 a b n j)) :
    Calls Try.prog 7 #[.int .i64 a, .int .i64 b, .int .i64 k] w fun e w' => e = .returned (.bool true) ∧ Below w.heap.size w w' := by
  rcases cb with ⟨cb, e1, e2, e3, e4, rfl⟩ | ⟨rfl, rfl, rfl⟩ | ⟨cb, e1, e2, e3, e4, ⟨e5, rfl⟩ | ⟨rfl, rfl, rfl, e6, e7⟩⟩
  all_goals rcases ca with ⟨ca, f1⟩ | ⟨ca, f1⟩
  all_goals rcases ck with ⟨ck, g1⟩ | ⟨ck, g1⟩
  all_goals
    go_enter Try.func7, Try.ntmps7
    go_wp2_with (fail)
    refine (awake_any _).mono ?_
    rintro e w1 ⟨rfl, b1⟩
    go_wp2_with (fail)
    refine (HG.out _).mono ?_
    rintro e w2 ⟨rfl, b2⟩
    go_wp2_with (fail)
    refine (HB.out _).mono ?_
    rintro e w3 ⟨rfl, b3⟩
    go_wp2_with (fail)
    refine (HM.out _).mono ?_
    rintro e w4 ⟨rfl, b4⟩
    go_wp2_with (fail)
    refine (HI.out _).mono ?_
    rintro e w5 ⟨rfl, b5⟩
    go_wp2
    go_ret
    exact ⟨by first | rfl | simp, bt (bt (bt (bt b1 b2) b3) b4) b5⟩

end Go.Proofs.Ytbpppeekfjfolaa.IntCommon
