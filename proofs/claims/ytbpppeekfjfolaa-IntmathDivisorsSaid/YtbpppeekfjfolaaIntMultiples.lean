/- The law IntmathMultiples. -/
import Derived.Test.YtbpppeekfjfolaaIntLcm
namespace Go.Proofs.Ytbpppeekfjfolaa.IntMultiples
set_option linter.unusedVariables false
open Go.RowKit Go.Proofs.Ytbpppeekfjfolaa.IntPlain Go.Proofs.Ytbpppeekfjfolaa.IntWalks Go.Proofs.Ytbpppeekfjfolaa.IntWide Go.Proofs.Ytbpppeekfjfolaa.IntTotal Go.Proofs.Ytbpppeekfjfolaa.IntNumber Go.Proofs.Ytbpppeekfjfolaa.IntSum Go.Proofs.Ytbpppeekfjfolaa.IntAwake Go.Proofs.Ytbpppeekfjfolaa.IntDivision Go.Proofs.Ytbpppeekfjfolaa.IntBasic Go.Proofs.Ytbpppeekfjfolaa.IntGcd Go.Proofs.Ytbpppeekfjfolaa.IntLcm

set_option maxHeartbeats 1000000 in
/-- Both results out of range. -/
theorem law_far (a b g X Y : Int) (w : World) (ha1 : -4611686018427387904 ≤ a) (ha2 : a ≤ 4611686018427387904) (hb1 : -4611686018427387904 ≤ b) (hb2 : b ≤ 4611686018427387904) (hX : (a < 0 ∧ X = -a) ∨ (0 ≤ a ∧ X = a)) (hY : (b < 0 ∧ Y = -b) ∨ (0 ≤ b ∧ Y = b))
    (HG : Hid (Pair 22 a b g 0)) (HL : Hid (Pair 26 a b 0 2)) (HM : Hid (Pair 14 X Y 0 2)) :
    Calls Try.prog 8 #[.int .i64 a, .int .i64 b] w fun e w' => e = .returned (.bool true) ∧ Below w.heap.size w w' := by
  rcases hX with ⟨hX, rfl⟩ | ⟨hX, rfl⟩ <;> rcases hY with ⟨hY, rfl⟩ | ⟨hY, rfl⟩
  all_goals
    go_enter Try.func8, Try.ntmps8
    go_wp2_with (fail)
    refine (awake_any _).mono ?_
    rintro e w1 ⟨rfl, b1⟩
    go_wp2_with (go_at_call 36; refine (in_yes _ _ (by omega) (by omega)).mono ?_; rintro e w' ⟨rfl, rfl⟩)
    refine (HG.out _).mono ?_
    rintro e w2 ⟨rfl, b2⟩
    go_wp2_with (fail)
    refine (HL.out _).mono ?_
    rintro e w3 ⟨rfl, b3⟩
    go_wp2_with (fail)
    refine (HM.out _).mono ?_
    rintro e w4 ⟨rfl, b4⟩
    go_wp2
    go_ret
    exact ⟨rfl, bt (bt (bt b1 b2) b3) b4⟩

set_option maxHeartbeats 1000000 in
/-- The product out of range, the multiple in range. -/
theorem law_half (a b g l X Y q i r s : Int) (w : World) (ha1 : -4611686018427387904 ≤ a) (ha2 : a ≤ 4611686018427387904) (hb1 : -4611686018427387904 ≤ b) (hb2 : b ≤ 4611686018427387904) (hX : (a < 0 ∧ X = -a ∧ l.tmod a = r) ∨ (0 < a ∧ X = a ∧ l % a = r)) (hY : (b < 0 ∧ Y = -b ∧ l.tmod b = s) ∨ (0 < b ∧ Y = b ∧ l % b = s))
    (hr : (r != 0) = false) (hs : (s != 0) = false) (hl : 0 < l) (hr1 : -4611686018427387904 ≤ r) (hr2 : r ≤ 4611686018427387904) (hs1 : -4611686018427387904 ≤ s) (hs2 : s ≤ 4611686018427387904)
    (HG : Hid (Pair 22 a b g 0)) (HL : Hid (Pair 26 a b l 0)) (HM : Hid (Pair 14 X Y 0 2)) (HQ : Hid (Pair 14 g l q i)) :
    Calls Try.prog 8 #[.int .i64 a, .int .i64 b] w fun e w' => e = .returned (.bool true) ∧ Below w.heap.size w w' := by
  rcases hX with ⟨hX, rfl, eX⟩ | ⟨hX, rfl, eX⟩ <;> rcases hY with ⟨hY, rfl, eY⟩ | ⟨hY, rfl, eY⟩
  all_goals
    go_enter Try.func8, Try.ntmps8
    go_wp2_with (fail)
    refine (awake_any _).mono ?_
    rintro e w1 ⟨rfl, b1⟩
    go_wp2_with (go_at_call 36; refine (in_yes _ _ (by omega) (by omega)).mono ?_; rintro e w' ⟨rfl, rfl⟩)
    refine (HG.out _).mono ?_
    rintro e w2 ⟨rfl, b2⟩
    go_wp2_with (fail)
    refine (HL.out _).mono ?_
    rintro e w3 ⟨rfl, b3⟩
    go_wp2_with (fail)
    refine (HM.out _).mono ?_
    rintro e w4 ⟨rfl, b4⟩
    go_wp2_with (fail)
    refine (HQ.out _).mono ?_
    rintro e w5 ⟨rfl, b5⟩
    go_wp2
    go_ret
    exact ⟨by first | rfl | simp, bt (bt (bt (bt b1 b2) b3) b4) b5⟩

set_option maxHeartbeats 1000000 in
/-- Both in range. -/
theorem law_near (a b g l p X Y r s : Int) (w : World) (ha1 : -4611686018427387904 ≤ a) (ha2 : a ≤ 4611686018427387904) (hb1 : -4611686018427387904 ≤ b) (hb2 : b ≤ 4611686018427387904) (hX : (a < 0 ∧ X = -a ∧ l.tmod a = r) ∨ (0 < a ∧ X = a ∧ l % a = r)) (hY : (b < 0 ∧ Y = -b ∧ l.tmod b = s) ∨ (0 < b ∧ Y = b ∧ l % b = s))
    (hr : (r != 0) = false) (hs : (s != 0) = false) (hl : 0 < l) (hr1 : -4611686018427387904 ≤ r) (hr2 : r ≤ 4611686018427387904) (hs1 : -4611686018427387904 ≤ s) (hs2 : s ≤ 4611686018427387904)
    (HG : Hid (Pair 22 a b g 0)) (HL : Hid (Pair 26 a b l 0)) (HM : Hid (Pair 14 X Y p 0)) (HQ : Hid (Pair 14 g l p 0)) :
    Calls Try.prog 8 #[.int .i64 a, .int .i64 b] w fun e w' => e = .returned (.bool true) ∧ Below w.heap.size w w' := by
  rcases hX with ⟨hX, rfl, eX⟩ | ⟨hX, rfl, eX⟩ <;> rcases hY with ⟨hY, rfl, eY⟩ | ⟨hY, rfl, eY⟩
  all_goals
    go_enter Try.func8, Try.ntmps8
    go_wp2_with (fail)
    refine (awake_any _).mono ?_
    rintro e w1 ⟨rfl, b1⟩
    go_wp2_with (go_at_call 36; refine (in_yes _ _ (by omega) (by omega)).mono ?_; rintro e w' ⟨rfl, rfl⟩)
    refine (HG.out _).mono ?_
    rintro e w2 ⟨rfl, b2⟩
    go_wp2_with (fail)
    refine (HL.out _).mono ?_
    rintro e w3 ⟨rfl, b3⟩
    go_wp2_with (fail)
    refine (HM.out _).mono ?_
    rintro e w4 ⟨rfl, b4⟩
    go_wp2_with (fail)
    refine (HQ.out _).mono ?_
    rintro e w5 ⟨rfl, b5⟩
    go_wp2
    go_ret
    exact ⟨by first | rfl | simp, bt (bt (bt (bt b1 b2) b3) b4) b5⟩

set_option maxHeartbeats 1000000 in
/-- One of both is 0. -/
theorem law_zero (a b g X Y : Int) (w : World) (ha1 : -4611686018427387904 ≤ a) (ha2 : a ≤ 4611686018427387904) (hb1 : -4611686018427387904 ≤ b) (hb2 : b ≤ 4611686018427387904) (h0 : a = 0 ∨ (¬ a = 0 ∧ b = 0)) (hX : (a < 0 ∧ X = -a) ∨ (0 < a ∧ X = a) ∨ (a = 0 ∧ X = 0)) (hY : (b < 0 ∧ Y = -b) ∨ (0 < b ∧ Y = b) ∨ (b = 0 ∧ Y = 0))
    (HG : Hid (Pair 22 a b g 0)) (HL : Hid (Pair 26 a b 0 0)) (HM : Hid (Pair 14 X Y 0 0)) (HQ : Hid (Pair 14 g 0 0 0)) :
    Calls Try.prog 8 #[.int .i64 a, .int .i64 b] w fun e w' => e = .returned (.bool true) ∧ Below w.heap.size w w' := by
  rcases hX with ⟨hX, rfl⟩ | ⟨hX, rfl⟩ | ⟨rfl, rfl⟩ <;> rcases hY with ⟨hY, rfl⟩ | ⟨hY, rfl⟩ | ⟨rfl, rfl⟩
  all_goals (try (exfalso; omega))
  all_goals
    clear h0
    go_enter Try.func8, Try.ntmps8
    go_wp2_with (fail)
    refine (awake_any _).mono ?_
    rintro e w1 ⟨rfl, b1⟩
    go_wp2_with (go_at_call 36; refine (in_yes _ _ (by omega) (by omega)).mono ?_; rintro e w' ⟨rfl, rfl⟩)
    refine (HG.out _).mono ?_
    rintro e w2 ⟨rfl, b2⟩
    go_wp2_with (fail)
    refine (HL.out _).mono ?_
    rintro e w3 ⟨rfl, b3⟩
    go_wp2_with (fail)
    refine (HM.out _).mono ?_
    rintro e w4 ⟨rfl, b4⟩
    go_wp2_with (fail)
    refine (HQ.out _).mono ?_
    rintro e w5 ⟨rfl, b5⟩
    go_wp2
    go_ret
    exact ⟨by first | rfl | simp, bt (bt (bt (bt b1 b2) b3) b4) b5⟩

set_option maxHeartbeats 1000000 in
theorem law_out (a b : Int) (w : World) (h : (inR a && inR b) = false) (HL : Hid (Pair 26 a b 0 2)) :
    Calls Try.prog 8 #[.int .i64 a, .int .i64 b] w fun e w' => e = .returned (.bool true) ∧ Below w.heap.size w w' := by
  cases ha : inR a
  all_goals (cases hb : inR b)
  all_goals (try (rw [ha, hb] at h; cases h; done))
  all_goals
    have HA := Lib.hid ha
    have HB := Lib.hid hb
    clear ha hb h
    go_enter Try.func8, Try.ntmps8
    go_wp2_with (fail)
    refine (awake_any _).mono ?_
    rintro e w1 ⟨rfl, b1⟩
    go_wp2_with (go_at_call 36; refine (in_any _ _).mono ?_; (first | rw [HA.out] | rw [HB.out]); rintro e w' ⟨rfl, rfl⟩)
    refine (HL.out _).mono ?_
    rintro e w2 ⟨rfl, b2⟩
    go_wp2
    go_ret
    exact ⟨rfl, bt b1 b2⟩

end Go.Proofs.Ytbpppeekfjfolaa.IntMultiples
