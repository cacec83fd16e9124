/- The law IntmathBasic, further: products and divisions in the reference, and the functions of the program. -/
import Derived.Test.YtbpppeekfjfolaaIntBasic
namespace Go.Proofs.Ytbpppeekfjfolaa.IntBasic
set_option linter.unusedVariables false
open Go.RowKit Go.Proofs.Ytbpppeekfjfolaa.IntPlain Go.Proofs.Ytbpppeekfjfolaa.IntWalks Go.Proofs.Ytbpppeekfjfolaa.IntWide Go.Proofs.Ytbpppeekfjfolaa.IntTotal Go.Proofs.Ytbpppeekfjfolaa.IntNumber Go.Proofs.Ytbpppeekfjfolaa.IntSum Go.Proofs.Ytbpppeekfjfolaa.IntAwake Go.Proofs.Ytbpppeekfjfolaa.IntDivision

theorem mul_bound (a b : Int) (h : a.natAbs * b.natAbs ≤ 4611686018427387904) : -4611686018427387904 ≤ a * b ∧ a * b ≤ 4611686018427387904 := by
  have e := Int.natAbs_mul a b
  omega

theorem refMul_zero (a b : Int) (ha : inR a = true) (hb : inR b = true) (h : a = 0 ∨ b = 0) : Pair 15 a b 0 0 := by
  intro w
  have ha' := (inR_iff a).1 ha
  have hb' := (inR_iff b).1 hb
  clear ha hb
  obtain ⟨ha1, ha2⟩ := ha'
  obtain ⟨hb1, hb2⟩ := hb'
  by_cases h1 : a = 0
  · subst h1
    go_enter Try.func15, Try.ntmps15
    go_wp2_with (go_at_call 36; refine (in_yes _ _ (by omega) (by omega)).mono ?_; rintro e w' ⟨rfl, rfl⟩)
    go_ret2
    exact ⟨rfl, Below.refl _ _⟩
  · obtain rfl : b = 0 := by omega
    have hz : (a == 0) = false := beq_eq_false_iff_ne.2 h1
    clear h
    go_enter Try.func15, Try.ntmps15
    go_wp2_with (go_at_call 36; refine (in_yes _ _ (by omega) (by omega)).mono ?_; rintro e w' ⟨rfl, rfl⟩)
    go_ret2
    exact ⟨rfl, Below.refl _ _⟩

set_option maxHeartbeats 400000 in
theorem refMul_in (a b : Int) (ha : inR a = true) (hb : inR b = true) (ha0 : a ≠ 0) (hb0 : b ≠ 0) (hs : inR (a * b) = true) : Pair 15 a b (a * b) 0 := by
  intro w
  have ha' := (inR_iff a).1 ha
  have hb' := (inR_iff b).1 hb
  have hs' := (inR_iff _).1 hs
  have hm : a.natAbs * b.natAbs ≤ 4611686018427387904 := by have := Int.natAbs_mul a b; omega
  have hq : ((a.natAbs : Nat) : Int) ≤ 4611686018427387904 / ((b.natAbs : Nat) : Int) := by
    rw [Int.le_ediv_iff_mul_le (by omega)]
    rw [← Int.natCast_mul]; omega
  have HQ := Lib.hid hq
  clear ha hb hs hm hq
  obtain ⟨ha1, ha2⟩ := ha'
  obtain ⟨hb1, hb2⟩ := hb'
  obtain ⟨hs1, hs2⟩ := hs'
  have hza : (a == 0) = false := beq_eq_false_iff_ne.2 ha0
  have hzb : (b == 0) = false := beq_eq_false_iff_ne.2 hb0
  have hab := refabs_any a
  have hbb := refabs_any b
  have hbn : 0 < ((b.natAbs : Nat) : Int) := by omega
  have hbn2 : ((b.natAbs : Nat) : Int) ≤ 4611686018427387904 := by omega
  generalize hA : a.natAbs = x at *
  generalize hB : b.natAbs = y at *
  have HAB := Lib.hid hab
  have HBB := Lib.hid hbb
  have hyz : (((y : Nat) : Int) == 0) = false := beq_eq_false_iff_ne.2 (by omega)
  clear hA hB ha0 hb0 hab hbb
  go_enter Try.func15, Try.ntmps15
  go_wp2_with (go_at_call 36; refine (in_yes _ _ (by omega) (by omega)).mono ?_; rintro e w' ⟨rfl, rfl⟩)
  refine (HAB.out _ (by omega)).mono ?_
  rintro e w' ⟨rfl, rfl⟩
  go_wp2_with (fail)
  refine (HBB.out _ (by omega)).mono ?_
  rintro e w' ⟨rfl, rfl⟩
  go_wp2
  · exact absurd HQ.out (by omega)
  · go_ret2
    exact ⟨rfl, Below.refl _ _⟩

set_option maxHeartbeats 400000 in
theorem refMul_far (a b : Int) (ha : inR a = true) (hb : inR b = true) (ha0 : a ≠ 0) (hb0 : b ≠ 0) (hs : inR (a * b) = false) : Pair 15 a b 0 2 := by
  intro w
  have ha' := (inR_iff a).1 ha
  have hb' := (inR_iff b).1 hb
  have hs' := not_in hs
  have hm : 4611686018427387904 < a.natAbs * b.natAbs := by have := Int.natAbs_mul a b; omega
  have hq : 4611686018427387904 / ((b.natAbs : Nat) : Int) < ((a.natAbs : Nat) : Int) := by
    rw [Int.ediv_lt_iff_lt_mul (by omega)]
    rw [← Int.natCast_mul]; omega
  have HQ := Lib.hid hq
  clear ha hb hs hm hs' hq
  obtain ⟨ha1, ha2⟩ := ha'
  obtain ⟨hb1, hb2⟩ := hb'
  have hza : (a == 0) = false := beq_eq_false_iff_ne.2 ha0
  have hzb : (b == 0) = false := beq_eq_false_iff_ne.2 hb0
  have hab := refabs_any a
  have hbb := refabs_any b
  have hbn : 0 < ((b.natAbs : Nat) : Int) := by omega
  have hbn2 : ((b.natAbs : Nat) : Int) ≤ 4611686018427387904 := by omega
  generalize hA : a.natAbs = x at *
  generalize hB : b.natAbs = y at *
  have HAB := Lib.hid hab
  have HBB := Lib.hid hbb
  have hyz : (((y : Nat) : Int) == 0) = false := beq_eq_false_iff_ne.2 (by omega)
  clear hA hB ha0 hb0 hab hbb
  go_enter Try.func15, Try.ntmps15
  go_wp2_with (go_at_call 36; refine (in_yes _ _ (by omega) (by omega)).mono ?_; rintro e w' ⟨rfl, rfl⟩)
  refine (HAB.out _ (by omega)).mono ?_
  rintro e w' ⟨rfl, rfl⟩
  go_wp2_with (fail)
  refine (HBB.out _ (by omega)).mono ?_
  rintro e w' ⟨rfl, rfl⟩
  go_wp2
  · go_ret2
    exact ⟨rfl, Below.refl _ _⟩
  · exact absurd HQ.out (by omega)

theorem refMul_any (a b : Int) : ∃ v e, Pair 15 a b v e ∧ outcome (inR a && inR b && inR (a * b)) (a * b) = .tuple #[.int .i64 v, .int .i64 e] := by
  cases hi : inR a && inR b
  · exact ⟨0, 2, refMul_out a b hi, rfl⟩
  · obtain ⟨ha, hb⟩ := Bool.and_eq_true_iff.1 hi
    by_cases h0 : a = 0 ∨ b = 0
    · refine ⟨0, 0, refMul_zero a b ha hb h0, ?_⟩
      have : a * b = 0 := Int.mul_eq_zero.2 h0
      rw [this]; rfl
    · cases hs : inR (a * b)
      · exact ⟨0, 2, refMul_far a b ha hb (fun h => h0 (Or.inl h)) (fun h => h0 (Or.inr h)) hs, rfl⟩
      · exact ⟨a * b, 0, refMul_in a b ha hb (fun h => h0 (Or.inl h)) (fun h => h0 (Or.inr h)) hs, rfl⟩

theorem refAdd_any (a b : Int) : ∃ v e, Pair 11 a b v e ∧ outcome (inR a && inR b && inR (a + b)) (a + b) = .tuple #[.int .i64 v, .int .i64 e] := by
  cases hi : inR a && inR b
  · exact ⟨0, 2, refAdd_out a b hi, rfl⟩
  · obtain ⟨ha, hb⟩ := Bool.and_eq_true_iff.1 hi
    cases hs : inR (a + b)
    · exact ⟨0, 2, refAdd_far a b ha hb hs, rfl⟩
    · exact ⟨a + b, 0, refAdd_in a b ha hb hs, rfl⟩

theorem refSub_any (a b : Int) : ∃ v e, Pair 13 a b v e ∧ outcome (inR a && inR b && inR (a - b)) (a - b) = .tuple #[.int .i64 v, .int .i64 e] := by
  cases hi : inR a && inR b
  · exact ⟨0, 2, refSub_out a b hi, rfl⟩
  · obtain ⟨ha, hb⟩ := Bool.and_eq_true_iff.1 hi
    have ha' := (inR_iff a).1 ha
    have hb' := (inR_iff b).1 hb
    have hnb : inR (-b) = true := (inR_iff _).2 (by omega)
    obtain ⟨v, e, hA, hO⟩ := refAdd_any a (-b)
    rw [ha, hnb, show a + -b = a - b from by omega] at hO
    refine ⟨v, e, ?_, hO⟩
    intro w
    have HA := Lib.hid hA
    clear hA hO ha hb hi hnb
    obtain ⟨ha1, ha2⟩ := ha'
    obtain ⟨hb1, hb2⟩ := hb'
    go_enter Try.func13, Try.ntmps13
    go_wp2_with (go_at_call 36; refine (in_yes _ _ (by omega) (by omega)).mono ?_; rintro e w' ⟨rfl, rfl⟩)
    refine (HA.out _).mono ?_
    rintro e w' ⟨rfl, hB⟩
    go_wp2
    go_ret2
    exact ⟨rfl, hB⟩

end Go.Proofs.Ytbpppeekfjfolaa.IntBasic
