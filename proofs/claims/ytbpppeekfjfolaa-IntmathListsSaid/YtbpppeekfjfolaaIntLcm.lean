/- Greatest common divisors in the reference, and least common multiples. -/
import Derived.Test.YtbpppeekfjfolaaIntGcd
import Derived.Deep.RegionWith
namespace Go.Proofs.Ytbpppeekfjfolaa.IntLcm
set_option linter.unusedVariables false
open Go.RowKit Go.Proofs.Ytbpppeekfjfolaa.IntPlain Go.Proofs.Ytbpppeekfjfolaa.IntWalks Go.Proofs.Ytbpppeekfjfolaa.IntWide Go.Proofs.Ytbpppeekfjfolaa.IntTotal Go.Proofs.Ytbpppeekfjfolaa.IntNumber Go.Proofs.Ytbpppeekfjfolaa.IntSum Go.Proofs.Ytbpppeekfjfolaa.IntAwake Go.Proofs.Ytbpppeekfjfolaa.IntDivision Go.Proofs.Ytbpppeekfjfolaa.IntBasic Go.Proofs.Ytbpppeekfjfolaa.IntGcd

theorem refGcd_out (a b : Int) (h : (inR a && inR b) = false) : Pair 23 a b 0 2 := by
  intro w
  cases ha : inR a
  all_goals (cases hb : inR b)
  all_goals (try (rw [ha, hb] at h; cases h; done))
  all_goals
    have HA := Lib.hid ha
    have HB := Lib.hid hb
    clear ha hb h
    go_enter Try.func23, Try.ntmps23
    go_wp2_with (go_at_call 36; refine (in_any _ _).mono ?_; (first | rw [HA.out] | rw [HB.out]); rintro e w' ⟨rfl, rfl⟩)
    go_ret2
    exact ⟨rfl, Below.refl _ _⟩

theorem refGcd_in (a b : Int) (ha : inR a = true) (hb : inR b = true) : Pair 23 a b (Int.gcd a b : Nat) 0 := by
  intro w
  have ha' := (inR_iff a).1 ha
  have hb' := (inR_iff b).1 hb
  clear ha hb
  obtain ⟨ha1, ha2⟩ := ha'
  obtain ⟨hb1, hb2⟩ := hb'
  have hs : Hid (((a.natAbs : Nat) : Int) ≤ 4611686018427387904 ∧ ((b.natAbs : Nat) : Int) ≤ 4611686018427387904) := Lib.hid (by omega)
  have hg : Hid (Int.gcd (a.natAbs : Nat) (b.natAbs : Nat) = Int.gcd a b) := Lib.hid (by simp [Int.gcd])
  go_enter Try.func23, Try.ntmps23
  go_wp2_with (go_at_call 36; refine (in_yes _ _ (by omega) (by omega)).mono ?_; rintro e w' ⟨rfl, rfl⟩)
  refine (refabs_any a _ (by omega)).mono ?_
  rintro e w' ⟨rfl, rfl⟩
  go_wp2_with (fail)
  refine (refabs_any b _ (by omega)).mono ?_
  rintro e w' ⟨rfl, rfl⟩
  go_wp2_with (fail)
  go_loopw [0, 1] (fun u v wr => ∃ x y : Int, u = .int .i64 x ∧ v = .int .i64 y ∧ 0 ≤ x ∧ x ≤ 4611686018427387904 ∧ 0 ≤ y ∧ y ≤ 4611686018427387904 ∧ Hid (Int.gcd x y = Int.gcd a b) ∧ Below w.heap.size w wr) (fun _ v _ => (intOf v).natAbs)
  case atStart => exact ⟨a.natAbs, b.natAbs, rfl, rfl, by omega, hs.out.1, by omega, hs.out.2, hg, Below.refl _ _⟩
  case round =>
    obtain ⟨x, y, rfl, rfl, hx1, hx2, hy1, hy2, HG, HB⟩ := hrel
    have HBB := Lib.hid HB
    clear HB ha1 ha2 hb1 hb2 hs hg
    by_cases hy : 0 < y
    · have hr := Int.emod_nonneg x (b := y) (by omega)
      have hr2 := Int.emod_lt_of_pos x hy
      have HG2 : Hid (Int.gcd y (x % y) = Int.gcd a b) := Lib.hid (by rw [← Int.tmod_eq_emod_of_nonneg hx1, gcd_step, HG.out])
      have HR : Hid ((x % y).natAbs < y.natAbs) := Lib.hid (by omega)
      clear HG
      go_wp2
      go_quiet (fail)
      go_wp2
      go_roundw
      case rel => exact ⟨y, x % y, rfl, rfl, hy1, hy2, hr, by omega, HG2, below_drewN HBB.out _⟩
      case measure => simp [intOf]; exact HR.out
    · obtain rfl : y = 0 := by omega
      have HE : Hid (x = ((Int.gcd a b : Nat) : Int)) := Lib.hid (by rw [← HG.out, Int.gcd_zero_right]; omega)
      clear HG
      go_wp2
      go_ret2
      exact ⟨by rw [← HE.out]; rfl, HBB.out⟩

theorem sameGcd (a b : Int) : ∃ v e, Pair 22 a b v e ∧ Pair 23 a b v e ∧ outcome (inR a && inR b) (Int.gcd a b : Nat) = .tuple #[.int .i64 v, .int .i64 e] := by
  obtain ⟨v, e, h1, h2⟩ := gcd_prog a b
  refine ⟨v, e, h1, ?_, h2⟩
  cases hi : inR a && inR b
  · rw [hi] at h2
    obtain ⟨rfl, rfl⟩ : 0 = v ∧ 2 = e := by simpa [outcome] using h2
    exact refGcd_out a b hi
  · obtain ⟨ha, hb⟩ := Bool.and_eq_true_iff.1 hi
    rw [hi] at h2
    obtain ⟨rfl, rfl⟩ : ((Int.gcd a b : Nat) : Int) = v ∧ 0 = e := by simpa [outcome] using h2
    exact refGcd_in a b ha hb

/-- The least common multiple. -/
def lcmOf (a b : Int) : Int := ((a.natAbs : Nat) : Int) / ((Int.gcd a b : Nat) : Int) * ((b.natAbs : Nat) : Int)

set_option maxHeartbeats 1000000 in
theorem lcm_prog_core (a b x y g v e : Int) (w : World) (hx1 : 0 ≤ x) (hx2 : x ≤ 4611686018427387904) (hg1 : 0 < g) (hg2 : g ≤ 4611686018427387904)
    (HX : Hid (∀ w, Calls Try.prog 43 #[.int .i64 a] w fun e w' => e = .returned (.int .i64 x) ∧ w = w')) (HY : Hid (∀ w, Calls Try.prog 43 #[.int .i64 b] w fun e w' => e = .returned (.int .i64 y) ∧ w = w'))
    (HG : Hid (Pair 22 a b g 0)) (HM : Hid (Pair 14 (x / g) y v e)) :
    Calls Try.prog 26 #[.int .i64 a, .int .i64 b] w fun r w' => r = .returned (.tuple #[.int .i64 v, .int .i64 e]) ∧ Below w.heap.size w w' := by
  have hg0 : (g == 0) = false := beq_eq_false_iff_ne.2 (by omega)
  go_enter Try.func26, Try.ntmps26
  go_wp2_with (fail)
  refine (HG.out _).mono ?_
  rintro r w1 ⟨rfl, b1⟩
  go_wp2_with (fail)
  go_region_with (first
    | (go_at_call_of 43 a; refine (HX.out _).mono ?_; rintro r w' ⟨rfl, rfl⟩)
    | (go_at_call_of 43 b; refine (HY.out _).mono ?_; rintro r w' ⟨rfl, rfl⟩)
    | (go_at_call 14; refine (HM.out _).mono ?_; rintro r w2 ⟨rfl, b2⟩))
  all_goals
    go_wp2
    go_ret2
    exact ⟨rfl, bt (Below.drew b1) b2⟩

theorem lcm_prog_none (a b e : Int) (w : World) (he : 0 ≤ e) (HG : Hid (Pair 22 a b 0 e)) :
    Calls Try.prog 26 #[.int .i64 a, .int .i64 b] w fun r w' => r = .returned (.tuple #[.int .i64 0, .int .i64 e]) ∧ Below w.heap.size w w' := by
  by_cases h : 0 < e
  · go_enter Try.func26, Try.ntmps26
    go_wp2_with (fail)
    refine (HG.out _).mono ?_
    rintro r w1 ⟨rfl, b1⟩
    go_wp2
    go_ret2
    exact ⟨rfl, b1⟩
  · obtain rfl : e = 0 := by omega
    go_enter Try.func26, Try.ntmps26
    go_wp2_with (fail)
    refine (HG.out _).mono ?_
    rintro r w1 ⟨rfl, b1⟩
    go_wp2
    go_ret2
    exact ⟨rfl, b1⟩

set_option maxHeartbeats 1000000 in
theorem refLcm_core (a b x y g v e : Int) (w : World) (ha : -4611686018427387904 ≤ a ∧ a ≤ 4611686018427387904) (hb : -4611686018427387904 ≤ b ∧ b ≤ 4611686018427387904) (ha0 : (a == 0) = false) (hb0 : (b == 0) = false)
    (hx1 : 0 ≤ x) (hx2 : x ≤ 4611686018427387904) (hg1 : 0 < g) (hg2 : g ≤ 4611686018427387904)
    (HX : Hid (∀ w, Calls Try.prog 41 #[.int .i64 a] w fun e w' => e = .returned (.int .i64 x) ∧ w = w')) (HY : Hid (∀ w, Calls Try.prog 41 #[.int .i64 b] w fun e w' => e = .returned (.int .i64 y) ∧ w = w'))
    (HG : Hid (Pair 23 a b g 0)) (HM : Hid (Pair 15 (x / g) y v e)) :
    Calls Try.prog 27 #[.int .i64 a, .int .i64 b] w fun r w' => r = .returned (.tuple #[.int .i64 v, .int .i64 e]) ∧ Below w.heap.size w w' := by
  obtain ⟨ha1, ha2⟩ := ha
  obtain ⟨hb1, hb2⟩ := hb
  go_enter Try.func27, Try.ntmps27
  go_wp2_with (go_at_call 36; refine (in_yes _ _ (by omega) (by omega)).mono ?_; rintro e w' ⟨rfl, rfl⟩)
  refine (HG.out _).mono ?_
  rintro r w1 ⟨rfl, b1⟩
  go_wp2_with (fail)
  go_region_with (first
    | (go_at_call_of 41 a; refine (HX.out _).mono ?_; rintro r w' ⟨rfl, rfl⟩)
    | (go_at_call_of 41 b; refine (HY.out _).mono ?_; rintro r w' ⟨rfl, rfl⟩)
    | (go_at_call 15; refine (HM.out _).mono ?_; rintro r w2 ⟨rfl, b2⟩))
  all_goals
    go_wp2
    go_ret2
    exact ⟨rfl, bt (Below.drew b1) b2⟩

theorem refLcm_zero (a b : Int) (w : World) (ha : -4611686018427387904 ≤ a ∧ a ≤ 4611686018427387904) (hb : -4611686018427387904 ≤ b ∧ b ≤ 4611686018427387904) (h : a = 0 ∨ ((a == 0) = false ∧ b = 0)) :
    Calls Try.prog 27 #[.int .i64 a, .int .i64 b] w fun r w' => r = .returned (.tuple #[.int .i64 0, .int .i64 0]) ∧ Below w.heap.size w w' := by
  obtain ⟨ha1, ha2⟩ := ha
  obtain ⟨hb1, hb2⟩ := hb
  rcases h with rfl | ⟨ha0, rfl⟩
  all_goals
    go_enter Try.func27, Try.ntmps27
    go_wp2_with (go_at_call 36; refine (in_yes _ _ (by omega) (by omega)).mono ?_; rintro e w' ⟨rfl, rfl⟩)
    go_ret2
    exact ⟨rfl, Below.refl _ _⟩

theorem refLcm_out (a b : Int) (h : (inR a && inR b) = false) : Pair 27 a b 0 2 := by
  intro w
  cases ha : inR a
  all_goals (cases hb : inR b)
  all_goals (try (rw [ha, hb] at h; cases h; done))
  all_goals
    have HA := Lib.hid ha
    have HB := Lib.hid hb
    clear ha hb h
    go_enter Try.func27, Try.ntmps27
    go_wp2_with (go_at_call 36; refine (in_any _ _).mono ?_; (first | rw [HA.out] | rw [HB.out]); rintro e w' ⟨rfl, rfl⟩)
    go_ret2
    exact ⟨rfl, Below.refl _ _⟩

theorem sameLcm (a b : Int) : ∃ v e, Pair 26 a b v e ∧ Pair 27 a b v e ∧ outcome (inR a && inR b && inR (lcmOf a b)) (lcmOf a b) = .tuple #[.int .i64 v, .int .i64 e] := by
  obtain ⟨v, e, g1, g2, g3⟩ := sameGcd a b
  cases hi : inR a && inR b
  · rw [hi] at g3
    obtain ⟨rfl, rfl⟩ : 0 = v ∧ 2 = e := by simpa [outcome] using g3
    exact ⟨0, 2, fun w => lcm_prog_none a b 2 w (by omega) (Lib.hid g1), refLcm_out a b hi, rfl⟩
  · rw [hi] at g3
    obtain ⟨rfl, rfl⟩ : ((Int.gcd a b : Nat) : Int) = v ∧ 0 = e := by simpa [outcome] using g3
    obtain ⟨ha, hb⟩ := Bool.and_eq_true_iff.1 hi
    have ha' := (inR_iff a).1 ha
    have hb' := (inR_iff b).1 hb
    have hg := (inR_iff _).1 (gcd_range a b ha hb)
    by_cases hz : Int.gcd a b = 0
    · have hab := Int.gcd_eq_zero_iff.1 hz
      rw [hz] at g1
      refine ⟨0, 0, fun w => lcm_prog_none a b 0 w (by omega) (Lib.hid g1), fun w => refLcm_zero a b w ha' hb' (Or.inl hab.1), ?_⟩
      have : lcmOf a b = 0 := by unfold lcmOf; rw [hab.2]; simp
      rw [this]; rfl
    · have hx : inR (((a.natAbs : Nat) : Int) / ((Int.gcd a b : Nat) : Int)) = true := by
        rw [inR_iff]
        have h1 : 0 ≤ ((a.natAbs : Nat) : Int) / ((Int.gcd a b : Nat) : Int) := Int.ediv_nonneg (by omega) (by omega)
        have h2 : ((a.natAbs : Nat) : Int) / ((Int.gcd a b : Nat) : Int) ≤ ((a.natAbs : Nat) : Int) := Int.ediv_le_self _ (by omega)
        omega
      have hy : inR ((b.natAbs : Nat) : Int) = true := by rw [inR_iff]; omega
      obtain ⟨v, e, m1, m2, m3⟩ := sameMul (((a.natAbs : Nat) : Int) / ((Int.gcd a b : Nat) : Int)) ((b.natAbs : Nat) : Int)
      rw [hx, hy] at m3
      refine ⟨v, e, fun w => lcm_prog_core a b _ _ _ v e w (by omega) (by omega) (by omega) hg.2 (Lib.hid fun w => abs_any a w (by omega) (by omega)) (Lib.hid fun w => abs_any b w (by omega) (by omega)) (Lib.hid g1) (Lib.hid m1), fun w => ?_, m3⟩
      by_cases hz : a = 0 ∨ b = 0
      · have hl : ((a.natAbs : Nat) : Int) / ((Int.gcd a b : Nat) : Int) * ((b.natAbs : Nat) : Int) = 0 := by
          rcases hz with rfl | rfl <;> simp
        rw [hl] at m3
        obtain ⟨rfl, rfl⟩ : 0 = v ∧ 0 = e := by simpa [outcome, inR] using m3
        refine refLcm_zero a b w ha' hb' ?_
        by_cases h0 : a = 0
        · exact Or.inl h0
        · exact Or.inr ⟨beq_eq_false_iff_ne.2 h0, by omega⟩
      · exact refLcm_core a b _ _ _ v e w ha' hb' (beq_eq_false_iff_ne.2 fun h => hz (Or.inl h)) (beq_eq_false_iff_ne.2 fun h => hz (Or.inr h)) (by omega) (by omega) (by omega) hg.2 (Lib.hid fun w => refabs_any a w (by omega)) (Lib.hid fun w => refabs_any b w (by omega)) (Lib.hid g2) (Lib.hid m2)

end Go.Proofs.Ytbpppeekfjfolaa.IntLcm
