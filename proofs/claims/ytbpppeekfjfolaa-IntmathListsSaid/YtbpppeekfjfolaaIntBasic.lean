/- The law IntmathBasic: what each function of two numbers returns, in the program and in the reference. -/
import Derived.Test.YtbpppeekfjfolaaIntDivision
import Derived.Test.YtbpppeekfjfolaaBase
namespace Go.Proofs.Ytbpppeekfjfolaa.IntBasic
set_option linter.unusedVariables false
open Go.RowKit Go.Proofs.Ytbpppeekfjfolaa.IntPlain Go.Proofs.Ytbpppeekfjfolaa.IntWalks Go.Proofs.Ytbpppeekfjfolaa.IntWide Go.Proofs.Ytbpppeekfjfolaa.IntTotal Go.Proofs.Ytbpppeekfjfolaa.IntNumber Go.Proofs.Ytbpppeekfjfolaa.IntSum Go.Proofs.Ytbpppeekfjfolaa.IntAwake Go.Proofs.Ytbpppeekfjfolaa.IntDivision

/-- A call with two numbers that returns v and the error e, and only makes new memory. -/
def Pair (f : FuncId) (a b v e : Int) : Prop := ∀ w, Calls Try.prog f #[.int .i64 a, .int .i64 b] w fun x w' => x = .returned (.tuple #[.int .i64 v, .int .i64 e]) ∧ Below w.heap.size w w'

theorem in_no (n : Int) (w : World) (h : n < -4611686018427387904 ∨ 4611686018427387904 < n) : Calls Try.prog 36 #[.int .i64 n] w fun e w' => e = .returned (.bool false) ∧ w = w' := by
  rcases h with h | h
  all_goals
    go_enter Try.func36, Try.ntmps36
    go_wp2
    go_ret
    first | exact ⟨rfl, rfl⟩ | exact ⟨by simp; omega, rfl⟩

theorem not_in {n : Int} (h : inR n = false) : n < -4611686018427387904 ∨ 4611686018427387904 < n := by
  have h' : ¬ (-4611686018427387904 ≤ n ∧ n ≤ 4611686018427387904) := fun k => by rw [(inR_iff n).2 k] at h; cases h
  omega

theorem in_any (n : Int) (w : World) : Calls Try.prog 36 #[.int .i64 n] w fun e w' => e = .returned (.bool (inR n)) ∧ w = w' := by
  cases h : inR n
  · exact in_no n w (not_in h)
  · have := (inR_iff n).1 h
    exact in_yes n w this.1 this.2

theorem refabs_any (n : Int) (w : World) (h1 : -9223372036854775807 ≤ n) : Calls Try.prog 41 #[.int .i64 n] w fun e w' => e = .returned (.int .i64 (n.natAbs : Nat)) ∧ w = w' := by
  by_cases h : n < 0
  · have e : ((n.natAbs : Nat) : Int) = -n := by omega
    rw [e]
    clear e
    go_enter Try.func41, Try.ntmps41
    go_wp2
    go_ret
    exact ⟨rfl, rfl⟩
  · have e : ((n.natAbs : Nat) : Int) = n := by omega
    rw [e]
    clear e
    go_enter Try.func41, Try.ntmps41
    go_wp2
    go_ret
    exact ⟨rfl, rfl⟩

/-- What the reference does where one of both numbers is out of range. -/
theorem refAdd_out (a b : Int) (h : (inR a && inR b) = false) : Pair 11 a b 0 2 := by
  intro w
  cases ha : inR a
  all_goals (cases hb : inR b)
  all_goals (try (rw [ha, hb] at h; cases h; done))
  all_goals
    have HA := Lib.hid ha
    have HB := Lib.hid hb
    clear ha hb h
    go_enter Try.func11, Try.ntmps11
    go_wp2_with (go_at_call 36; refine (in_any _ _).mono ?_; (first | rw [HA.out] | rw [HB.out]); rintro e w' ⟨rfl, rfl⟩)
    go_ret2
    exact ⟨rfl, Below.refl _ _⟩

theorem refMul_out (a b : Int) (h : (inR a && inR b) = false) : Pair 15 a b 0 2 := by
  intro w
  cases ha : inR a
  all_goals (cases hb : inR b)
  all_goals (try (rw [ha, hb] at h; cases h; done))
  all_goals
    have HA := Lib.hid ha
    have HB := Lib.hid hb
    clear ha hb h
    go_enter Try.func15, Try.ntmps15
    go_wp2_with (go_at_call 36; refine (in_any _ _).mono ?_; (first | rw [HA.out] | rw [HB.out]); rintro e w' ⟨rfl, rfl⟩)
    go_ret2
    exact ⟨rfl, Below.refl _ _⟩

theorem refSub_out (a b : Int) (h : (inR a && inR b) = false) : Pair 13 a b 0 2 := by
  intro w
  cases ha : inR a
  all_goals (cases hb : inR b)
  all_goals (try (rw [ha, hb] at h; cases h; done))
  all_goals
    have HA := Lib.hid ha
    have HB := Lib.hid hb
    clear ha hb h
    go_enter Try.func13, Try.ntmps13
    go_wp2_with (go_at_call 36; refine (in_any _ _).mono ?_; (first | rw [HA.out] | rw [HB.out]); rintro e w' ⟨rfl, rfl⟩)
    go_ret2
    exact ⟨rfl, Below.refl _ _⟩

theorem refDiv_out (a b : Int) (h : (inR a && inR b) = false) : Pair 17 a b 0 2 := by
  intro w
  cases ha : inR a
  all_goals (cases hb : inR b)
  all_goals (try (rw [ha, hb] at h; cases h; done))
  all_goals
    have HA := Lib.hid ha
    have HB := Lib.hid hb
    clear ha hb h
    go_enter Try.func17, Try.ntmps17
    go_wp2_with (go_at_call 36; refine (in_any _ _).mono ?_; (first | rw [HA.out] | rw [HB.out]); rintro e w' ⟨rfl, rfl⟩)
    go_ret2
    exact ⟨rfl, Below.refl _ _⟩

theorem refMod_out (a b : Int) (h : (inR a && inR b) = false) : Pair 19 a b 0 2 := by
  intro w
  cases ha : inR a
  all_goals (cases hb : inR b)
  all_goals (try (rw [ha, hb] at h; cases h; done))
  all_goals
    have HA := Lib.hid ha
    have HB := Lib.hid hb
    clear ha hb h
    go_enter Try.func19, Try.ntmps19
    go_wp2_with (go_at_call 36; refine (in_any _ _).mono ?_; (first | rw [HA.out] | rw [HB.out]); rintro e w' ⟨rfl, rfl⟩)
    go_ret2
    exact ⟨rfl, Below.refl _ _⟩

theorem refCeil_out (a b : Int) (h : (inR a && inR b) = false) : Pair 21 a b 0 2 := by
  intro w
  cases ha : inR a
  all_goals (cases hb : inR b)
  all_goals (try (rw [ha, hb] at h; cases h; done))
  all_goals
    have HA := Lib.hid ha
    have HB := Lib.hid hb
    clear ha hb h
    go_enter Try.func21, Try.ntmps21
    go_wp2_with (go_at_call 36; refine (in_any _ _).mono ?_; (first | rw [HA.out] | rw [HB.out]); rintro e w' ⟨rfl, rfl⟩)
    go_ret2
    exact ⟨rfl, Below.refl _ _⟩

/-- Sums in the reference. -/
theorem refAdd_in (a b : Int) (ha : inR a = true) (hb : inR b = true) (hs : inR (a + b) = true) : Pair 11 a b (a + b) 0 := by
  intro w
  have ha' := (inR_iff a).1 ha
  have hb' := (inR_iff b).1 hb
  have hs' := (inR_iff _).1 hs
  clear ha hb hs
  obtain ⟨ha1, ha2⟩ := ha'
  obtain ⟨hb1, hb2⟩ := hb'
  obtain ⟨hs1, hs2⟩ := hs'
  by_cases hp : 0 < a
  · go_enter Try.func11, Try.ntmps11
    go_wp2_with (go_at_call 36; refine (in_yes _ _ (by omega) (by omega)).mono ?_; rintro e w' ⟨rfl, rfl⟩)
    go_ret2
    exact ⟨rfl, Below.refl _ _⟩
  · by_cases hn : a < 0
    · go_enter Try.func11, Try.ntmps11
      go_wp2_with (go_at_call 36; refine (in_yes _ _ (by omega) (by omega)).mono ?_; rintro e w' ⟨rfl, rfl⟩)
      go_ret2
      exact ⟨rfl, Below.refl _ _⟩
    · obtain rfl : a = 0 := by omega
      rw [Int.zero_add]
      go_enter Try.func11, Try.ntmps11
      go_wp2_with (go_at_call 36; refine (in_yes _ _ (by omega) (by omega)).mono ?_; rintro e w' ⟨rfl, rfl⟩)
      go_ret2
      exact ⟨rfl, Below.refl _ _⟩

theorem refAdd_far (a b : Int) (ha : inR a = true) (hb : inR b = true) (hs : inR (a + b) = false) : Pair 11 a b 0 2 := by
  intro w
  have ha' := (inR_iff a).1 ha
  have hb' := (inR_iff b).1 hb
  have hs' := not_in hs
  clear ha hb hs
  obtain ⟨ha1, ha2⟩ := ha'
  obtain ⟨hb1, hb2⟩ := hb'
  by_cases hp : 0 < a
  · have h : 4611686018427387904 - a < b := by omega
    go_enter Try.func11, Try.ntmps11
    go_wp2_with (go_at_call 36; refine (in_yes _ _ (by omega) (by omega)).mono ?_; rintro e w' ⟨rfl, rfl⟩)
    go_ret2
    exact ⟨rfl, Below.refl _ _⟩
  · have hn : a < 0 := by omega
    have h : b < -4611686018427387904 - a := by omega
    go_enter Try.func11, Try.ntmps11
    go_wp2_with (go_at_call 36; refine (in_yes _ _ (by omega) (by omega)).mono ?_; rintro e w' ⟨rfl, rfl⟩)
    go_ret2
    exact ⟨rfl, Below.refl _ _⟩

end Go.Proofs.Ytbpppeekfjfolaa.IntBasic
