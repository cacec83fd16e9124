/- The law IntmathMultiples: the cases put together. -/
import Derived.Test.YtbpppeekfjfolaaIntMultiples
namespace Go.Proofs.Ytbpppeekfjfolaa.IntMultiples
set_option linter.unusedVariables false
open Go.RowKit Go.Proofs.Ytbpppeekfjfolaa.IntPlain Go.Proofs.Ytbpppeekfjfolaa.IntWalks Go.Proofs.Ytbpppeekfjfolaa.IntWide Go.Proofs.Ytbpppeekfjfolaa.IntTotal Go.Proofs.Ytbpppeekfjfolaa.IntNumber Go.Proofs.Ytbpppeekfjfolaa.IntSum Go.Proofs.Ytbpppeekfjfolaa.IntAwake Go.Proofs.Ytbpppeekfjfolaa.IntDivision Go.Proofs.Ytbpppeekfjfolaa.IntBasic Go.Proofs.Ytbpppeekfjfolaa.IntGcd Go.Proofs.Ytbpppeekfjfolaa.IntLcm

theorem lcm_facts (a b : Int) (ha : a ≠ 0) (hb : b ≠ 0) : ((Int.gcd a b : Nat) : Int) * lcmOf a b = ((a.natAbs : Nat) : Int) * ((b.natAbs : Nat) : Int) ∧ 0 < lcmOf a b ∧ a ∣ lcmOf a b ∧ b ∣ lcmOf a b ∧ 0 < Int.gcd a b := by
  have hg : 0 < Int.gcd a b := Nat.pos_of_ne_zero fun h => ha (Int.gcd_eq_zero_iff.1 h).1
  have hd : Int.gcd a b ∣ a.natAbs := Nat.gcd_dvd_left _ _
  have hd2 : Int.gcd a b ∣ b.natAbs := Nat.gcd_dvd_right _ _
  have e : lcmOf a b = ((a.natAbs / Int.gcd a b * b.natAbs : Nat) : Int) := by unfold lcmOf; rw [Int.natCast_mul, Int.natCast_ediv]
  have hp : 0 < a.natAbs / Int.gcd a b := Nat.div_pos (Nat.le_of_dvd (by omega) hd) hg
  rw [e]
  refine ⟨?_, ?_, ?_, ?_, hg⟩
  · rw [← Int.natCast_mul, ← Int.natCast_mul, ← Nat.mul_assoc, Nat.mul_div_cancel' hd]
  · have := Nat.mul_pos hp (show 0 < b.natAbs by omega)
    omega
  · rw [← Int.natAbs_dvd_natAbs, Int.natAbs_natCast]
    obtain ⟨k, hk⟩ := hd2
    refine ⟨k, ?_⟩
    have h2 : a.natAbs / Int.gcd a b * Int.gcd a b = a.natAbs := Nat.div_mul_cancel hd
    generalize a.natAbs / Int.gcd a b = q at *
    generalize hx : b.natAbs = y at *
    rw [hk, ← Nat.mul_assoc, h2]
  · rw [← Int.natAbs_dvd_natAbs, Int.natAbs_natCast]
    exact Nat.dvd_mul_left _ _

theorem tmod_zero {l a : Int} (h : a ∣ l) : l.tmod a = 0 := Int.tmod_eq_zero_of_dvd h

theorem outcome_no (S : Int) : outcome false S = .tuple #[.int .i64 0, .int .i64 2] := rfl
theorem outcome_yes (S : Int) : outcome true S = .tuple #[.int .i64 S, .int .i64 0] := rfl
theorem of_no {S v e : Int} (h : outcome false S = .tuple #[.int .i64 v, .int .i64 e]) : v = 0 ∧ e = 2 := by
  simp [outcome] at h; omega
theorem of_yes {S v e : Int} (h : outcome true S = .tuple #[.int .i64 v, .int .i64 e]) : v = S ∧ e = 0 := by
  simp [outcome] at h; omega

theorem walk (a b : Int) (w : World) :
    Calls Try.prog 8 #[.int .i64 a, .int .i64 b] w fun e w' => e = .returned (.bool true) ∧ Below w.heap.size w w' := by
  obtain ⟨l, f, l1, _, l3⟩ := sameLcm a b
  cases hi : inR a && inR b
  · rw [hi] at l3
    obtain ⟨rfl, rfl⟩ := of_no l3
    exact law_out a b w hi (Lib.hid l1)
  · obtain ⟨ha, hb⟩ := Bool.and_eq_true_iff.1 hi
    have ha' := (inR_iff a).1 ha
    have hb' := (inR_iff b).1 hb
    obtain ⟨g, e, g1, _, g3⟩ := sameGcd a b
    rw [hi] at g3 l3
    obtain ⟨rfl, rfl⟩ := of_yes g3
    have hgr := gcd_range a b ha hb
    have hx : inR ((a.natAbs : Nat) : Int) = true := (inR_iff _).2 (by omega)
    have hy : inR ((b.natAbs : Nat) : Int) = true := (inR_iff _).2 (by omega)
    obtain ⟨p, h, m1, _, m3⟩ := sameMul ((a.natAbs : Nat) : Int) ((b.natAbs : Nat) : Int)
    rw [hx, hy] at m3
    by_cases h0 : a = 0 ∨ b = 0
    · have hl0 : lcmOf a b = 0 := by unfold lcmOf; rcases h0 with rfl | rfl <;> simp
      have hm0 : ((a.natAbs : Nat) : Int) * ((b.natAbs : Nat) : Int) = 0 := by rcases h0 with rfl | rfl <;> simp
      rw [hl0, show inR 0 = true from by decide] at l3
      rw [hm0, show inR 0 = true from by decide] at m3
      obtain ⟨rfl, rfl⟩ := of_yes l3
      obtain ⟨rfl, rfl⟩ := of_yes m3
      obtain ⟨q, i, q1, _, q3⟩ := sameMul ((Int.gcd a b : Nat) : Int) 0
      rw [hgr, Int.mul_zero, show inR 0 = true from by decide] at q3
      obtain ⟨rfl, rfl⟩ := of_yes q3
      exact law_zero a b _ _ _ w ha'.1 ha'.2 hb'.1 hb'.2 (by omega) (by omega) (by omega) (Lib.hid g1) (Lib.hid l1) (Lib.hid m1) (Lib.hid q1)
    · have ha0 : a ≠ 0 := fun h => h0 (Or.inl h)
      have hb0 : b ≠ 0 := fun h => h0 (Or.inr h)
      obtain ⟨e1, e2, e3, e4, e5⟩ := lcm_facts a b ha0 hb0
      have hle : lcmOf a b ≤ ((a.natAbs : Nat) : Int) * ((b.natAbs : Nat) : Int) := by
        rw [← e1]
        have := Int.mul_le_mul_of_nonneg_right (show (1 : Int) ≤ ((Int.gcd a b : Nat) : Int) by omega) (Int.le_of_lt e2)
        omega
      cases hl : inR (lcmOf a b)
      · rw [hl] at l3
        obtain ⟨rfl, rfl⟩ := of_no l3
        have hm : inR (((a.natAbs : Nat) : Int) * ((b.natAbs : Nat) : Int)) = false := by
          rw [Bool.eq_false_iff]
          intro hc
          have := (inR_iff _).1 hc
          have := not_in hl
          omega
        rw [hm] at m3
        obtain ⟨rfl, rfl⟩ := of_no m3
        exact law_far a b _ _ _ w ha'.1 ha'.2 hb'.1 hb'.2 (by omega) (by omega) (Lib.hid g1) (Lib.hid l1) (Lib.hid m1)
      · rw [hl] at l3
        obtain ⟨rfl, rfl⟩ := of_yes l3
        have hX : ∀ c : Int, c ≠ 0 → c ∣ lcmOf a b → (c < 0 ∧ ((c.natAbs : Nat) : Int) = -c ∧ (lcmOf a b).tmod c = 0) ∨ (0 < c ∧ ((c.natAbs : Nat) : Int) = c ∧ lcmOf a b % c = 0) := by
          intro c hc hd
          by_cases hn : c < 0
          · exact Or.inl ⟨hn, by omega, Int.tmod_eq_zero_of_dvd hd⟩
          · exact Or.inr ⟨by omega, by omega, Int.emod_eq_zero_of_dvd hd⟩
        obtain ⟨q, i, q1, _, q3⟩ := sameMul ((Int.gcd a b : Nat) : Int) (lcmOf a b)
        rw [hgr, hl, e1] at q3
        cases hm : inR (((a.natAbs : Nat) : Int) * ((b.natAbs : Nat) : Int))
        · rw [hm] at m3
          obtain ⟨rfl, rfl⟩ := of_no m3
          exact law_half a b _ _ _ _ q i 0 0 w ha'.1 ha'.2 hb'.1 hb'.2 (hX a ha0 e3) (hX b hb0 e4) (by decide) (by decide) e2 (by decide) (by decide) (by decide) (by decide) (Lib.hid g1) (Lib.hid l1) (Lib.hid m1) (Lib.hid q1)
        · rw [hm] at m3 q3
          obtain ⟨rfl, rfl⟩ := of_yes m3
          obtain ⟨rfl, rfl⟩ := of_yes q3
          exact law_near a b _ _ _ _ _ 0 0 w ha'.1 ha'.2 hb'.1 hb'.2 (hX a ha0 e3) (hX b hb0 e4) (by decide) (by decide) e2 (by decide) (by decide) (by decide) (by decide) (Lib.hid g1) (Lib.hid l1) (Lib.hid m1) (Lib.hid q1)

end Go.Proofs.Ytbpppeekfjfolaa.IntMultiples
