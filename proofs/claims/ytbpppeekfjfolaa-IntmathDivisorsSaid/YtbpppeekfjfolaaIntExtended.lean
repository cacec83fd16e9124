/- The walk of 'extended': the greatest common divisor with a pair. -/
import Derived.Test.YtbpppeekfjfolaaIntLcm
import Derived.Test.YtbpppeekfjfolaaIntEuclid
namespace Go.Proofs.Ytbpppeekfjfolaa.IntExtended
set_option linter.unusedVariables false
open Go.RowKit Go.Proofs.Ytbpppeekfjfolaa.IntPlain Go.Proofs.Ytbpppeekfjfolaa.IntWalks Go.Proofs.Ytbpppeekfjfolaa.IntWide Go.Proofs.Ytbpppeekfjfolaa.IntBasic Go.Proofs.Ytbpppeekfjfolaa.IntEuclid

/-- What a call of 'extended' comes to: the greatest common divisor, and a pair that leads to it, whose first number is at most |b| / g. -/
def Ext (a b : Int) (w : World) (e : Ending) (w' : World) : Prop := ∃ x y : Int, e = .returned (.tuple #[.int .i64 (Int.gcd a b : Nat), .int .i64 x, .int .i64 y]) ∧ a * x + b * y = (Int.gcd a b : Nat) ∧ x.natAbs * Int.gcd a b ≤ b.natAbs ∧ Below w.heap.size w w'

set_option maxHeartbeats 1000000 in
theorem extended_any (a b : Int) (w : World) (ha : inR a = true) (hb : inR b = true) (hb0 : b ≠ 0) :
    Calls Try.prog 45 #[.int .i64 a, .int .i64 b] w (Ext a b w) := by
  have ha' := (inR_iff a).1 ha
  have hb' := (inR_iff b).1 hb
  have hA : ((a.natAbs : Nat) : Int) ≤ 4611686018427387904 := by omega
  have hB : ((b.natAbs : Nat) : Int) ≤ 4611686018427387904 := by omega
  have HA := Lib.hid hA
  have HB := Lib.hid hB
  have HB0 := Lib.hid hb0
  clear ha hb hA hB hb0
  go_enter Try.func45, Try.ntmps45
  go_wp2
  go_loopw [0, 1, 5, 6, 7, 8] (fun s0 s1 s5 s6 s7 s8 wr => ∃ r s x y u v : Int, s0 = .int .i64 r ∧ s1 = .int .i64 s ∧ s5 = .int .i64 x ∧ s6 = .int .i64 u ∧ s7 = .int .i64 y ∧ s8 = .int .i64 v ∧
    (-4611686018427387904 ≤ r ∧ r ≤ 4611686018427387904) ∧ (-4611686018427387904 ≤ s ∧ s ≤ 4611686018427387904) ∧ (-4611686018427387904 ≤ x ∧ x ≤ 4611686018427387904) ∧ (-4611686018427387904 ≤ y ∧ y ≤ 4611686018427387904) ∧ (-4611686018427387905 ≤ u ∧ u ≤ 4611686018427387905) ∧ (-4611686018427387904 ≤ v ∧ v ≤ 4611686018427387904) ∧
    Hid (Inv a b r s x y u v) ∧ Below w.heap.size w wr) (fun _ s1 _ _ _ _ _ => (intOf s1).natAbs)
  case atStart => exact ⟨a, b, 1, 0, 0, 1, rfl, rfl, rfl, rfl, rfl, rfl, ha', hb', by omega, by omega, by omega, by omega, Lib.hid (inv_start a b), Below.refl _ _⟩
  case round =>
    obtain ⟨r, s, x, y, u, v, rfl, rfl, rfl, rfl, rfl, rfl, hr, hs, hx, hy, hu, hv, HI, HBW⟩ := hrel
    have HBB := Lib.hid HBW
    clear HBW ha' hb'
    by_cases hs0 : s = 0
    · subst hs0
      obtain ⟨e1, e2, e3, e4, e5⟩ := inv_last a b r x y u v HB0.out HI.out
      have HE : Hid (Ext a b w (.returned (.tuple #[.int .i64 (r.natAbs : Nat), .int .i64 (x * r.sign), .int .i64 (u * r.sign)])) wr) := by
        refine Lib.hid ⟨x * r.sign, u * r.sign, by rw [e1], by rw [e1]; exact e2, ?_, HBB.out⟩
        rw [e1, Int.natAbs_mul, Int.natAbs_sign_of_ne_zero (by omega), Nat.mul_one]
        exact e3
      have hsg : (r.sign = 1 ∨ r.sign = -1) := by
        by_cases h : 0 < r
        · exact Or.inl (Int.sign_eq_one_of_pos h)
        · exact Or.inr (Int.sign_eq_neg_one_of_neg (by omega))
      have hm : (-4611686018427387904 ≤ x * r.sign ∧ x * r.sign ≤ 4611686018427387904) ∧ (-4611686018427387905 ≤ u * r.sign ∧ u * r.sign ≤ 4611686018427387905) := by
        rcases hsg with h | h <;> rw [h] <;> omega
      clear e1 e2 e3 e4 e5 HI
      obtain ⟨hr1, hr2⟩ := hr
      obtain ⟨⟨hm1, hm2⟩, hm3, hm4⟩ := hm
      clear hsg
      go_wp2_with (fail)
      refine (abs_any r _ (by omega) (by omega)).mono ?_
      rintro e w' ⟨rfl, rfl⟩
      go_wp2_with (fail)
      refine (sign_any r _).mono ?_
      rintro e w' ⟨rfl, rfl⟩
      go_wp2_with (fail)
      refine (sign_any r _).mono ?_
      rintro e w' ⟨rfl, rfl⟩
      go_wp2
      go_ret3
      exact HE.out
    · have HN := Lib.hid (inv_step a b r s x y u v hs0 HI.out)
      obtain ⟨k1, k2, k3, k4⟩ := inv_range a b r s x y u v 4611686018427387904 hs0 HI.out HA.out HB.out
      have hq := tdiv_range r s hr.1 hr.2
      have ht := tmod_zero_range r s hs0
      have hys : 0 < s ∨ s < 0 := by omega
      have hs1 : (s == 0) = false := beq_eq_false_iff_ne.2 hs0
      have ht1 : -4611686018427387904 ≤ r.tmod s := by omega
      have ht2 : r.tmod s ≤ 4611686018427387904 := by omega
      have a1 : -4611686018427387904 ≤ r.tdiv s * y := by omega
      have a2 : r.tdiv s * y ≤ 4611686018427387904 := by omega
      have a3 : -4611686018427387904 ≤ x - r.tdiv s * y := by omega
      have a4 : x - r.tdiv s * y ≤ 4611686018427387904 := by omega
      have a5 : -4611686018427387904 ≤ r.tdiv s * v := by omega
      have a6 : r.tdiv s * v ≤ 4611686018427387904 := by omega
      have a7 : -4611686018427387904 ≤ u - r.tdiv s * v := by omega
      have a8 : u - r.tdiv s * v ≤ 4611686018427387904 := by omega
      obtain ⟨hq1, hq2⟩ := hq
      obtain ⟨hs2, hs3⟩ := hs
      obtain ⟨hy1, hy2⟩ := hy
      obtain ⟨hv1, hv2⟩ := hv
      clear HI k1 k2 k3 k4 ht hs0 hr hx hu
      rcases hys with hys | hys
      all_goals
        go_wp2
        go_quiet (fail)
        go_wp2
        go_roundw
        case rel => exact ⟨s, r.tmod s, y, x - r.tdiv s * y, v, u - r.tdiv s * v, rfl, rfl, rfl, rfl, rfl, rfl, ⟨hs2, hs3⟩, ⟨ht1, ht2⟩, ⟨hy1, hy2⟩, ⟨a3, a4⟩, ⟨by omega, by omega⟩, ⟨a7, a8⟩, HN, below_drewN HBB.out _⟩
        case measure => simp [intOf]; exact Nat.mod_lt _ (by omega)

end Go.Proofs.Ytbpppeekfjfolaa.IntExtended
