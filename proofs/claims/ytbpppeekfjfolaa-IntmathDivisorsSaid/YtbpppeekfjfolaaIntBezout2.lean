/- 'Bezout' and 'Inverse' as functions: the pair is unique. -/
import Derived.Test.YtbpppeekfjfolaaIntBezout
import Derived.Test.YtbpppeekfjfolaaIntMultiples2
namespace Go.Proofs.Ytbpppeekfjfolaa.IntBezout
set_option linter.unusedVariables false
open Go.RowKit Go.Proofs.Ytbpppeekfjfolaa.IntPlain Go.Proofs.Ytbpppeekfjfolaa.IntWalks Go.Proofs.Ytbpppeekfjfolaa.IntWide Go.Proofs.Ytbpppeekfjfolaa.IntSum Go.Proofs.Ytbpppeekfjfolaa.IntBasic Go.Proofs.Ytbpppeekfjfolaa.IntGcd Go.Proofs.Ytbpppeekfjfolaa.IntLcm Go.Proofs.Ytbpppeekfjfolaa.IntMultiples Go.Proofs.Ytbpppeekfjfolaa.IntEuclid Go.Proofs.Ytbpppeekfjfolaa.IntExtended

theorem leads_unique (n c x y x' y' : Int) (hc : c ≠ 0) (h : Leads n c x y) (h' : Leads n c x' y') (hx : 0 ≤ x ∧ x < (c.natAbs : Nat)) (hx' : 0 ≤ x' ∧ x' < (c.natAbs : Nat)) : x = x' ∧ y = y' := by
  unfold Leads at *
  have h1 : n * (x - x') = c * (y' - y) := by rw [Int.mul_sub, Int.mul_sub]; omega
  have h2 : x - x' = c * (x * (y' - y) + y * (x - x')) := by
    have e1 : x - x' = (n * x + c * y) * (x - x') := by rw [h, Int.one_mul]
    have e2 : (n * x + c * y) * (x - x') = x * (n * (x - x')) + c * (y * (x - x')) := by grind
    rw [e2, h1] at e1
    rw [e1]
    grind
  have hd : c ∣ x - x' := ⟨_, h2⟩
  have hd2 : c.natAbs ∣ (x - x').natAbs := Int.natAbs_dvd_natAbs.2 hd
  have hz : (x - x').natAbs = 0 := Nat.eq_zero_of_dvd_of_lt hd2 (by omega)
  have hxx : x = x' := by omega
  subst hxx
  refine ⟨rfl, ?_⟩
  have h3 : c * (y' - y) = 0 := by omega
  rcases Int.mul_eq_zero.1 h3 with h4 | h4
  · exact absurd h4 hc
  · omega

theorem pair_exists : ∀ (k : Nat) (r s : Int), s.natAbs ≤ k → ∃ x y : Int, r * x + s * y = ((Int.gcd r s : Nat) : Int)
  | 0, r, s, h => by
    obtain rfl : s = 0 := by omega
    exact ⟨r.sign, 0, by rw [Int.gcd_zero_right, Int.mul_sign_self]; omega⟩
  | k + 1, r, s, h => by
    by_cases h0 : s = 0
    · subst h0
      exact ⟨r.sign, 0, by rw [Int.gcd_zero_right, Int.mul_sign_self]; omega⟩
    · have hlt : (r.tmod s).natAbs < s.natAbs := by rw [Int.natAbs_tmod]; exact Nat.mod_lt _ (by omega)
      obtain ⟨x, y, e⟩ := pair_exists k s (r.tmod s) (by omega)
      rw [IntEuclid.gcd_step] at e
      refine ⟨y, x - r.tdiv s * y, ?_⟩
      rw [← e]
      have e2 := Int.tdiv_mul_add_tmod r s
      generalize r.tdiv s = q at *
      generalize r.tmod s = t at *
      rw [← e2]
      grind

theorem leads_exists (a b : Int) (hb0 : b ≠ 0) (f1 : 0 < ((Int.gcd a b : Nat) : Int)) (f2 : a = a / (Int.gcd a b : Nat) * (Int.gcd a b : Nat)) (f3 : b = b / (Int.gcd a b : Nat) * (Int.gcd a b : Nat))
    (f4 : b.sign * (((b.natAbs : Nat) : Int) / (Int.gcd a b : Nat)) = b / (Int.gcd a b : Nat)) (f5 : 0 < ((b.natAbs : Nat) : Int) / (Int.gcd a b : Nat)) :
    ∃ x y : Int, Leads (a / (Int.gcd a b : Nat)) (b / (Int.gcd a b : Nat)) x y ∧ 0 ≤ x ∧ x < ((b.natAbs : Nat) : Int) / (Int.gcd a b : Nat) := by
  obtain ⟨x, y, e⟩ := pair_exists b.natAbs a b (Nat.le_refl _)
  have hss : b.sign * b.sign = 1 := by
    by_cases hp : 0 < b
    · rw [Int.sign_eq_one_of_pos hp]; rfl
    · rw [Int.sign_eq_neg_one_of_neg (by omega)]; rfl
  generalize ((Int.gcd a b : Nat) : Int) = g at *
  generalize a / g = n at *
  generalize hc : b / g = c at *
  generalize hm : ((b.natAbs : Nat) : Int) / g = m at *
  generalize b.sign = s at *
  have hl : n * x + c * y = 1 := by
    have e1 : (n * x + c * y) * g = 1 * g := by
      have e3 : (n * x + c * y) * g = n * g * x + c * g * y := by grind
      rw [e3, ← f2, ← f3, e, Int.one_mul]
    exact Int.eq_of_mul_eq_mul_right (by omega) e1
  have hx := Int.mul_ediv_add_emod x m
  refine ⟨x % m, y + n * (x / m) * s, ?_, Int.emod_nonneg x (by omega), Int.emod_lt_of_pos x f5⟩
  unfold Leads
  rw [← hl]
  have hcm : m = c * s := by rw [← f4]; grind
  generalize x / m = d at *
  generalize x % m = t at *
  rw [← hx, hcm]
  grind

/-- A call with two numbers that returns three, and an error. -/
def Quad (f : FuncId) (a b g x y e : Int) : Prop := ∀ w, Calls Try.prog f #[.int .i64 a, .int .i64 b] w fun r w' => r = .returned (.tuple #[.int .i64 g, .int .i64 x, .int .i64 y, .int .i64 e]) ∧ Below w.heap.size w w'

theorem quo_exact (a : Int) (g : Nat) (h : (g : Int) ∣ a) : (a < 0 ∧ a.tdiv g = a / g) ∨ (0 ≤ a ∧ a / (g : Int) = a / g) := by
  by_cases hn : a < 0
  · exact Or.inl ⟨hn, Int.tdiv_eq_ediv_of_dvd h⟩
  · exact Or.inr ⟨by omega, rfl⟩

theorem bezout_facts (a b : Int) (hb0 : b ≠ 0) : let g : Int := (Int.gcd a b : Nat); 0 < g ∧ a = a / g * g ∧ b = b / g * g ∧ b.sign * (((b.natAbs : Nat) : Int) / g) = b / g ∧ 0 < ((b.natAbs : Nat) : Int) / g ∧ (((b / g).natAbs : Nat) : Int) = ((b.natAbs : Nat) : Int) / g := by
  intro g
  have hg0 : 0 < Int.gcd a b := Nat.pos_of_ne_zero fun h => hb0 (Int.gcd_eq_zero_iff.1 h).2
  have hg : 0 < g := by show 0 < ((Int.gcd a b : Nat) : Int); omega
  have hda : g ∣ a := Int.gcd_dvd_left ..
  have hdb : g ∣ b := Int.gcd_dvd_right ..
  have ea : a = a / g * g := (Int.ediv_mul_cancel hda).symm
  have eb : b = b / g * g := (Int.ediv_mul_cancel hdb).symm
  have en : ((b.natAbs : Nat) : Int) = (((b / g).natAbs : Nat) : Int) * g := by
    have h1 := congrArg Int.natAbs eb
    rw [Int.natAbs_mul] at h1
    have h2 : ((g.natAbs : Nat) : Int) = g := by omega
    rw [h1, Int.natCast_mul, h2]
  have e1 : ((b.natAbs : Nat) : Int) / g = (((b / g).natAbs : Nat) : Int) := by rw [en, Int.mul_ediv_cancel _ (by omega)]
  have hc0 : b / g ≠ 0 := fun h => hb0 (by rw [eb, h, Int.zero_mul])
  refine ⟨hg, ea, eb, ?_, by omega, by omega⟩
  rw [e1]
  have hsg : b.sign = (b / g).sign := by
    by_cases hp : 0 < b
    · have : 0 < b / g := by
        rcases Int.lt_trichotomy (b / g) 0 with h | h | h
        · have := Int.mul_neg_of_neg_of_pos h hg; omega
        · exact absurd h hc0
        · exact h
      rw [Int.sign_eq_one_of_pos hp, Int.sign_eq_one_of_pos this]
    · have : b / g < 0 := by
        rcases Int.lt_trichotomy (b / g) 0 with h | h | h
        · exact h
        · exact absurd h hc0
        · have := Int.mul_pos h hg; omega
      rw [Int.sign_eq_neg_one_of_neg (by omega), Int.sign_eq_neg_one_of_neg this]
  rw [hsg]
  exact Int.sign_mul_natAbs _

theorem bezout_in (a b : Int) (ha : inR a = true) (hb : inR b = true) (hb0 : b ≠ 0) : ∃ x y : Int, Quad 24 a b (Int.gcd a b : Nat) x y 0 ∧ Leads (a / (Int.gcd a b : Nat)) (b / (Int.gcd a b : Nat)) x y ∧ 0 ≤ x ∧ x < ((b.natAbs : Nat) : Int) / (Int.gcd a b : Nat) := by
  have ha' := (inR_iff a).1 ha
  have hb' := (inR_iff b).1 hb
  have hgr := (inR_iff _).1 (gcd_range a b ha hb)
  obtain ⟨f1, f2, f3, f4, f5, f6⟩ := bezout_facts a b hb0
  have hd : ((Int.gcd a b : Nat) : Int) ∣ a := Int.gcd_dvd_left ..
  have hq := quo_exact a (Int.gcd a b) hd
  have hext := fun w => extended_any a b w ha hb hb0
  have ext_eq : ∀ w e w', Ext a b w e w' → Start (a / (Int.gcd a b : Nat)) (b / (Int.gcd a b : Nat)) (((b.natAbs : Nat) : Int) / (Int.gcd a b : Nat)) (Int.gcd a b : Nat) w e w' := by
    rintro w e w' ⟨x, y, h1, h2, h3, h4⟩
    have hl : Leads (a / (Int.gcd a b : Nat)) (b / (Int.gcd a b : Nat)) x y := by
      unfold Leads
      generalize ((Int.gcd a b : Nat) : Int) = g at *
      have e : (a / g * x + b / g * y) * g = 1 * g := by
        have e1 : (a / g * x + b / g * y) * g = a / g * g * x + b / g * g * y := by grind
        rw [e1, ← f2, ← f3, h2, Int.one_mul]
      exact Int.eq_of_mul_eq_mul_right (by omega) e
    have hx : ((x.natAbs : Nat) : Int) ≤ ((b.natAbs : Nat) : Int) / (Int.gcd a b : Nat) := by
      rw [Int.le_ediv_iff_mul_le f1, ← Int.natCast_mul]
      omega
    exact ⟨x, y, h1, hl, by omega, by omega, h4⟩
  have hnr : ((a / ((Int.gcd a b : Nat) : Int)).natAbs : Int) ≤ 4611686018427387904 := by
    have h1 := congrArg Int.natAbs f2
    rw [Int.natAbs_mul] at h1
    have h2 : (a / ((Int.gcd a b : Nat) : Int)).natAbs * 1 ≤ (a / ((Int.gcd a b : Nat) : Int)).natAbs * (((Int.gcd a b : Nat) : Int)).natAbs := Nat.mul_le_mul_left _ (by omega)
    omega
  have hmr : ((b.natAbs : Nat) : Int) / (Int.gcd a b : Nat) ≤ ((b.natAbs : Nat) : Int) := Int.ediv_le_self _ (by omega)
  have hs : b.sign = 1 ∨ b.sign = -1 := by
    by_cases hp : 0 < b
    · exact Or.inl (Int.sign_eq_one_of_pos hp)
    · exact Or.inr (Int.sign_eq_neg_one_of_neg (by omega))
  have hcore := fun w => bezout_core a b ((b.natAbs : Nat) : Int) ((Int.gcd a b : Nat) : Int) b.sign (a / (Int.gcd a b : Nat)) (((b.natAbs : Nat) : Int) / (Int.gcd a b : Nat)) w ha' hb' (beq_eq_false_iff_ne.2 hb0) (by omega) (by omega) f1 hgr.2 rfl f5 (by omega) hq (by omega) (by omega) hs
    (Lib.hid (by rw [ha, hb]; rfl)) (Lib.hid fun w => (hext w).mono fun e w' h => by rw [f4]; exact ext_eq w e w' h) (Lib.hid fun w => abs_any b w (by omega) (by omega)) (Lib.hid fun w => sign_any b w)
  rw [f4] at hcore
  -- the pair is the same in every world
  have huniq : ∀ w e w' w2 e2 w2', Final (a / (Int.gcd a b : Nat)) (b / (Int.gcd a b : Nat)) (((b.natAbs : Nat) : Int) / (Int.gcd a b : Nat)) (Int.gcd a b : Nat) w e w' → Final (a / (Int.gcd a b : Nat)) (b / (Int.gcd a b : Nat)) (((b.natAbs : Nat) : Int) / (Int.gcd a b : Nat)) (Int.gcd a b : Nat) w2 e2 w2' → e = e2 := by
    rintro w e w' w2 e2 w2' ⟨x, y, h1, h2, h3, h4, _⟩ ⟨x2, y2, k1, k2, k3, k4, _⟩
    have hc0 : b / ((Int.gcd a b : Nat) : Int) ≠ 0 := fun h => by rw [h] at f6; simp at f6; omega
    obtain ⟨rfl, rfl⟩ := leads_unique _ _ x y x2 y2 hc0 h2 k2 ⟨h3, by omega⟩ ⟨k3, by omega⟩
    rw [h1, k1]
  obtain ⟨x, y, hx⟩ := leads_exists a b hb0 f1 f2 f3 f4 f5
  refine ⟨x, y, fun w => (hcore w).mono fun e w' hF => ?_, hx⟩
  have hF2 := hF
  obtain ⟨x2, y2, h1, h2, h3, h4, h5⟩ := hF
  refine ⟨?_, h5⟩
  exact huniq w e w' w (.returned (.tuple #[.int .i64 (Int.gcd a b : Nat), .int .i64 x, .int .i64 y, .int .i64 0])) w hF2 ⟨x, y, rfl, hx.1, hx.2.1, hx.2.2, Below.refl _ _⟩

theorem bezout_out (a b : Int) (h : (inR a && inR b) = false) : Quad 24 a b 0 0 0 2 := by
  intro w
  have HH := Lib.hid h
  clear h
  go_enter Try.func24, Try.ntmps24
  go_wp2_with (fail)
  refine (within_two _ a b _ (by go_cell) (by go_cell)).mono ?_
  rw [HH.out]
  rintro e w' ⟨rfl, rfl⟩
  go_wp2
  refine bodyPost_ret (v := .tuple #[.int .i64 0, .int .i64 0, .int .i64 0, .int .i64 2]) (by simp [results, Try.results24, go_sem]) rfl ⟨rfl, ?_⟩
  go_grown

theorem bezout_zero (a : Int) (ha : inR a = true) : Quad 24 a 0 (a.natAbs : Nat) a.sign 0 0 := by
  intro w
  have HH := Lib.hid ha
  have ha' := (inR_iff a).1 ha
  obtain ⟨ha1, ha2⟩ := ha'
  clear ha
  go_enter Try.func24, Try.ntmps24
  go_wp2_with (fail)
  refine (within_two _ a 0 _ (by go_cell) (by go_cell)).mono ?_
  rw [HH.out, show inR 0 = true from by decide]
  rintro e w' ⟨rfl, rfl⟩
  go_wp2_with (fail)
  refine (abs_any a _ (by omega) (by omega)).mono ?_
  rintro e w' ⟨rfl, rfl⟩
  go_wp2_with (fail)
  refine (sign_any a _).mono ?_
  rintro e w' ⟨rfl, rfl⟩
  go_wp2
  refine bodyPost_ret (v := .tuple #[.int .i64 (a.natAbs : Nat), .int .i64 a.sign, .int .i64 0, .int .i64 0]) (by simp [results, Try.results24, go_sem]) rfl ⟨rfl, ?_⟩
  go_grown

/-- 'Inverse' by what 'Bezout' gives. -/
theorem inverse_of (a m g x y e v f : Int) (HB : Hid (Quad 24 a m g x y e)) (hc : ((e != 0) = true ∧ v = 0 ∧ f = e) ∨ (e = 0 ∧ m < 1 ∧ v = 0 ∧ f = 1) ∨ (e = 0 ∧ 1 ≤ m ∧ (g != 1) = true ∧ v = 0 ∧ f = 9) ∨ (e = 0 ∧ 1 ≤ m ∧ g = 1 ∧ v = x ∧ f = 0)) :
    Pair 28 a m v f := by
  intro w
  rcases hc with ⟨he, rfl, rfl⟩ | ⟨rfl, hm, rfl, rfl⟩ | ⟨rfl, hm, hg, rfl, rfl⟩ | ⟨rfl, hm, rfl, rfl, rfl⟩
  all_goals
    go_enter Try.func28, Try.ntmps28
    go_wp2_with (fail)
    refine (HB.out _).mono ?_
    rintro r w1 ⟨rfl, b1⟩
    go_wp2
    go_ret2
    exact ⟨rfl, b1⟩

end Go.Proofs.Ytbpppeekfjfolaa.IntBezout
