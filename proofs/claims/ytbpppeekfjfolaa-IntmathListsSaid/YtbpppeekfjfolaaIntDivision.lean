/- The law IntmathDivision: the numbers that Div, Mod and Ceil return, and the walk of the law. -/
import Derived.Test.YtbpppeekfjfolaaIntAwake
namespace Go.Proofs.Ytbpppeekfjfolaa.IntDivision
set_option linter.unusedVariables false
open Go.RowKit Go.Proofs.Ytbpppeekfjfolaa.IntPlain Go.Proofs.Ytbpppeekfjfolaa.IntWalks Go.Proofs.Ytbpppeekfjfolaa.IntSum Go.Proofs.Ytbpppeekfjfolaa.IntAwake

theorem floor_mod (a b : Int) : floorOf a b * b + modOf a b = a := by
  have h := Int.tdiv_mul_add_tmod a b
  unfold floorOf modOf
  by_cases c : (0 < a.tmod b ∧ b < 0) ∨ (a.tmod b < 0 ∧ 0 < b)
  · rw [if_pos c, if_pos c, Int.sub_mul]; omega
  · rw [if_neg c, if_neg c]; exact h

theorem mod_pos (a b : Int) (hb : 0 < b) : 0 ≤ modOf a b ∧ modOf a b < b ∧ (modOf a b = 0 ↔ ceilOf a b = floorOf a b) := by
  have h := trunc_pos a b hb
  unfold modOf ceilOf floorOf
  generalize a.tmod b = r at *
  generalize a.tdiv b = q at *
  by_cases c : r < 0
  · rw [if_pos (by omega), if_neg (by omega), if_pos (by omega)]; omega
  · by_cases d : 0 < r
    · rw [if_neg (by omega), if_pos (by omega), if_neg (by omega)]; omega
    · rw [if_neg (by omega), if_neg (by omega), if_neg (by omega)]; omega

theorem mod_neg (a b : Int) (hb : b < 0) : modOf a b ≤ 0 ∧ b < modOf a b ∧ (modOf a b = 0 ↔ ceilOf a b = floorOf a b) := by
  have h := trunc_neg a b hb
  unfold modOf ceilOf floorOf
  generalize a.tmod b = r at *
  generalize a.tdiv b = q at *
  by_cases c : 0 < r
  · rw [if_pos (by omega), if_neg (by omega), if_pos (by omega)]; omega
  · by_cases d : r < 0
    · rw [if_neg (by omega), if_pos (by omega), if_neg (by omega)]; omega
    · rw [if_neg (by omega), if_neg (by omega), if_neg (by omega)]; omega

theorem ceil_floor (a b : Int) : ceilOf a b = -floorOf (-a) b := by
  unfold ceilOf floorOf
  rw [Int.neg_tmod, Int.neg_tdiv]
  generalize a.tmod b = r
  generalize a.tdiv b = q
  by_cases c : (0 < r ∧ 0 < b) ∨ (r < 0 ∧ b < 0)
  · rw [if_pos c, if_pos (by omega)]; omega
  · rw [if_neg c, if_neg (by omega)]; omega

theorem floor_range (a b : Int) (ha : inR a = true) : -4611686018427387905 ≤ floorOf a b ∧ floorOf a b ≤ 4611686018427387904 := by
  have h := (inR_iff a).1 ha
  have := tdiv_range a b h.1 h.2
  unfold floorOf
  split <;> omega

/-- A call of one of the three that returns n. -/
def Gives (f : FuncId) (a b n : Int) : Prop := ∀ w, Calls Try.prog f #[.int .i64 a, .int .i64 b] w fun e w' => e = .returned (.tuple #[.int .i64 n, .int .i64 0]) ∧ Below w.heap.size w w'

set_option maxHeartbeats 400000 in
theorem law_out (a b : Int) (w : World) (h : a < -4611686018427387904 ∨ 4611686018427387904 < a ∨ (-4611686018427387904 ≤ a ∧ a ≤ 4611686018427387904 ∧ (b < -4611686018427387904 ∨ 4611686018427387904 < b))) :
    Calls Try.prog 6 #[.int .i64 a, .int .i64 b] w fun e w' => e = .returned (.bool true) ∧ Below w.heap.size w w' := by
  rcases h with h | h | ⟨h1, h2, h | h⟩
  all_goals
    go_enter Try.func6, Try.ntmps6
    go_wp2_with (fail)
    refine (awake_any _).mono ?_
    rintro e w1 ⟨rfl, b1⟩
    go_wp2
    go_ret
    exact ⟨rfl, by go_grown⟩

set_option maxHeartbeats 400000 in
theorem law_zero (a : Int) (w : World) (h1 : -4611686018427387904 ≤ a) (h2 : a ≤ 4611686018427387904) :
    Calls Try.prog 6 #[.int .i64 a, .int .i64 0] w fun e w' => e = .returned (.bool true) ∧ Below w.heap.size w w' := by
  go_enter Try.func6, Try.ntmps6
  go_wp2_with (fail)
  refine (awake_any _).mono ?_
  rintro e w1 ⟨rfl, b1⟩
  go_wp2
  go_ret
  exact ⟨rfl, by go_grown⟩

theorem in_yes (n : Int) (w : World) (h1 : -4611686018427387904 ≤ n) (h2 : n ≤ 4611686018427387904) : Calls Try.prog 36 #[.int .i64 n] w fun e w' => e = .returned (.bool true) ∧ w = w' := by
  go_enter Try.func36, Try.ntmps36
  go_wp2
  go_ret
  exact ⟨rfl, rfl⟩

set_option maxHeartbeats 400000 in
theorem law_main (a b q m d : Int) (w : World) (ha1 : -4611686018427387904 ≤ a) (ha2 : a ≤ 4611686018427387904) (hb1 : -4611686018427387904 ≤ b) (hb2 : b ≤ 4611686018427387904)
    (hb0 : (b == 0) = false) (hd1 : -4611686018427387905 ≤ d) (hd2 : d ≤ 4611686018427387905)
    (hq : Hid (Gives 16 a b q)) (hm : Hid (Gives 18 a b m)) (hc : Hid (Gives 20 a b (-d))) (hd : Hid (Gives 16 (-a) b d))
    (hqm : q * b + m = a) (hp1 : -9223372036854775808 ≤ q * b) (hp2 : q * b ≤ 9223372036854775807)
    (hs : (0 < b ∧ 0 ≤ m ∧ m < b) ∨ (b < 0 ∧ m ≤ 0 ∧ b < m)) (hz : ((-d == q) == (m == 0)) = true) :
    Calls Try.prog 6 #[.int .i64 a, .int .i64 b] w fun e w' => e = .returned (.bool true) ∧ Below w.heap.size w w' := by
  rcases hs with ⟨hs1, hs2, hs3⟩ | ⟨hs1, hs2, hs3⟩
  all_goals
    go_enter Try.func6, Try.ntmps6
    go_wp2_with (fail)
    refine (awake_any _).mono ?_
    rintro e w1 ⟨rfl, b1⟩
    go_wp2_with (go_at_call 36; refine (in_yes _ _ (by omega) (by omega)).mono ?_; rintro e w' ⟨rfl, rfl⟩)
    refine (hq.out _).mono ?_
    rintro e w2 ⟨rfl, b2⟩
    go_wp2_with (fail)
    refine (hm.out _).mono ?_
    rintro e w3 ⟨rfl, b3⟩
    go_wp2_with (fail)
    refine (hc.out _).mono ?_
    rintro e w4 ⟨rfl, b4⟩
    go_wp2_with (fail)
    refine (hd.out _).mono ?_
    rintro e w5 ⟨rfl, b5⟩
    go_wp2
    go_ret
    exact ⟨rfl, bt (bt (bt (bt b1 b2) b3) b4) b5⟩

theorem walk (a b : Int) (w : World) :
    Calls Try.prog 6 #[.int .i64 a, .int .i64 b] w fun e w' => e = .returned (.bool true) ∧ Below w.heap.size w w' := by
  by_cases ha : inR a = true
  · have ha' := (inR_iff a).1 ha
    by_cases hb : inR b = true
    · have hb' := (inR_iff b).1 hb
      by_cases h0 : b = 0
      · subst h0; exact law_zero a w ha'.1 ha'.2
      · have hna : inR (-a) = true := (inR_iff (-a)).2 (by omega)
        have hfr := floor_range (-a) b hna
        have hfm := floor_mod a b
        have hcf := ceil_floor a b
        have hm : (0 < b ∧ 0 ≤ modOf a b ∧ modOf a b < b) ∨ (b < 0 ∧ modOf a b ≤ 0 ∧ b < modOf a b) := by
          by_cases hp : 0 < b
          · have := mod_pos a b hp; omega
          · have := mod_neg a b (by omega); omega
        have hz : modOf a b = 0 ↔ ceilOf a b = floorOf a b := by
          by_cases hp : 0 < b
          · exact (mod_pos a b hp).2.2
          · exact (mod_neg a b (by omega)).2.2
        refine law_main a b (floorOf a b) (modOf a b) (floorOf (-a) b) w ha'.1 ha'.2 hb'.1 hb'.2 (by simpa using h0) (by omega) (by omega)
          (Lib.hid fun w => div_ok a b w ha hb h0) (Lib.hid fun w => mod_ok a b w ha hb h0) (Lib.hid fun w => by rw [← hcf]; exact ceil_ok a b w ha hb h0) (Lib.hid fun w => div_ok (-a) b w hna hb h0)
          hfm (by omega) (by omega) hm ?_
        rw [← hcf]
        by_cases hmz : modOf a b = 0
        · rw [hz.1 hmz, hmz]; simp
        · have : ceilOf a b ≠ floorOf a b := fun h => hmz (hz.2 h)
          rw [beq_eq_false_iff_ne.2 this, beq_eq_false_iff_ne.2 hmz]; rfl
    · have hb' : ¬ (-4611686018427387904 ≤ b ∧ b ≤ 4611686018427387904) := fun h => hb ((inR_iff b).2 h)
      exact law_out a b w (by omega)
  · have ha' : ¬ (-4611686018427387904 ≤ a ∧ a ≤ 4611686018427387904) := fun h => ha ((inR_iff a).2 h)
    exact law_out a b w (by omega)

end Go.Proofs.Ytbpppeekfjfolaa.IntDivision
