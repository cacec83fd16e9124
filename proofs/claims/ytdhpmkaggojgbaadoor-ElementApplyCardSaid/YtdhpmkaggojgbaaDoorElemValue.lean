/- The numbers that the scalar primitives give: the walks of 'quotient', 'number', 'truth' and 'value'. -/
import Derived.Test.YtdhpmkaggojgbaaDoorElemApply
namespace Go.Proofs.YtdhpmkaggojgbaaDoor.ElemValue
set_option linter.unusedVariables false
open Go.RowKit Go.Proofs.YtdhpmkaggojgbaaDoor.ElemTable Go.Proofs.YtdhpmkaggojgbaaDoor.ElemFind Go.Proofs.YtdhpmkaggojgbaaDoor.ElemApply

/-- The quotient rounded down; 0 for the divisor 0. -/
def quo (a b : Int) : Int := if b = 0 then 0 else if a.tmod b ≠ 0 ∧ ((a < 0) ≠ (b < 0)) then a.tdiv b - 1 else a.tdiv b

set_option maxHeartbeats 1000000 in
theorem quotient_main (a b q r v : Int) (w : World) (ha : isI a) (hb : isI b) (hq1 : -2147483648 ≤ q) (hq2 : q ≤ 2147483648)
    (h : (a < 0 ∧ 0 < b ∧ a.tdiv b = q ∧ a.tmod b = r ∧ ((r < 0 ∧ v = q - 1) ∨ (r = 0 ∧ v = q))) ∨ (a < 0 ∧ b < 0 ∧ a.tdiv b = q ∧ a.tmod b = r ∧ v = q ∧ (r < 0 ∨ r = 0)) ∨
      (0 ≤ a ∧ 0 < b ∧ a / b = q ∧ a % b = r ∧ v = q ∧ (0 < r ∨ r = 0)) ∨ (0 ≤ a ∧ b < 0 ∧ a.tdiv b = q ∧ a.tmod b = r ∧ ((0 < r ∧ v = q - 1) ∨ (r = 0 ∧ v = q)))) :
    Calls Tryd.prog 33 #[.int .i64 a, .int .i64 b] w fun e w' => e = .returned (.int .i64 v) ∧ w = w' := by
  obtain ⟨a1, a2⟩ := ha
  obtain ⟨b1, b2⟩ := hb
  rcases h with ⟨s1, s2, e1, e2, ⟨c, rfl⟩ | ⟨rfl, rfl⟩⟩ | ⟨s1, s2, e1, e2, rfl, c | rfl⟩ | ⟨s1, s2, e1, e2, rfl, c | rfl⟩ | ⟨s1, s2, e1, e2, ⟨c, rfl⟩ | ⟨rfl, rfl⟩⟩
  all_goals
    first | (have d1 : decide (a < 0) = true := decide_eq_true s1) | (have d1 : decide (a < 0) = false := decide_eq_false (by omega))
    first | (have d2 : decide (b < 0) = true := decide_eq_true s2) | (have d2 : decide (b < 0) = false := decide_eq_false (by omega))
    have E1 := Lib.hid e1
    go_enter Tryd.func33, Tryd.ntmps33
    go_wp2
    go_ret
    refine ⟨?_, rfl⟩
    first | rfl | (show Ending.returned (Value.int .i64 _) = _; rw [E1.out])

theorem quotient_zero (a : Int) (w : World) : Calls Tryd.prog 33 #[.int .i64 a, .int .i64 0] w fun e w' => e = .returned (.int .i64 0) ∧ w = w' := by
  go_enter Tryd.func33, Tryd.ntmps33
  go_wp2
  go_ret
  exact ⟨rfl, rfl⟩

theorem number_any (b : Bool) (w : World) : Calls Tryd.prog 34 #[.bool b] w fun e w' => e = .returned (.int .i64 (if b then 1 else 0)) ∧ w = w' := by
  cases b
  all_goals
    go_enter Tryd.func34, Tryd.ntmps34
    go_wp2
    go_ret
    exact ⟨rfl, rfl⟩

def bitOf (b : Bool) : Int := if b then 1 else 0
/-- A name of a primitive whose result is a truth value. -/
def Truth (s : ByteArray) (a b : Int) (t : Bool) : Prop := ∀ w, Calls Tryd.prog 35 #[.string s, .int .i64 a, .int .i64 b] w fun e w' => e = .returned (.bool t) ∧ w = w'

set_option maxHeartbeats 1000000 in
theorem truth_lt (a b : Int) : Truth ⟨#[108, 116]⟩ a b (decide (a < b)) := by
  intro w
  go_enter Tryd.func35, Tryd.ntmps35
  go_wp2
  all_goals
    go_ret
    refine ⟨?_, rfl⟩
    first | rfl | (simp_all; done) | go_goals

set_option maxHeartbeats 1000000 in
theorem truth_le (a b : Int) : Truth ⟨#[108, 101]⟩ a b (decide (a ≤ b)) := by
  intro w
  go_enter Tryd.func35, Tryd.ntmps35
  go_wp2
  all_goals
    go_ret
    refine ⟨?_, rfl⟩
    first | rfl | (simp_all; done) | go_goals

set_option maxHeartbeats 1000000 in
theorem truth_gt (a b : Int) : Truth ⟨#[103, 116]⟩ a b (decide (b < a)) := by
  intro w
  go_enter Tryd.func35, Tryd.ntmps35
  go_wp2
  all_goals
    go_ret
    refine ⟨?_, rfl⟩
    first | rfl | (simp_all; done) | go_goals

set_option maxHeartbeats 1000000 in
theorem truth_ge (a b : Int) : Truth ⟨#[103, 101]⟩ a b (decide (b ≤ a)) := by
  intro w
  go_enter Tryd.func35, Tryd.ntmps35
  go_wp2
  all_goals
    go_ret
    refine ⟨?_, rfl⟩
    first | rfl | (simp_all; done) | go_goals

set_option maxHeartbeats 1000000 in
theorem truth_eq (a b : Int) : Truth ⟨#[101, 113]⟩ a b ((a == b)) := by
  intro w
  go_enter Tryd.func35, Tryd.ntmps35
  go_wp2
  all_goals
    go_ret
    refine ⟨?_, rfl⟩
    first | rfl | (simp_all; done) | go_goals

set_option maxHeartbeats 1000000 in
theorem truth_ne (a b : Int) : Truth ⟨#[110, 101]⟩ a b ((a != b)) := by
  intro w
  go_enter Tryd.func35, Tryd.ntmps35
  go_wp2
  all_goals
    go_ret
    refine ⟨?_, rfl⟩
    first | rfl | (simp_all; done) | go_goals

set_option maxHeartbeats 1000000 in
theorem truth_xor (a b : Int) : Truth ⟨#[120, 111, 114]⟩ a b ((a != b)) := by
  intro w
  go_enter Tryd.func35, Tryd.ntmps35
  go_wp2
  all_goals
    go_ret
    refine ⟨?_, rfl⟩
    first | rfl | (simp_all; done) | go_goals

set_option maxHeartbeats 1000000 in
theorem truth_and (a b : Int) : Truth ⟨#[97, 110, 100]⟩ a b ((a == 1 && b == 1)) := by
  intro w
  go_enter Tryd.func35, Tryd.ntmps35
  go_wp2
  all_goals
    go_ret
    refine ⟨?_, rfl⟩
    first | rfl | (simp_all; done) | go_goals

set_option maxHeartbeats 1000000 in
theorem truth_or (a b : Int) : Truth ⟨#[111, 114]⟩ a b ((a == 1 || b == 1)) := by
  intro w
  go_enter Tryd.func35, Tryd.ntmps35
  go_wp2
  all_goals
    go_ret
    refine ⟨?_, rfl⟩
    first | rfl | (simp_all; done) | go_goals

set_option maxHeartbeats 1000000 in
theorem truth_not (a b : Int) : Truth ⟨#[110, 111, 116]⟩ a b ((a == 0)) := by
  intro w
  go_enter Tryd.func35, Tryd.ntmps35
  go_wp2
  all_goals
    go_ret
    refine ⟨?_, rfl⟩
    first | rfl | (simp_all; done) | go_goals


end Go.Proofs.YtdhpmkaggojgbaaDoor.ElemValue
