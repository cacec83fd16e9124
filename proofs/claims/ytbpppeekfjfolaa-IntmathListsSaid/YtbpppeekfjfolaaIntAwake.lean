/- What 'awake' of the statements about intmath comes to: the examples of the document, call by call. -/
import Derived.Test.YtbpppeekfjfolaaIntSum
namespace Go.Proofs.Ytbpppeekfjfolaa.IntAwake
set_option linter.unusedVariables false
open Go.RowKit Go.Proofs.Ytbpppeekfjfolaa.IntPlain Go.Proofs.Ytbpppeekfjfolaa.IntWalks Go.Proofs.Ytbpppeekfjfolaa.IntSum

/-- Growing and growing again. -/
theorem bt {w w1 w2 : World} (h1 : Below w.heap.size w w1) (h2 : Below w1.heap.size w1 w2) : Below w.heap.size w w2 := h1.trans (h2.mono h1.size)

set_option maxHeartbeats 400000 in
theorem extended_12_18 (w : World) : Calls Try.prog 45 #[.int .i64 12, .int .i64 18] w fun e w' => e = .returned (.tuple #[.int .i64 6, .int .i64 (-1), .int .i64 1]) ∧ Below w.heap.size w w' := by
  go_enter Try.func45, Try.ntmps45
  go_wp2
  refine wp_loop_rounds 5 ?_
  rw [rounds_succ]
  go_wp2
  go_quiet (fail)
  go_wp2
  rw [rounds_succ]
  go_wp2
  go_quiet (fail)
  go_wp2
  rw [rounds_succ]
  go_wp2
  go_quiet (fail)
  go_wp2
  rw [rounds_succ]
  go_wp2
  go_ret3
  exact ⟨rfl, by repeat (first | exact Below.refl _ _ | refine below_drewN ?_ _)⟩

set_option maxHeartbeats 400000 in
theorem bezout_12_18 (w : World) : Calls Try.prog 24 #[.int .i64 12, .int .i64 18] w fun e w' => e = .returned (.tuple #[.int .i64 6, .int .i64 2, .int .i64 (-1), .int .i64 0]) ∧ Below w.heap.size w w' := by
  go_enter Try.func24, Try.ntmps24
  go_wp2_with (fail)
  refine (within_two _ 12 18 _ (by go_cell) (by go_cell)).mono ?_
  rintro e w' ⟨rfl, rfl⟩
  go_wp2_with (fail)
  refine (extended_12_18 _).mono ?_
  rintro e w' ⟨rfl, hB⟩
  go_wp2_with (fail)
  refine wp_loop_rounds 2 ?_
  rw [rounds_succ]
  go_wp2_with (fail)
  go_quiet (first | (go_at_call 43; exact calm_first (abs_nonneg 18 _ (by omega) (by omega))) | (go_at_call 44; exact calm_first (sign_pos 18 _ (by omega))))
  go_wp2_with (fail)
  rw [rounds_succ]
  go_wp2_with (fail)
  refine wp_loop_rounds 1 ?_
  rw [rounds_succ]
  go_wp2_with (fail)
  refine (abs_nonneg 18 _ (by omega) (by omega)).mono ?_
  rintro e w1 ⟨rfl, rfl⟩
  go_wp2
  refine bodyPost_ret (v := .tuple #[.int .i64 6, .int .i64 2, .int .i64 (-1), .int .i64 0]) (by simp [results, Try.results24, go_sem]) rfl ⟨rfl, ?_⟩
  refine below_drewN (Below.trans ?_ (hB.mono (by simp))) _
  go_grown

theorem div_ex (w : World) : Calls Try.prog 16 #[.int .i64 (-7), .int .i64 2] w fun e w' => e = .returned (.tuple #[.int .i64 (-4), .int .i64 0]) ∧ Below w.heap.size w w' :=
  (div_ok (-7) 2 w (by decide) (by decide) (by decide)).mono fun _ _ ⟨he, hb⟩ => ⟨by rw [he, show floorOf (-7) 2 = -4 from by decide], hb⟩
theorem mod_ex (w : World) : Calls Try.prog 18 #[.int .i64 (-7), .int .i64 2] w fun e w' => e = .returned (.tuple #[.int .i64 1, .int .i64 0]) ∧ Below w.heap.size w w' :=
  (mod_ok (-7) 2 w (by decide) (by decide) (by decide)).mono fun _ _ ⟨he, hb⟩ => ⟨by rw [he, show modOf (-7) 2 = 1 from by decide], hb⟩
theorem ceil_ex (w : World) : Calls Try.prog 20 #[.int .i64 (-7), .int .i64 2] w fun e w' => e = .returned (.tuple #[.int .i64 (-3), .int .i64 0]) ∧ Below w.heap.size w w' :=
  (ceil_ok (-7) 2 w (by decide) (by decide) (by decide)).mono fun _ _ ⟨he, hb⟩ => ⟨by rw [he, show ceilOf (-7) 2 = -3 from by decide], hb⟩
theorem sum_ex (b : Nat) (w : World) (hb : b < w.heap.size) (h0 : w.cell? ⟨b, 0, none⟩ = some (.int .i64 4611686018427387904)) (h1 : w.cell? ⟨b, 1, none⟩ = some (.int .i64 4611686018427387904)) (h2 : w.cell? ⟨b, 2, none⟩ = some (.int .i64 (-4611686018427387904))) :
    Calls Try.prog 32 #[.slice (some ⟨b, 0, none⟩) 3 3] w fun e w' => e = .returned (.tuple #[.int .i64 4611686018427387904, .int .i64 0]) ∧ Below w.heap.size w w' := by
  refine (sum_any b 0 3 [4611686018427387904, 4611686018427387904, -4611686018427387904] w hb (by simp) (fun i hi => ?_)).mono fun e w' ⟨h, h'⟩ => ⟨by rw [h]; rfl, h'⟩
  match i, hi with
  | 0, _ => simpa using h0
  | 1, _ => simpa using h1
  | 2, _ => simpa using h2

set_option maxHeartbeats 400000 in
theorem awake_any (w : World) : Calls Try.prog 9 #[] w fun e w' => e = .returned (.bool true) ∧ Below w.heap.size w w' := by
  go_enter Try.func9, Try.ntmps9
  go_wp2_with (fail)
  refine (div_ex _).mono ?_
  rintro e w1 ⟨rfl, b1⟩
  go_wp2_with (fail)
  refine (mod_ex _).mono ?_
  rintro e w2 ⟨rfl, b2⟩
  go_wp2_with (fail)
  refine (ceil_ex _).mono ?_
  rintro e w3 ⟨rfl, b3⟩
  go_wp2_with (fail)
  refine (bezout_12_18 _).mono ?_
  rintro e w4 ⟨rfl, b4⟩
  go_wp2_with (fail)
  refine (sum_ex w4.heap.size _ (by go_size) (by go_cell) (by go_cell) (by go_cell)).mono ?_
  rintro e w5 ⟨rfl, b5⟩
  go_wp2
  go_ret
  exact ⟨rfl, bt (bt (bt (bt (bt b1 b2) b3) b4) (by go_grown)) b5⟩

end Go.Proofs.Ytbpppeekfjfolaa.IntAwake
