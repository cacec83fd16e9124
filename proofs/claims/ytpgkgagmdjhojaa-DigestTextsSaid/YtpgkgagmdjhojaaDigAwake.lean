/- What 'awake' of the statements about digest comes to; the law DigestPowers. -/
import Derived.Test.YtpgkgagmdjhojaaDigSeal
namespace Go.Proofs.Ytpgkgagmdjhojaa.DigAwake
set_option linter.unusedVariables false
open Go.RowKit Go.Proofs.Ytpgkgagmdjhojaa.DigMul Go.Proofs.Ytpgkgagmdjhojaa.DigExt Go.Proofs.Ytpgkgagmdjhojaa.DigPrint Go.Proofs.Ytpgkgagmdjhojaa.DigParse Go.Proofs.Ytpgkgagmdjhojaa.DigSeal

theorem of_ex (b : Nat) (w : World) (hb : b < w.heap.size) (h0 : w.cell? ⟨b, 0, none⟩ = some (.int .u8 0)) (h1 : w.cell? ⟨b, 1, none⟩ = some (.int .u8 1)) :
    Calls Try.prog 15 #[.slice (some ⟨b, 0, none⟩) 2 2] w fun e w' => e = .returned (.int .i64 1000005) ∧ Below w.heap.size w w' := by
  have hl : Lies w .u8 w.heap.size (some ⟨b, 0, none⟩) [0, 1] := fun _ => ⟨⟨b, 0, none⟩, rfl, hb, fun i hi => by
    match i, hi with
    | 0, _ => exact h0
    | 1, _ => exact h1⟩
  exact (of_any (some ⟨b, 0, none⟩) 2 [0, 1] w hl (by intro n hn; simp at hn; omega) (by decide)).mono fun _ _ ⟨he, hB⟩ => ⟨by rw [he]; rfl, hB⟩

theorem power_ex (w : World) : Calls Try.prog 22 #[.int .i64 2] w fun e w' => e = .returned (.tuple #[.int .i64 1000006000009, .int .i64 0]) ∧ Below w.heap.size w w' :=
  (powerCall_any 2 w (by decide)).mono fun _ _ ⟨he, hB⟩ => ⟨by rw [he]; rfl, hB⟩

theorem seal_ex (w : World) : Calls Try.prog 18 #[.slice none 0 0] w fun e w' => ∃ A c, e = .returned (.slice A 8 c) ∧ Below w.heap.size w w' :=
  (seal_any none 0 [] w (fun h => by simp at h) (fun _ h => by cases h) (by decide) (fun _ => rfl)).mono fun _ _ ⟨v, he, hown, hB⟩ => by
    obtain ⟨A, c, rfl, _⟩ := own_lies hown
    exact ⟨A, c, he, hB⟩

set_option maxHeartbeats 1000000 in
theorem awake_any (w : World) : Calls Try.prog 10 #[] w fun e w' => e = .returned (.bool true) ∧ Below w.heap.size w w' := by
  go_enter Try.func10, Try.ntmps10
  go_wp2_with (fail)
  refine (of_ex w.heap.size _ (by go_size) (by go_cell) (by go_cell)).mono ?_
  rintro e w1 ⟨rfl, b1⟩
  go_wp2_with (fail)
  refine (print_ex _).mono ?_
  rintro e w2 ⟨rfl, b2⟩
  go_wp2_with (fail)
  refine (parse_ex _).mono ?_
  rintro e w3 ⟨rfl, b3⟩
  go_wp2_with (fail)
  refine (power_ex _).mono ?_
  rintro e w4 ⟨rfl, b4⟩
  go_wp2_with (fail)
  refine (seal_ex _).mono ?_
  rintro e w5 ⟨A, c, rfl, b5⟩
  go_wp2
  go_ret
  exact ⟨by first | rfl | simp, bt (bt (bt (bt (bt (by go_grown) b1) b2) b3) b4) b5⟩

theorem pow_mul (m n : Nat) : (pow m * pow n + 0) % 2305843009213693951 = pow (m + n) := by
  unfold pow
  rw [Int.add_zero, ← Int.mul_emod, Int.pow_add]

theorem inverse_pow : ∀ n : Nat, ((1000003 : Int) ^ n * 1229363429801019168 ^ n) % 2305843009213693951 = 1
  | 0 => by decide
  | n + 1 => by
    have ih := inverse_pow n
    have e : (1000003 : Int) ^ (n + 1) * 1229363429801019168 ^ (n + 1) = (1000003 ^ n * 1229363429801019168 ^ n) * (1000003 * 1229363429801019168) := by
      rw [Int.pow_succ, Int.pow_succ]; grind
    rw [e, Int.mul_emod, ih]
    decide

theorem pow_pos (n : Nat) : 0 < pow n := by
  have h := pow_range n
  have hne : pow n ≠ 0 := by
    intro h0
    have h1 := inverse_pow n
    unfold pow at h0
    rw [Int.mul_emod, h0, Int.zero_mul] at h1
    cases h1
  omega

theorem join_zero (a : Int) (n : Nat) (w : World) (ha : isD a = true) (hn : n ≤ 9223372036854775807) :
    Calls Try.prog 20 #[.int .i64 a, .int .i64 0, .int .i64 n] w fun e w' => e = .returned (.tuple #[.int .i64 ((a * pow n + 0) % 2305843009213693951), .int .i64 0]) ∧ Below w.heap.size w w' := join_ok a 0 n w ha (by decide) hn

set_option maxHeartbeats 1000000 in
theorem powers_out (m n : Int) (w : World) (h : m < 0 ∨ (0 ≤ m ∧ n < 0) ∨ (0 ≤ m ∧ 0 ≤ n ∧ 1099511627776 < m) ∨ (0 ≤ m ∧ 0 ≤ n ∧ m ≤ 1099511627776 ∧ 1099511627776 < n)) :
    Calls Try.prog 8 #[.int .i64 m, .int .i64 n] w fun e w' => e = .returned (.bool true) ∧ Below w.heap.size w w' := by
  rcases h with h | ⟨h1, h2⟩ | ⟨h1, h2, h3⟩ | ⟨h1, h2, h3, h4⟩
  all_goals
    go_enter Try.func8, Try.ntmps8
    go_wp2_with (fail)
    refine (awake_any _).mono ?_
    rintro e w1 ⟨rfl, b1⟩
    go_wp2
    go_ret
    exact ⟨rfl, b1⟩

set_option maxHeartbeats 1000000 in
theorem powers_in (m n p q : Int) (w : World) (hm1 : 0 ≤ m) (hm2 : m ≤ 1099511627776) (hn1 : 0 ≤ n) (hn2 : n ≤ 1099511627776) (hp : 0 < p)
    (HP : Hid (∀ w, Calls Try.prog 22 #[.int .i64 m] w fun e w' => e = .returned (.tuple #[.int .i64 p, .int .i64 0]) ∧ Below w.heap.size w w'))
    (HQ : Hid (∀ w, Calls Try.prog 22 #[.int .i64 (m + n)] w fun e w' => e = .returned (.tuple #[.int .i64 q, .int .i64 0]) ∧ Below w.heap.size w w'))
    (HJ : Hid (∀ w, Calls Try.prog 20 #[.int .i64 p, .int .i64 0, .int .i64 n] w fun e w' => e = .returned (.tuple #[.int .i64 q, .int .i64 0]) ∧ Below w.heap.size w w')) :
    Calls Try.prog 8 #[.int .i64 m, .int .i64 n] w fun e w' => e = .returned (.bool true) ∧ Below w.heap.size w w' := by
  go_enter Try.func8, Try.ntmps8
  go_wp2_with (fail)
  refine (awake_any _).mono ?_
  rintro e w1 ⟨rfl, b1⟩
  go_wp2_with (fail)
  refine (HP.out _).mono ?_
  rintro e w2 ⟨rfl, b2⟩
  go_wp2_with (fail)
  refine (HQ.out _).mono ?_
  rintro e w3 ⟨rfl, b3⟩
  go_wp2_with (fail)
  refine (HJ.out _).mono ?_
  rintro e w4 ⟨rfl, b4⟩
  go_wp2
  go_ret
  exact ⟨by first | rfl | simp, bt (bt (bt b1 b2) b3) b4⟩

theorem powers_walk (m n : Int) (w : World) :
    Calls Try.prog 8 #[.int .i64 m, .int .i64 n] w fun e w' => e = .returned (.bool true) ∧ Below w.heap.size w w' := by
  by_cases h : 0 ≤ m ∧ 0 ≤ n ∧ m ≤ 1099511627776 ∧ n ≤ 1099511627776
  · obtain ⟨h1, h2, h3, h4⟩ := h
    obtain ⟨a, rfl⟩ : ∃ a : Nat, m = a := ⟨m.toNat, by omega⟩
    obtain ⟨b, rfl⟩ : ∃ b : Nat, n = b := ⟨n.toNat, by omega⟩
    refine powers_in a b (pow a) (pow (a + b)) w h1 h3 h2 h4 (pow_pos a) (Lib.hid fun w => powerCall_any a w (by omega)) (Lib.hid fun w => ?_) (Lib.hid fun w => ?_)
    · rw [← Int.natCast_add]; exact powerCall_any (a + b) w (by omega)
    · rw [← pow_mul]; exact join_zero (pow a) b w ((isD_iff _).2 (pow_range a)) (by omega)
  · exact powers_out m n w (by omega)

end Go.Proofs.Ytpgkgagmdjhojaa.DigAwake
