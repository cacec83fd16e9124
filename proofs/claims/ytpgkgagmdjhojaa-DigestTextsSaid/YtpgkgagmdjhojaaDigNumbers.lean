/- The law DigestNumbers. -/
import Derived.Test.YtpgkgagmdjhojaaDigRef
import Derived.Test.YtpgkgagmdjhojaaDigText
import Derived.Test.YtpgkgagmdjhojaaDigAwake
namespace Go.Proofs.Ytpgkgagmdjhojaa.DigNumbers
set_option linter.unusedVariables false
open Go.RowKit Go.Proofs.Ytpgkgagmdjhojaa.DigMul Go.Proofs.Ytpgkgagmdjhojaa.DigExt Go.Proofs.Ytpgkgagmdjhojaa.DigParts Go.Proofs.Ytpgkgagmdjhojaa.DigAwake Go.Proofs.Ytpgkgagmdjhojaa.DigRef Go.Proofs.Ytpgkgagmdjhojaa.DigText

/-- A call that returns two values wherever it stands. -/
def Twice (f : FuncId) (args : Array Value) (v : Value) (n : Int) : Prop := ∀ w, Calls Try.prog f args w fun e w' => e = .returned (.tuple #[v, .int .i64 n]) ∧ Below w.heap.size w w'

theorem join_bad (a b n : Int) (h : isD a = false ∨ (isD a = true ∧ isD b = false) ∨ (isD a = true ∧ isD b = true ∧ n < 0)) : Twice 20 #[.int .i64 a, .int .i64 b, .int .i64 n] (.int .i64 0) 2 := by
  intro w
  have VA : Hid (∀ w, Calls Try.prog 28 #[.int .i64 a] w fun e w' => e = .returned (.bool (isD a)) ∧ w = w') := Lib.hid fun w => valid_any a w
  have VB : Hid (∀ w, Calls Try.prog 28 #[.int .i64 b] w fun e w' => e = .returned (.bool (isD b)) ∧ w = w') := Lib.hid fun w => valid_any b w
  rcases h with h | ⟨h1, h⟩ | ⟨h1, h2, h⟩
  · rw [h] at VA
    go_enter Try.func20, Try.ntmps20
    go_wp2_with (fail)
    refine (VA.out _).mono ?_
    rintro e w' ⟨rfl, rfl⟩
    go_wp2
    go_ret2
    exact ⟨rfl, Below.refl _ _⟩
  · rw [h1] at VA
    rw [h] at VB
    go_enter Try.func20, Try.ntmps20
    go_wp2_with (fail)
    refine (VA.out _).mono ?_
    rintro e w' ⟨rfl, rfl⟩
    go_wp2_with (fail)
    refine (VB.out _).mono ?_
    rintro e w' ⟨rfl, rfl⟩
    go_wp2
    go_ret2
    exact ⟨rfl, Below.refl _ _⟩
  · rw [h1] at VA
    rw [h2] at VB
    go_enter Try.func20, Try.ntmps20
    go_wp2_with (fail)
    refine (VA.out _).mono ?_
    rintro e w' ⟨rfl, rfl⟩
    go_wp2_with (fail)
    refine (VB.out _).mono ?_
    rintro e w' ⟨rfl, rfl⟩
    go_wp2
    go_ret2
    exact ⟨rfl, Below.refl _ _⟩

theorem refJoin_bad (a b n : Int) (h : a < 0 ∨ (0 ≤ a ∧ 2305843009213693951 ≤ a) ∨ (0 ≤ a ∧ a < 2305843009213693951 ∧ b < 0) ∨ (0 ≤ a ∧ a < 2305843009213693951 ∧ 0 ≤ b ∧ 2305843009213693951 ≤ b) ∨ (0 ≤ a ∧ a < 2305843009213693951 ∧ 0 ≤ b ∧ b < 2305843009213693951 ∧ n < 0)) : Twice 21 #[.int .i64 a, .int .i64 b, .int .i64 n] (.int .i64 0) 2 := by
  intro w
  rcases h with h | ⟨h1, h⟩ | ⟨h1, h2, h⟩ | ⟨h1, h2, h3, h⟩ | ⟨h1, h2, h3, h4, h⟩
  all_goals
    go_enter Try.func21, Try.ntmps21
    go_wp2
    go_ret2
    exact ⟨rfl, Below.refl _ _⟩

set_option maxHeartbeats 1000000 in
theorem refJoin_good (a b : Int) (n : Nat) (ha : isD a = true) (hb : isD b = true) (hn : (n : Int) ≤ 9223372036854775807) : Twice 21 #[.int .i64 a, .int .i64 b, .int .i64 n] (.int .i64 ((a * pow n + b) % 2305843009213693951)) 0 := by
  intro w
  obtain ⟨a1, a2⟩ := (isD_iff a).1 ha
  obtain ⟨b1, b2⟩ := (isD_iff b).1 hb
  have HP := Lib.hid (refPower_in n · hn)
  have hr := pow_range n
  have HM := Lib.hid (mul_any a (pow n) · ⟨a1, a2⟩ hr)
  have HE : Hid ((a * pow n % 2305843009213693951 + b) % 2305843009213693951 = (a * pow n + b) % 2305843009213693951) := Lib.hid (by rw [Int.emod_add_emod])
  have r1 := Int.emod_nonneg (a * pow n) (b := 2305843009213693951) (by decide)
  have r2 := Int.emod_lt_of_pos (a * pow n) (b := 2305843009213693951) (by decide)
  obtain ⟨v, hv⟩ : ∃ v, v = (a * pow n + b) % 2305843009213693951 := ⟨_, rfl⟩
  rw [← hv] at HE ⊢
  have hn0 : (0 : Int) ≤ (n : Int) := by omega
  clear ha hb hr hv
  generalize a * pow n % 2305843009213693951 = m at *
  generalize pow n = p at *
  go_enter Try.func21, Try.ntmps21
  go_wp2_with (fail)
  refine (HP.out _).mono ?_
  rintro e w' ⟨rfl, rfl⟩
  go_wp2_with (fail)
  refine (HM.out _).mono ?_
  rintro e w' ⟨rfl, rfl⟩
  go_wp2
  go_ret2
  exact ⟨by rw [← HE.out]; rfl, Below.refl _ _⟩

theorem power_bad (n : Int) (h : n < 0) : Twice 22 #[.int .i64 n] (.int .i64 0) 2 ∧ Twice 23 #[.int .i64 n] (.int .i64 0) 2 := by
  constructor
  · intro w
    go_enter Try.func22, Try.ntmps22
    go_wp2
    go_ret2
    exact ⟨rfl, Below.refl _ _⟩
  · intro w
    go_enter Try.func23, Try.ntmps23
    go_wp2
    go_ret2
    exact ⟨rfl, Below.refl _ _⟩

theorem joins (a b n : Int) (hn : n ≤ 9223372036854775807) : ∃ x e, Twice 20 #[.int .i64 a, .int .i64 b, .int .i64 n] (.int .i64 x) e ∧ Twice 21 #[.int .i64 a, .int .i64 b, .int .i64 n] (.int .i64 x) e := by
  cases ha : isD a
  · have h' : ¬ (0 ≤ a ∧ a < 2305843009213693951) := fun h => by rw [(isD_iff a).2 h] at ha; cases ha
    exact ⟨0, 2, join_bad a b n (Or.inl ha), refJoin_bad a b n (by omega)⟩
  · have a' := (isD_iff a).1 ha
    cases hb : isD b
    · have h' : ¬ (0 ≤ b ∧ b < 2305843009213693951) := fun h => by rw [(isD_iff b).2 h] at hb; cases hb
      exact ⟨0, 2, join_bad a b n (Or.inr (Or.inl ⟨ha, hb⟩)), refJoin_bad a b n (by omega)⟩
    · have b' := (isD_iff b).1 hb
      by_cases h0 : n < 0
      · exact ⟨0, 2, join_bad a b n (Or.inr (Or.inr ⟨ha, hb, h0⟩)), refJoin_bad a b n (by omega)⟩
      · obtain ⟨m, rfl⟩ : ∃ m : Nat, n = m := ⟨n.toNat, by omega⟩
        exact ⟨_, 0, fun w => join_ok a b m w ha hb (by omega), refJoin_good a b m ha hb hn⟩

theorem powers (n : Int) (hn : n ≤ 9223372036854775807) : ∃ x e, Twice 22 #[.int .i64 n] (.int .i64 x) e ∧ Twice 23 #[.int .i64 n] (.int .i64 x) e := by
  by_cases h0 : n < 0
  · exact ⟨0, 2, power_bad n h0⟩
  · obtain ⟨m, rfl⟩ : ∃ m : Nat, n = m := ⟨n.toNat, by omega⟩
    exact ⟨_, 0, fun w => powerCall_any m w (by omega), fun w => (refPower_in m w hn).mono fun e w' h => ⟨h.1, h.2 ▸ Below.refl _ _⟩⟩

theorem prints (d : Int) : ∃ t e, Twice 24 #[.int .i64 d] (.string t) e ∧ Twice 25 #[.int .i64 d] (.string t) e := by
  by_cases h : 0 ≤ d ∧ d < 2305843009213693951
  · exact ⟨_, 0, fun w => print_in d w h.1 h.2, fun w => refPrint_in d w h.1 h.2⟩
  · exact ⟨_, 2, fun w => print_out d w (by omega), fun w => refPrint_out d w (by omega)⟩

set_option maxHeartbeats 1000000 in
theorem numbers_main (a b n x e' p g i : Int) (t : ByteArray) (w : World) (J1 : Hid (Twice 20 #[.int .i64 a, .int .i64 b, .int .i64 n] (.int .i64 x) e')) (J2 : Hid (Twice 21 #[.int .i64 a, .int .i64 b, .int .i64 n] (.int .i64 x) e'))
    (P1 : Hid (Twice 22 #[.int .i64 n] (.int .i64 p) g)) (P2 : Hid (Twice 23 #[.int .i64 n] (.int .i64 p) g)) (S1 : Hid (Twice 24 #[.int .i64 a] (.string t) i)) (S2 : Hid (Twice 25 #[.int .i64 a] (.string t) i)) :
    Calls Try.prog 4 #[.int .i64 a, .int .i64 b, .int .i64 n] w fun e w' => e = .returned (.bool true) ∧ Below w.heap.size w w' := by
  go_enter Try.func4, Try.ntmps4
  go_wp2_with (fail)
  refine (awake_any _).mono ?_
  rintro e w1 ⟨rfl, b⟩
  have B1 := Lib.hid b
  clear b
  go_wp2_with (fail)
  refine (J1.out _).mono ?_
  rintro e w2 ⟨rfl, b⟩
  have B2 := Lib.hid (bt B1.out b)
  clear b
  go_wp2_with (fail)
  refine (J2.out _).mono ?_
  rintro e w3 ⟨rfl, b⟩
  have B3 := Lib.hid (bt B2.out b)
  clear b
  go_wp2_with (fail)
  refine (P1.out _).mono ?_
  rintro e w4 ⟨rfl, b⟩
  have B4 := Lib.hid (bt B3.out b)
  clear b
  go_wp2_with (fail)
  refine (P2.out _).mono ?_
  rintro e w5 ⟨rfl, b⟩
  have B5 := Lib.hid (bt B4.out b)
  clear b
  go_wp2_with (fail)
  refine (S1.out _).mono ?_
  rintro e w6 ⟨rfl, b⟩
  have B6 := Lib.hid (bt B5.out b)
  clear b
  go_wp2_with (fail)
  refine (S2.out _).mono ?_
  rintro e w7 ⟨rfl, b⟩
  have B7 := Lib.hid (bt B6.out b)
  clear b
  go_wp2
  go_ret
  exact ⟨by first | rfl | simp, B7.out⟩

theorem walk (w : World) (a : Int) (ha : (Lit.int .i64 a).wf = true) (b : Int) (hb : (Lit.int .i64 b).wf = true) (n : Int) (hn : (Lit.int .i64 n).wf = true) :
    Calls Try.prog 4 #[.int .i64 a, .int .i64 b, .int .i64 n] w fun e w' => e = .returned (.bool true) ∧ Below w.heap.size w w' := by
  have hn' : n ≤ 9223372036854775807 := by
    have : -9223372036854775808 ≤ n ∧ n ≤ 9223372036854775807 := by simpa [Lit.wf, IntKind.min, IntKind.max, IntKind.signed, IntKind.bits] using hn
    exact this.2
  obtain ⟨x, e', J1, J2⟩ := joins a b n hn'
  obtain ⟨p, g, P1, P2⟩ := powers n hn'
  obtain ⟨t, i, S1, S2⟩ := prints a
  exact numbers_main a b n x e' p g i t w (Lib.hid J1) (Lib.hid J2) (Lib.hid P1) (Lib.hid P2) (Lib.hid S1) (Lib.hid S2)

end Go.Proofs.Ytpgkgagmdjhojaa.DigNumbers
