/- The encoding of an integer: the walks of 'rest', 'count', 'appendInt' and 'Int'. -/
import Derived.Test.YtcibkgmochikmaaWireBase
namespace Go.Proofs.Ytcibkgmochikmaa.WireInt
set_option linter.unusedVariables false
open Go.RowKit Go.Proofs.Ytcibkgmochikmaa.WireBase

/-- How far an integer lies outside of the single bytes. -/
def mag (n : Int) : Int := if 119 < n then n - 120 else if n < -120 then -121 - n else 0
def isOne (n : Int) : Bool := decide (-120 ≤ n) && decide (n ≤ 119)
def isI (n : Int) : Prop := -9223372036854775808 ≤ n ∧ n ≤ 9223372036854775807

theorem rest_any (n : Int) (w : World) (h : isI n) :
    Calls Try.prog 38 #[.int .i64 n] w fun e w' => e = .returned (.tuple #[.int .u64 (mag n), .bool (decide (n < -120)), .bool (isOne n)]) ∧ w = w' := by
  obtain ⟨h1, h2⟩ := h
  by_cases c1 : 119 < n
  · have e1 : mag n = n - 119 - 1 := by unfold mag; rw [if_pos c1]; omega
    have e2 : decide (n < -120) = false := decide_eq_false (by omega)
    have e3 : isOne n = false := by unfold isOne; rw [decide_eq_false (show ¬ n ≤ 119 by omega)]; simp
    rw [e1, e2, e3]
    clear e1 e2 e3
    go_enter Try.func38, Try.ntmps38
    go_wp2
    refine bodyPost_ret (v := .tuple #[.int .u64 (n - 119 - 1), .bool false, .bool false]) (by simp [results, Try.results38, go_sem]) rfl ⟨rfl, rfl⟩
  · by_cases c2 : n < -120
    · have e1 : mag n = -121 - n := by unfold mag; rw [if_neg c1, if_pos c2]
      have e3 : isOne n = false := by unfold isOne; rw [decide_eq_false (show ¬ -120 ≤ n by omega)]; simp
      rw [e1, decide_eq_true c2, e3]
      clear e1 e3
      go_enter Try.func38, Try.ntmps38
      go_wp2
      refine bodyPost_ret (v := .tuple #[.int .u64 (-121 - n), .bool true, .bool false]) (by simp [results, Try.results38, go_sem]) rfl ⟨rfl, rfl⟩
    · have e1 : mag n = 0 := by unfold mag; rw [if_neg c1, if_neg c2]
      have e3 : isOne n = true := by unfold isOne; rw [decide_eq_true (show n ≤ 119 by omega), decide_eq_true (show -120 ≤ n by omega)]; rfl
      rw [e1, decide_eq_false c2, e3]
      clear e1 e3
      go_enter Try.func38, Try.ntmps38
      go_wp2
      refine bodyPost_ret (v := .tuple #[.int .u64 0, .bool false, .bool true]) (by simp [results, Try.results38, go_sem]) rfl ⟨rfl, rfl⟩

/-- How many bytes a number has; none for 0. -/
def len (r : Int) : Int := if r < 1 then 0 else if r < 256 then 1 else if r < 65536 then 2 else if r < 16777216 then 3 else if r < 4294967296 then 4 else if r < 1099511627776 then 5 else if r < 281474976710656 then 6 else if r < 72057594037927936 then 7 else 8

theorem len_step (r : Int) (h1 : 0 < r) (h2 : r < 18446744073709551616) : len r = 1 + len (r / 256) := by
  unfold len
  by_cases c1 : r < 256
  · rw [if_neg (by omega), if_pos c1, if_pos (by omega)]; rfl
  by_cases c2 : r < 65536
  · rw [if_neg (by omega), if_neg c1, if_pos c2, if_neg (by omega), if_pos (by omega)]; rfl
  by_cases c3 : r < 16777216
  · rw [if_neg (by omega), if_neg c1, if_neg c2, if_pos c3, if_neg (by omega), if_neg (by omega), if_pos (by omega)]; rfl
  by_cases c4 : r < 4294967296
  · rw [if_neg (by omega), if_neg c1, if_neg c2, if_neg c3, if_pos c4, if_neg (by omega), if_neg (by omega), if_neg (by omega), if_pos (by omega)]; rfl
  by_cases c5 : r < 1099511627776
  · rw [if_neg (by omega), if_neg c1, if_neg c2, if_neg c3, if_neg c4, if_pos c5, if_neg (by omega), if_neg (by omega), if_neg (by omega), if_neg (by omega), if_pos (by omega)]; rfl
  by_cases c6 : r < 281474976710656
  · rw [if_neg (by omega), if_neg c1, if_neg c2, if_neg c3, if_neg c4, if_neg c5, if_pos c6, if_neg (by omega), if_neg (by omega), if_neg (by omega), if_neg (by omega), if_neg (by omega), if_pos (by omega)]; rfl
  by_cases c7 : r < 72057594037927936
  · rw [if_neg (by omega), if_neg c1, if_neg c2, if_neg c3, if_neg c4, if_neg c5, if_neg c6, if_pos c7, if_neg (by omega), if_neg (by omega), if_neg (by omega), if_neg (by omega), if_neg (by omega), if_neg (by omega), if_pos (by omega)]; rfl
  · rw [if_neg (by omega), if_neg c1, if_neg c2, if_neg c3, if_neg c4, if_neg c5, if_neg c6, if_neg c7, if_neg (by omega), if_neg (by omega), if_neg (by omega), if_neg (by omega), if_neg (by omega), if_neg (by omega), if_neg (by omega), if_pos (by omega)]; rfl

theorem len_range (r : Int) : 0 ≤ len r ∧ len r ≤ 8 := by
  unfold len
  repeat' split
  all_goals omega

/-- How many bytes a rest takes. -/
def cnt (m : Int) : Int := 1 + len (m / 256)

theorem cnt_range (m : Int) (h1 : 0 ≤ m) (h2 : m < 18446744073709551616) : 1 ≤ cnt m ∧ cnt m ≤ 8 := by
  have r := len_range (m / 256)
  have : len (m / 256) ≤ 7 := by
    by_cases h : 0 < m
    · have := len_step m h h2
      have := (len_range m).2
      omega
    · have : m / 256 = 0 := by omega
      rw [this]; decide
  unfold cnt
  omega

set_option maxHeartbeats 1000000 in
theorem count_any (m : Int) (w : World) (h1 : 0 ≤ m) (h2 : m < 18446744073709551616) :
    Calls Try.prog 39 #[.int .u64 m] w fun e w' => e = .returned (.int .i64 (cnt m)) ∧ w = w' := by
  have HC : Hid (cnt m = 1 + len (m / 256)) := Lib.hid rfl
  generalize cnt m = c at *
  go_enter Try.func39, Try.ntmps39
  go_wp2_with (fail)
  go_loopw [0, 3] (fun s0 s3 wr => ∃ (r k : Int), s0 = .int .u64 r ∧ s3 = .int .i64 k ∧ 0 ≤ r ∧ r < 18446744073709551616 ∧ 0 ≤ k ∧ Hid (k + len r = c) ∧ k ≤ 9 ∧ wr = w) (fun s0 _ _ => (intOf s0).toNat)
  case atStart =>
    refine ⟨_, _, rfl, rfl, by omega, by omega, by decide, Lib.hid ?_, by decide, rfl⟩
    exact HC.out.symm
  case round =>
    obtain ⟨r, k, rfl, rfl, r1, r2, k1, HK, k2, rfl⟩ := hrel
    by_cases hr : 0 < r
    · have hl := len_step r hr r2
      have hl2 := len_range (r / 256)
      have hk9 : k + 1 ≤ 9 := by
        have := HK.out
        have := HC.out
        have := (len_range (m / 256)).2
        omega
      have HN : Hid (k + 1 + len (r / 256) = c) := Lib.hid (by have := HK.out; omega)
      clear hl hl2 HK HC
      go_wp2
      go_roundw
      case rel => exact ⟨_, _, rfl, rfl, by omega, by omega, by omega, HN, hk9, trivial⟩
      case measure => simp [intOf]; omega
    · obtain rfl : r = 0 := by omega
      have hk : k = c := by have := HK.out; have e : len 0 = 0 := by decide
                            omega
      subst hk
      go_wp2
      go_ret
      exact ⟨rfl, rfl⟩

end Go.Proofs.Ytcibkgmochikmaa.WireInt
