/- Reading a long number of intmath. -/
import Derived.Test.YtbpppeekfjfolaaIntTotal
namespace Go.Proofs.Ytbpppeekfjfolaa.IntNumber
set_option linter.unusedVariables false
open Go.RowKit Go.Proofs.Ytbpppeekfjfolaa.IntPlain Go.Proofs.Ytbpppeekfjfolaa.IntWalks Go.Proofs.Ytbpppeekfjfolaa.IntWide Go.Proofs.Ytbpppeekfjfolaa.IntTotal

/-- 'within' of one number that lies in a block of the call's own. -/
theorem within_one (b : Nat) (x : Int) (w : World) (h0 : w.cell? ⟨b, 0, none⟩ = some (.int .i64 x)) :
    Calls Try.prog 38 #[.slice (some ⟨b, 0, none⟩) 1 1] w fun e w' => e = .returned (.bool (inR x)) ∧ w = w' := by
  refine (within_any b 0 1 [x] w (by simp) (fun i hi => ?_)).mono fun e w' ⟨h, h'⟩ => ⟨by rw [h]; simp, h'.symm⟩
  match i, hi with
  | 0, _ => simpa using h0

set_option maxHeartbeats 400000 in
theorem small_in (b : Nat) (x : Nat) (w : World) (hx : x ≤ 9223372036854775807) (HN : Hid (inR x = true)) 
    (h0 : w.cell? ⟨b, 0, none⟩ = some (.int .u64 x)) (h1 : w.cell? ⟨b, 1, none⟩ = some (.int .u64 0)) (h2 : w.cell? ⟨b, 2, none⟩ = some (.int .u64 0)) :
    Calls Try.prog 40 #[.pointer (some ⟨b, 0, none⟩)] w fun e w' => e = .returned (.tuple #[.int .i64 x, .int .i64 0]) ∧ Below w.heap.size w w' := by
  go_enter Try.func40, Try.ntmps40
  go_wp2_with (fail)
  refine (within_one _ x _ (by go_cell)).mono ?_
  rw [HN.out]
  rintro e w' ⟨rfl, rfl⟩
  go_wp2
  go_ret2
  exact ⟨rfl, by go_grown⟩

set_option maxHeartbeats 400000 in
theorem small_out (b : Nat) (x : Nat) (w : World) (hx : x ≤ 9223372036854775807) (HN : Hid (inR x = false)) 
    (h0 : w.cell? ⟨b, 0, none⟩ = some (.int .u64 x)) (h1 : w.cell? ⟨b, 1, none⟩ = some (.int .u64 0)) (h2 : w.cell? ⟨b, 2, none⟩ = some (.int .u64 0)) :
    Calls Try.prog 40 #[.pointer (some ⟨b, 0, none⟩)] w fun e w' => e = .returned (.tuple #[.int .i64 0, .int .i64 2]) ∧ Below w.heap.size w w' := by
  go_enter Try.func40, Try.ntmps40
  go_wp2_with (fail)
  refine (within_one _ x _ (by go_cell)).mono ?_
  rw [HN.out]
  rintro e w' ⟨rfl, rfl⟩
  go_wp2
  go_ret2
  exact ⟨rfl, by go_grown⟩

set_option maxHeartbeats 400000 in
theorem neg_in (b : Nat) (x : Nat) (n : Int) (w : World) (hw : wrap64 (x : Int) = n) (hn1 : -9223372036854775808 ≤ n) (hn2 : n < 0) (hq : n / 9223372036854775808 = -1) (HN : Hid (inR n = true)) 
    (h0 : w.cell? ⟨b, 0, none⟩ = some (.int .u64 x)) (h1 : w.cell? ⟨b, 1, none⟩ = some (.int .u64 18446744073709551615)) (h2 : w.cell? ⟨b, 2, none⟩ = some (.int .u64 18446744073709551615)) :
    Calls Try.prog 40 #[.pointer (some ⟨b, 0, none⟩)] w fun e w' => e = .returned (.tuple #[.int .i64 n, .int .i64 0]) ∧ Below w.heap.size w w' := by
  go_enter Try.func40, Try.ntmps40
  go_wp2_with (fail)
  refine (within_one _ n _ (by go_cell)).mono ?_
  rw [HN.out]
  rintro e w' ⟨rfl, rfl⟩
  go_wp2
  go_ret2
  exact ⟨rfl, by go_grown⟩

set_option maxHeartbeats 400000 in
theorem neg_out (b : Nat) (x : Nat) (n : Int) (w : World) (hw : wrap64 (x : Int) = n) (hn1 : -9223372036854775808 ≤ n) (hn2 : n < 0) (hq : n / 9223372036854775808 = -1) (HN : Hid (inR n = false)) 
    (h0 : w.cell? ⟨b, 0, none⟩ = some (.int .u64 x)) (h1 : w.cell? ⟨b, 1, none⟩ = some (.int .u64 18446744073709551615)) (h2 : w.cell? ⟨b, 2, none⟩ = some (.int .u64 18446744073709551615)) :
    Calls Try.prog 40 #[.pointer (some ⟨b, 0, none⟩)] w fun e w' => e = .returned (.tuple #[.int .i64 0, .int .i64 2]) ∧ Below w.heap.size w w' := by
  go_enter Try.func40, Try.ntmps40
  go_wp2_with (fail)
  refine (within_one _ n _ (by go_cell)).mono ?_
  rw [HN.out]
  rintro e w' ⟨rfl, rfl⟩
  go_wp2
  go_ret2
  exact ⟨rfl, by go_grown⟩

set_option maxHeartbeats 400000 in
theorem small_mid (b : Nat) (x : Nat) (w : World) (hx : x ≤ 9223372036854775807) (y z : Nat) (hy : 1 ≤ y) 
    (h0 : w.cell? ⟨b, 0, none⟩ = some (.int .u64 x)) (h1 : w.cell? ⟨b, 1, none⟩ = some (.int .u64 y)) (h2 : w.cell? ⟨b, 2, none⟩ = some (.int .u64 z)) :
    Calls Try.prog 40 #[.pointer (some ⟨b, 0, none⟩)] w fun e w' => e = .returned (.tuple #[.int .i64 0, .int .i64 2]) ∧ Below w.heap.size w w' := by
  go_enter Try.func40, Try.ntmps40
  go_wp2
  go_ret2
  exact ⟨rfl, by go_grown⟩

set_option maxHeartbeats 400000 in
theorem small_top (b : Nat) (x : Nat) (w : World) (hx : x ≤ 9223372036854775807) (z : Nat) (hz : 1 ≤ z) 
    (h0 : w.cell? ⟨b, 0, none⟩ = some (.int .u64 x)) (h1 : w.cell? ⟨b, 1, none⟩ = some (.int .u64 0)) (h2 : w.cell? ⟨b, 2, none⟩ = some (.int .u64 z)) :
    Calls Try.prog 40 #[.pointer (some ⟨b, 0, none⟩)] w fun e w' => e = .returned (.tuple #[.int .i64 0, .int .i64 2]) ∧ Below w.heap.size w w' := by
  go_enter Try.func40, Try.ntmps40
  go_wp2
  go_ret2
  exact ⟨rfl, by go_grown⟩

set_option maxHeartbeats 400000 in
theorem neg_mid (b : Nat) (x : Nat) (n : Int) (w : World) (hw : wrap64 (x : Int) = n) (hn1 : -9223372036854775808 ≤ n) (hn2 : n < 0) (hq : n / 9223372036854775808 = -1) (y z : Nat) (hy : y < 18446744073709551615) 
    (h0 : w.cell? ⟨b, 0, none⟩ = some (.int .u64 x)) (h1 : w.cell? ⟨b, 1, none⟩ = some (.int .u64 y)) (h2 : w.cell? ⟨b, 2, none⟩ = some (.int .u64 z)) :
    Calls Try.prog 40 #[.pointer (some ⟨b, 0, none⟩)] w fun e w' => e = .returned (.tuple #[.int .i64 0, .int .i64 2]) ∧ Below w.heap.size w w' := by
  have hb1 : ((y : Int) == IntKind.u64.wrap (-1)) = false := by rw [beq_eq_false_iff_ne, show IntKind.u64.wrap (-1) = 18446744073709551615 from by decide]; omega
  have hb2 : ((y : Int) != IntKind.u64.wrap (-1)) = true := by rw [bne_iff_ne, show IntKind.u64.wrap (-1) = 18446744073709551615 from by decide]; omega
  go_enter Try.func40, Try.ntmps40
  go_wp2
  go_ret2
  exact ⟨rfl, by go_grown⟩

set_option maxHeartbeats 400000 in
theorem neg_top (b : Nat) (x : Nat) (n : Int) (w : World) (hw : wrap64 (x : Int) = n) (hn1 : -9223372036854775808 ≤ n) (hn2 : n < 0) (hq : n / 9223372036854775808 = -1) (z : Nat) (hz : z < 18446744073709551615) 
    (h0 : w.cell? ⟨b, 0, none⟩ = some (.int .u64 x)) (h1 : w.cell? ⟨b, 1, none⟩ = some (.int .u64 18446744073709551615)) (h2 : w.cell? ⟨b, 2, none⟩ = some (.int .u64 z)) :
    Calls Try.prog 40 #[.pointer (some ⟨b, 0, none⟩)] w fun e w' => e = .returned (.tuple #[.int .i64 0, .int .i64 2]) ∧ Below w.heap.size w w' := by
  have hb1 : ((z : Int) == IntKind.u64.wrap (-1)) = false := by rw [beq_eq_false_iff_ne, show IntKind.u64.wrap (-1) = 18446744073709551615 from by decide]; omega
  have hb2 : ((z : Int) != IntKind.u64.wrap (-1)) = true := by rw [bne_iff_ne, show IntKind.u64.wrap (-1) = 18446744073709551615 from by decide]; omega
  go_enter Try.func40, Try.ntmps40
  go_wp2
  go_ret2
  exact ⟨rfl, by go_grown⟩

/-- What the three words are where the integer that they stand for is small. -/
theorem rep_nonneg (x y z : Nat) (S : Int) (h : Rep x y z S) (h1 : 0 ≤ S) (h2 : S ≤ 9223372036854775807) : (x : Int) = S ∧ y = 0 ∧ z = 0 := by
  obtain ⟨hx, hy, hz, K, hK⟩ := h
  unfold Word at hx hy hz
  have k0 : K = 0 := by omega
  subst k0
  omega
theorem rep_negative (x y z : Nat) (S : Int) (h : Rep x y z S) (h1 : S < 0) (h2 : -9223372036854775808 ≤ S) : (x : Int) = S + 18446744073709551616 ∧ y = 18446744073709551615 ∧ z = 18446744073709551615 := by
  obtain ⟨hx, hy, hz, K, hK⟩ := h
  unfold Word at hx hy hz
  have k0 : K = 1 := by omega
  subst k0
  omega

theorem number_ok (b : Nat) (x y z : Nat) (S : Int) (w : World) (hr : Rep x y z S) (hs : inR S = true) (h0 : w.cell? ⟨b, 0, none⟩ = some (.int .u64 x)) (h1 : w.cell? ⟨b, 1, none⟩ = some (.int .u64 y)) (h2 : w.cell? ⟨b, 2, none⟩ = some (.int .u64 z)) :
    Calls Try.prog 40 #[.pointer (some ⟨b, 0, none⟩)] w fun e w' => e = .returned (.tuple #[.int .i64 S, .int .i64 0]) ∧ Below w.heap.size w w' := by
  have hs' := (inR_iff S).1 hs
  by_cases hn : 0 ≤ S
  · obtain ⟨rfl, rfl, rfl⟩ := rep_nonneg x y z S hr hn (by omega)
    exact small_in b x w (by omega) (Lib.hid hs) h0 h1 h2
  · obtain ⟨hx, rfl, rfl⟩ := rep_negative x y z S hr (by omega) (by omega)
    exact neg_in b x S w (by unfold wrap64; omega) (by omega) (by omega) (by omega) (Lib.hid hs) h0 h1 h2

theorem number_no (b : Nat) (x y z : Nat) (S : Int) (w : World) (hr : Rep x y z S) (hs : inR S = false) (hb1 : -1569275433846670190958947355801916604025588861116008628224 ≤ S) (hb2 : S ≤ 1569275433846670190958947355801916604025588861116008628224)
    (h0 : w.cell? ⟨b, 0, none⟩ = some (.int .u64 x)) (h1 : w.cell? ⟨b, 1, none⟩ = some (.int .u64 y)) (h2 : w.cell? ⟨b, 2, none⟩ = some (.int .u64 z)) :
    Calls Try.prog 40 #[.pointer (some ⟨b, 0, none⟩)] w fun e w' => e = .returned (.tuple #[.int .i64 0, .int .i64 2]) ∧ Below w.heap.size w w' := by
  have hs' : ¬ (-4611686018427387904 ≤ S ∧ S ≤ 4611686018427387904) := fun h => by rw [(inR_iff S).2 h] at hs; cases hs
  obtain ⟨hx, hy, hz, K, hK⟩ := hr
  unfold Word at hx hy hz
  by_cases hsm : x ≤ 9223372036854775807
  · by_cases hy0 : 1 ≤ y
    · exact small_mid b x w hsm y z hy0 h0 h1 h2
    · obtain rfl : y = 0 := by omega
      by_cases hz0 : 1 ≤ z
      · exact small_top b x w hsm z hz0 h0 h1 h2
      · obtain rfl : z = 0 := by omega
        have k0 : K = 0 := by omega
        subst k0
        obtain rfl : S = x := by omega
        exact small_out b x w hsm (Lib.hid hs) h0 h1 h2
  · have e1 : wrap64 (x : Int) = (x : Int) - 18446744073709551616 := by unfold wrap64; omega
    by_cases hy0 : y < 18446744073709551615
    · exact neg_mid b x _ w e1 (by omega) (by omega) (by omega) y z hy0 h0 h1 h2
    · obtain rfl : y = 18446744073709551615 := by omega
      by_cases hz0 : z < 18446744073709551615
      · exact neg_top b x _ w e1 (by omega) (by omega) (by omega) z hz0 h0 h1 h2
      · obtain rfl : z = 18446744073709551615 := by omega
        have k0 : K = 1 := by omega
        subst k0
        obtain rfl : S = (x : Int) - 18446744073709551616 := by omega
        exact neg_out b x _ w e1 (by omega) (by omega) (by omega) (Lib.hid hs) h0 h1 h2

end Go.Proofs.Ytbpppeekfjfolaa.IntNumber
