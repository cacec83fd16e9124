/- Walks of the functions of intmath that divide: what each call returns. -/
import Derived.Test.YtbpppeekfjfolaaRows
import Derived.WalkKit
import Derived.WalkSpells
import Derived.WalkLawsBesides
import Derived.Handy
import Derived.Deep.QuietTactic
import Derived.BigQuiet
import Derived.Lib.Hide
import Derived.Test.YtbpppeekfjfolaaIntPlain
namespace Go.Proofs.Ytbpppeekfjfolaa.IntWalks
open Go.RowKit Go.Proofs.Ytbpppeekfjfolaa.IntPlain

theorem all_take (zs : List Int) (k : Nat) (h : k < zs.length) : (zs.take (k + 1)).all inR = ((zs.take k).all inR && inR (zs.getD k 0)) := by
  rw [List.take_succ_eq_append_getElem h, List.all_append]
  simp [List.getD, h]

theorem all_false (zs : List Int) (k : Nat) (h : k < zs.length) (hn : inR (zs.getD k 0) = false) : zs.all inR = false := by
  rw [List.all_eq_false]
  refine ⟨zs[k], List.getElem_mem h, ?_⟩
  have : zs.getD k 0 = zs[k] := by simp [List.getD, h]
  rw [← this, hn]
  simp

set_option maxHeartbeats 400000 in
theorem within_any (b off cap : Nat) (zs : List Int) (w : World) (hlen : zs.length ≤ 9223372036854775807) (hc : ∀ i, i < zs.length → w.cell? ⟨b, off + i, none⟩ = some (.int .i64 (zs.getD i 0))) :
    Calls Try.prog 38 #[.slice (some ⟨b, off, none⟩) zs.length cap] w fun e w' => e = .returned (.bool (zs.all inR)) ∧ w' = w := by
  go_enter Try.func38, Try.ntmps38
  go_wp2
  go_loop [7] (fun i => ∃ k : Nat, k ≤ zs.length ∧ i = .int .i64 k ∧ (zs.take k).all inR = true) (fun i => zs.length - (intOf i).toNat)
  case atStart => exact ⟨0, Nat.zero_le _, rfl, rfl⟩
  case round =>
    obtain ⟨k, hk, rfl, hall⟩ := hrel
    have HALL : Hid ((zs.take k).all inR = true) := Lib.hid hall
    clear hall
    by_cases hlt : k < zs.length
    · have hcell := hc k hlt
      have ht := all_take zs k hlt
      have hf := all_false zs k hlt
      clear hc
      generalize zs.getD k 0 = x at *
      rw [HALL.out, Bool.true_and] at ht
      have HT := Lib.hid ht
      have HF := Lib.hid hf
      clear ht hf
      by_cases h1 : x < -4611686018427387904
      · go_wp2
        go_ret
        exact ⟨by rw [HF.out (by unfold inR; simp; omega)]; rfl, rfl⟩
      · by_cases h2 : 4611686018427387904 < x
        · go_wp2
          go_ret
          exact ⟨by rw [HF.out (by unfold inR; simp; omega)]; rfl, rfl⟩
        · go_wp2
          go_round
          case rel => exact ⟨k + 1, by omega, by go_num, by rw [HT.out]; unfold inR; simp; omega⟩
          case measure => simp [intOf]; omega
    · obtain rfl : k = zs.length := by omega
      go_wp2
      go_ret
      have h1 := HALL.out
      rw [List.take_length] at h1
      exact ⟨by rw [h1]; rfl, rfl⟩

/-- 'within' of two numbers that lie in one block of the call's own. -/
theorem within_two (b : Nat) (x y : Int) (w : World) (h0 : w.cell? ⟨b, 0, none⟩ = some (.int .i64 x)) (h1 : w.cell? ⟨b, 1, none⟩ = some (.int .i64 y)) :
    Calls Try.prog 38 #[.slice (some ⟨b, 0, none⟩) 2 2] w fun e w' => e = .returned (.bool (inR x && inR y)) ∧ w = w' := by
  refine (within_any b 0 2 [x, y] w (by simp) (fun i hi => ?_)).mono fun e w' ⟨h, h'⟩ => ⟨by rw [h]; simp, h'.symm⟩
  match i, hi with
  | 0, _ => simpa using h0
  | 1, _ => simpa using h1

theorem sign_neg (n : Int) (w : World) (h : n < 0) : Calls Try.prog 44 #[.int .i64 n] w fun e w' => e = .returned (.int .i64 (-1)) ∧ w = w' := by
  go_enter Try.func44, Try.ntmps44
  go_wp2
  go_ret
  exact ⟨rfl, rfl⟩

theorem sign_pos (n : Int) (w : World) (h : 0 < n) : Calls Try.prog 44 #[.int .i64 n] w fun e w' => e = .returned (.int .i64 1) ∧ w = w' := by
  go_enter Try.func44, Try.ntmps44
  go_wp2
  go_ret
  exact ⟨rfl, rfl⟩

theorem sign_zero (n : Int) (w : World) (h1 : 0 ≤ n) (h2 : n ≤ 0) : Calls Try.prog 44 #[.int .i64 n] w fun e w' => e = .returned (.int .i64 0) ∧ w = w' := by
  go_enter Try.func44, Try.ntmps44
  go_wp2
  go_ret
  exact ⟨rfl, rfl⟩

/-- What a call of 'divide' comes to. -/
def Divided (a b : Int) (w : World) (e : Ending) (w' : World) : Prop := e = .returned (.tuple #[.int .i64 (floorOf a b), .int .i64 (modOf a b), .int .i64 (ceilOf a b), .int .i64 0]) ∧ Below w.heap.size w w'

set_option maxHeartbeats 400000 in
theorem divide_pp (a b : Int) (w : World) (ha : inR a = true) (hbr : inR b = true) (hr : 0 < a.tmod b) (hb : 0 < b) :
    Calls Try.prog 42 #[.int .i64 a, .int .i64 b] w (Divided a b w) := by
  have ha' := (inR_iff a).1 ha
  have hb' := (inR_iff b).1 hbr
  have q := tdiv_range a b ha'.1 ha'.2
  have r := tmod_zero_range a b (by omega)
  have HA := Lib.hid ha
  have HB := Lib.hid hbr
  have hb0 : (b == 0) = false := by rw [beq_eq_false_iff_ne]; omega
  have HF : Hid (floorOf a b = a.tdiv b) := Lib.hid (by unfold floorOf; omega)
  have HM : Hid (modOf a b = a.tmod b) := Lib.hid (by unfold modOf; omega)
  have HC : Hid (ceilOf a b = a.tdiv b + 1) := Lib.hid (by unfold ceilOf; omega)
  clear ha hbr
  go_enter Try.func42, Try.ntmps42
  go_wp2_with (fail)
  refine (within_two _ a b _ (by go_cell) (by go_cell)).mono ?_
  rw [HA.out, HB.out]
  rintro e w' ⟨rfl, rfl⟩
  go_wp2_with (fail)
  go_quiet (fail)
  go_wp2_with (fail)
  refine (sign_pos _ _ hr).mono ?_
  rintro e w' ⟨rfl, rfl⟩
  go_wp2_with (fail)
  refine (sign_pos _ _ hb).mono ?_
  rintro e w' ⟨rfl, rfl⟩
  go_wp2
  refine bodyPost_ret (v := .tuple #[.int .i64 (a.tdiv b), .int .i64 (a.tmod b), .int .i64 (a.tdiv b + 1), .int .i64 0]) (by simp [results, Try.results42, go_sem]) rfl ⟨by rw [HF.out, HM.out, HC.out], ?_⟩
  exact below_drewN (by go_grown) _

set_option maxHeartbeats 400000 in
theorem divide_pn (a b : Int) (w : World) (ha : inR a = true) (hbr : inR b = true) (hr : 0 < a.tmod b) (hb : b < 0) :
    Calls Try.prog 42 #[.int .i64 a, .int .i64 b] w (Divided a b w) := by
  have ha' := (inR_iff a).1 ha
  have hb' := (inR_iff b).1 hbr
  have q := tdiv_range a b ha'.1 ha'.2
  have r := tmod_zero_range a b (by omega)
  have HA := Lib.hid ha
  have HB := Lib.hid hbr
  have hb0 : (b == 0) = false := by rw [beq_eq_false_iff_ne]; omega
  have HF : Hid (floorOf a b = a.tdiv b - 1) := Lib.hid (by unfold floorOf; omega)
  have HM : Hid (modOf a b = a.tmod b + b) := Lib.hid (by unfold modOf; omega)
  have HC : Hid (ceilOf a b = a.tdiv b) := Lib.hid (by unfold ceilOf; omega)
  clear ha hbr
  go_enter Try.func42, Try.ntmps42
  go_wp2_with (fail)
  refine (within_two _ a b _ (by go_cell) (by go_cell)).mono ?_
  rw [HA.out, HB.out]
  rintro e w' ⟨rfl, rfl⟩
  go_wp2_with (fail)
  go_quiet (fail)
  go_wp2_with (fail)
  refine (sign_pos _ _ hr).mono ?_
  rintro e w' ⟨rfl, rfl⟩
  go_wp2_with (fail)
  refine (sign_neg _ _ hb).mono ?_
  rintro e w' ⟨rfl, rfl⟩
  go_wp2
  refine bodyPost_ret (v := .tuple #[.int .i64 (a.tdiv b - 1), .int .i64 (a.tmod b + b), .int .i64 (a.tdiv b), .int .i64 0]) (by simp [results, Try.results42, go_sem]) rfl ⟨by rw [HF.out, HM.out, HC.out], ?_⟩
  exact below_drewN (by go_grown) _

set_option maxHeartbeats 400000 in
theorem divide_np (a b : Int) (w : World) (ha : inR a = true) (hbr : inR b = true) (hr : a.tmod b < 0) (hb : 0 < b) :
    Calls Try.prog 42 #[.int .i64 a, .int .i64 b] w (Divided a b w) := by
  have ha' := (inR_iff a).1 ha
  have hb' := (inR_iff b).1 hbr
  have q := tdiv_range a b ha'.1 ha'.2
  have r := tmod_zero_range a b (by omega)
  have HA := Lib.hid ha
  have HB := Lib.hid hbr
  have hb0 : (b == 0) = false := by rw [beq_eq_false_iff_ne]; omega
  have HF : Hid (floorOf a b = a.tdiv b - 1) := Lib.hid (by unfold floorOf; omega)
  have HM : Hid (modOf a b = a.tmod b + b) := Lib.hid (by unfold modOf; omega)
  have HC : Hid (ceilOf a b = a.tdiv b) := Lib.hid (by unfold ceilOf; omega)
  clear ha hbr
  go_enter Try.func42, Try.ntmps42
  go_wp2_with (fail)
  refine (within_two _ a b _ (by go_cell) (by go_cell)).mono ?_
  rw [HA.out, HB.out]
  rintro e w' ⟨rfl, rfl⟩
  go_wp2_with (fail)
  go_quiet (fail)
  go_wp2_with (fail)
  refine (sign_neg _ _ hr).mono ?_
  rintro e w' ⟨rfl, rfl⟩
  go_wp2_with (fail)
  refine (sign_pos _ _ hb).mono ?_
  rintro e w' ⟨rfl, rfl⟩
  go_wp2
  refine bodyPost_ret (v := .tuple #[.int .i64 (a.tdiv b - 1), .int .i64 (a.tmod b + b), .int .i64 (a.tdiv b), .int .i64 0]) (by simp [results, Try.results42, go_sem]) rfl ⟨by rw [HF.out, HM.out, HC.out], ?_⟩
  exact below_drewN (by go_grown) _

set_option maxHeartbeats 400000 in
theorem divide_nn (a b : Int) (w : World) (ha : inR a = true) (hbr : inR b = true) (hr : a.tmod b < 0) (hb : b < 0) :
    Calls Try.prog 42 #[.int .i64 a, .int .i64 b] w (Divided a b w) := by
  have ha' := (inR_iff a).1 ha
  have hb' := (inR_iff b).1 hbr
  have q := tdiv_range a b ha'.1 ha'.2
  have r := tmod_zero_range a b (by omega)
  have HA := Lib.hid ha
  have HB := Lib.hid hbr
  have hb0 : (b == 0) = false := by rw [beq_eq_false_iff_ne]; omega
  have HF : Hid (floorOf a b = a.tdiv b) := Lib.hid (by unfold floorOf; omega)
  have HM : Hid (modOf a b = a.tmod b) := Lib.hid (by unfold modOf; omega)
  have HC : Hid (ceilOf a b = a.tdiv b + 1) := Lib.hid (by unfold ceilOf; omega)
  clear ha hbr
  go_enter Try.func42, Try.ntmps42
  go_wp2_with (fail)
  refine (within_two _ a b _ (by go_cell) (by go_cell)).mono ?_
  rw [HA.out, HB.out]
  rintro e w' ⟨rfl, rfl⟩
  go_wp2_with (fail)
  go_quiet (fail)
  go_wp2_with (fail)
  refine (sign_neg _ _ hr).mono ?_
  rintro e w' ⟨rfl, rfl⟩
  go_wp2_with (fail)
  refine (sign_neg _ _ hb).mono ?_
  rintro e w' ⟨rfl, rfl⟩
  go_wp2
  refine bodyPost_ret (v := .tuple #[.int .i64 (a.tdiv b), .int .i64 (a.tmod b), .int .i64 (a.tdiv b + 1), .int .i64 0]) (by simp [results, Try.results42, go_sem]) rfl ⟨by rw [HF.out, HM.out, HC.out], ?_⟩
  exact below_drewN (by go_grown) _

set_option maxHeartbeats 400000 in
theorem divide_zp (a b : Int) (w : World) (ha : inR a = true) (hbr : inR b = true) (hr1 : 0 ≤ a.tmod b) (hr2 : a.tmod b ≤ 0) (hb : 0 < b) :
    Calls Try.prog 42 #[.int .i64 a, .int .i64 b] w (Divided a b w) := by
  have ha' := (inR_iff a).1 ha
  have hb' := (inR_iff b).1 hbr
  have q := tdiv_range a b ha'.1 ha'.2
  have r := tmod_zero_range a b (by omega)
  have HA := Lib.hid ha
  have HB := Lib.hid hbr
  have hb0 : (b == 0) = false := by rw [beq_eq_false_iff_ne]; omega
  have HF : Hid (floorOf a b = a.tdiv b) := Lib.hid (by unfold floorOf; omega)
  have HM : Hid (modOf a b = 0) := Lib.hid (by unfold modOf; omega)
  have HC : Hid (ceilOf a b = a.tdiv b) := Lib.hid (by unfold ceilOf; omega)
  clear ha hbr
  go_enter Try.func42, Try.ntmps42
  go_wp2_with (fail)
  refine (within_two _ a b _ (by go_cell) (by go_cell)).mono ?_
  rw [HA.out, HB.out]
  rintro e w' ⟨rfl, rfl⟩
  go_wp2_with (fail)
  go_quiet (fail)
  go_wp2_with (fail)
  refine (sign_zero _ _ hr1 hr2).mono ?_
  rintro e w' ⟨rfl, rfl⟩
  go_wp2_with (fail)
  refine (sign_pos _ _ hb).mono ?_
  rintro e w' ⟨rfl, rfl⟩
  go_wp2
  refine bodyPost_ret (v := .tuple #[.int .i64 (a.tdiv b), .int .i64 (0), .int .i64 (a.tdiv b), .int .i64 0]) (by simp [results, Try.results42, go_sem]) rfl ⟨by rw [HF.out, HM.out, HC.out], ?_⟩
  exact below_drewN (by go_grown) _

set_option maxHeartbeats 400000 in
theorem divide_zn (a b : Int) (w : World) (ha : inR a = true) (hbr : inR b = true) (hr1 : 0 ≤ a.tmod b) (hr2 : a.tmod b ≤ 0) (hb : b < 0) :
    Calls Try.prog 42 #[.int .i64 a, .int .i64 b] w (Divided a b w) := by
  have ha' := (inR_iff a).1 ha
  have hb' := (inR_iff b).1 hbr
  have q := tdiv_range a b ha'.1 ha'.2
  have r := tmod_zero_range a b (by omega)
  have HA := Lib.hid ha
  have HB := Lib.hid hbr
  have hb0 : (b == 0) = false := by rw [beq_eq_false_iff_ne]; omega
  have HF : Hid (floorOf a b = a.tdiv b) := Lib.hid (by unfold floorOf; omega)
  have HM : Hid (modOf a b = 0) := Lib.hid (by unfold modOf; omega)
  have HC : Hid (ceilOf a b = a.tdiv b) := Lib.hid (by unfold ceilOf; omega)
  clear ha hbr
  go_enter Try.func42, Try.ntmps42
  go_wp2_with (fail)
  refine (within_two _ a b _ (by go_cell) (by go_cell)).mono ?_
  rw [HA.out, HB.out]
  rintro e w' ⟨rfl, rfl⟩
  go_wp2_with (fail)
  go_quiet (fail)
  go_wp2_with (fail)
  refine (sign_zero _ _ hr1 hr2).mono ?_
  rintro e w' ⟨rfl, rfl⟩
  go_wp2_with (fail)
  refine (sign_neg _ _ hb).mono ?_
  rintro e w' ⟨rfl, rfl⟩
  go_wp2
  refine bodyPost_ret (v := .tuple #[.int .i64 (a.tdiv b), .int .i64 (0), .int .i64 (a.tdiv b), .int .i64 0]) (by simp [results, Try.results42, go_sem]) rfl ⟨by rw [HF.out, HM.out, HC.out], ?_⟩
  exact below_drewN (by go_grown) _

theorem divide_ok (a b : Int) (w : World) (ha : inR a = true) (hbr : inR b = true) (hb : b ≠ 0) :
    Calls Try.prog 42 #[.int .i64 a, .int .i64 b] w (Divided a b w) := by
  by_cases h1 : 0 < b
  · by_cases h2 : 0 < a.tmod b
    · exact divide_pp a b w ha hbr h2 h1
    · by_cases h3 : a.tmod b < 0
      · exact divide_np a b w ha hbr h3 h1
      · exact divide_zp a b w ha hbr (by omega) (by omega) h1
  · by_cases h2 : 0 < a.tmod b
    · exact divide_pn a b w ha hbr h2 (by omega)
    · by_cases h3 : a.tmod b < 0
      · exact divide_nn a b w ha hbr h3 (by omega)
      · exact divide_zn a b w ha hbr (by omega) (by omega) (by omega)

theorem abs_nonneg (n : Int) (w : World) (h : 0 ≤ n) (hm : n ≤ 9223372036854775807) : Calls Try.prog 43 #[.int .i64 n] w fun e w' => e = .returned (.int .i64 n) ∧ w = w' := by
  by_cases h0 : 0 < n
  · go_enter Try.func43, Try.ntmps43
    go_wp2_with (fail)
    refine (sign_pos _ _ h0).mono ?_
    rintro e w' ⟨rfl, rfl⟩
    go_wp2
    go_ret
    exact ⟨by simp, rfl⟩
  · obtain rfl : n = 0 := by omega
    go_enter Try.func43, Try.ntmps43
    go_wp2_with (fail)
    refine (sign_zero _ _ (by omega) (by omega)).mono ?_
    rintro e w' ⟨rfl, rfl⟩
    go_wp2
    go_ret
    exact ⟨rfl, rfl⟩

theorem abs_neg (n : Int) (w : World) (h : n < 0) (hm : -9223372036854775807 ≤ n) : Calls Try.prog 43 #[.int .i64 n] w fun e w' => e = .returned (.int .i64 (-n)) ∧ w = w' := by
  go_enter Try.func43, Try.ntmps43
  go_wp2_with (fail)
  refine (sign_neg _ _ h).mono ?_
  rintro e w' ⟨rfl, rfl⟩
  go_wp2
  go_ret
  exact ⟨by simp, rfl⟩

/-- A callee that leaves the world alone, met inside a region that draws: first draws, then further ones. -/
theorem calm_first {P : Program} {f : FuncId} {args : Array Value} {w : World} {n : Nat} {v : Value} (h : Calls P f args (w.drewN n) fun e w' => e = .returned v ∧ w.drewN n = w') :
    Calls P f args (w.drewN n) fun e w' => e = .returned v ∧ ∃ m, w' = w.drewN m := h.mono fun _ _ ⟨he, hw⟩ => ⟨he, n, hw.symm⟩
theorem calm_later {P : Program} {f : FuncId} {args : Array Value} {w : World} {k n : Nat} {v : Value} (h : Calls P f args (w.drewN (k + n)) fun e w' => e = .returned v ∧ w.drewN (k + n) = w') :
    Calls P f args (w.drewN (k + n)) fun e w' => e = .returned v ∧ ∃ m, w' = w.drewN (k + m) := h.mono fun _ _ ⟨he, hw⟩ => ⟨he, n, hw.symm⟩

/-- The calls that hand on one part of what 'divide' answers. -/
theorem div_ok (a b : Int) (w : World) (ha : inR a = true) (hbr : inR b = true) (hb : b ≠ 0) :
    Calls Try.prog 16 #[.int .i64 a, .int .i64 b] w fun e w' => e = .returned (.tuple #[.int .i64 (floorOf a b), .int .i64 0]) ∧ Below w.heap.size w w' := by
  have HD := Lib.hid (divide_ok a b w ha hbr hb)
  clear ha hbr hb
  go_enter Try.func16, Try.ntmps16
  go_wp2_with (fail)
  refine HD.out.mono ?_
  rintro e w' ⟨rfl, hB⟩
  go_wp2
  go_ret2
  exact ⟨rfl, hB⟩

theorem mod_ok (a b : Int) (w : World) (ha : inR a = true) (hbr : inR b = true) (hb : b ≠ 0) :
    Calls Try.prog 18 #[.int .i64 a, .int .i64 b] w fun e w' => e = .returned (.tuple #[.int .i64 (modOf a b), .int .i64 0]) ∧ Below w.heap.size w w' := by
  have HD := Lib.hid (divide_ok a b w ha hbr hb)
  clear ha hbr hb
  go_enter Try.func18, Try.ntmps18
  go_wp2_with (fail)
  refine HD.out.mono ?_
  rintro e w' ⟨rfl, hB⟩
  go_wp2
  go_ret2
  exact ⟨rfl, hB⟩

theorem ceil_ok (a b : Int) (w : World) (ha : inR a = true) (hbr : inR b = true) (hb : b ≠ 0) :
    Calls Try.prog 20 #[.int .i64 a, .int .i64 b] w fun e w' => e = .returned (.tuple #[.int .i64 (ceilOf a b), .int .i64 0]) ∧ Below w.heap.size w w' := by
  have HD := Lib.hid (divide_ok a b w ha hbr hb)
  clear ha hbr hb
  go_enter Try.func20, Try.ntmps20
  go_wp2_with (fail)
  refine HD.out.mono ?_
  rintro e w' ⟨rfl, hB⟩
  go_wp2
  go_ret2
  exact ⟨rfl, hB⟩

end Go.Proofs.Ytbpppeekfjfolaa.IntWalks
