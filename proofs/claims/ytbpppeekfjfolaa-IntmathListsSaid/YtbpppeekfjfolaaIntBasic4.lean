/- The law IntmathBasic, further: the functions of the program, and the walk. -/
import Derived.Test.YtbpppeekfjfolaaIntBasic3
namespace Go.Proofs.Ytbpppeekfjfolaa.IntBasic
set_option linter.unusedVariables false
open Go.RowKit Go.Proofs.Ytbpppeekfjfolaa.IntPlain Go.Proofs.Ytbpppeekfjfolaa.IntWalks Go.Proofs.Ytbpppeekfjfolaa.IntWide Go.Proofs.Ytbpppeekfjfolaa.IntTotal Go.Proofs.Ytbpppeekfjfolaa.IntNumber Go.Proofs.Ytbpppeekfjfolaa.IntSum Go.Proofs.Ytbpppeekfjfolaa.IntAwake Go.Proofs.Ytbpppeekfjfolaa.IntDivision

theorem refCeil_in (a b : Int) (ha : inR a = true) (hb : inR b = true) (hb0 : b ≠ 0) : Pair 21 a b (ceilOf a b) 0 := by
  intro w
  have ha' := (inR_iff a).1 ha
  have hb' := (inR_iff b).1 hb
  have hna : inR (-a) = true := (inR_iff (-a)).2 (by omega)
  have hfr := floor_range (-a) b hna
  have HD := Lib.hid (refDiv_in (-a) b hna hb hb0)
  have hcf := ceil_floor a b
  generalize floorOf (-a) b = d at *
  rw [hcf]
  clear ha hb hna hcf hb0
  obtain ⟨ha1, ha2⟩ := ha'
  obtain ⟨hb1, hb2⟩ := hb'
  obtain ⟨hd1, hd2⟩ := hfr
  go_enter Try.func21, Try.ntmps21
  go_wp2_with (go_at_call 36; refine (in_yes _ _ (by omega) (by omega)).mono ?_; rintro e w' ⟨rfl, rfl⟩)
  refine (HD.out _).mono ?_
  rintro e w' ⟨rfl, hB⟩
  go_wp2
  go_ret2
  exact ⟨rfl, hB⟩

theorem refCeil_zero (a : Int) (ha : inR a = true) : Pair 21 a 0 0 1 := by
  intro w
  have ha' := (inR_iff a).1 ha
  have hna : inR (-a) = true := (inR_iff (-a)).2 (by omega)
  have HD := Lib.hid (refDiv_zero (-a) hna)
  clear ha hna
  obtain ⟨ha1, ha2⟩ := ha'
  go_enter Try.func21, Try.ntmps21
  go_wp2_with (go_at_call 36; refine (in_yes _ _ (by omega) (by omega)).mono ?_; rintro e w' ⟨rfl, rfl⟩)
  refine (HD.out _).mono ?_
  rintro e w' ⟨rfl, hB⟩
  go_wp2
  go_ret2
  exact ⟨rfl, hB⟩

/-- What 'divide' does with numbers out of range, and with the divisor 0. -/
def Refused (n : Int) (w : World) (e : Ending) (w' : World) : Prop := e = .returned (.tuple #[.int .i64 0, .int .i64 0, .int .i64 0, .int .i64 n]) ∧ Below w.heap.size w w'

theorem divide_out (a b : Int) (w : World) (h : (inR a && inR b) = false) : Calls Try.prog 42 #[.int .i64 a, .int .i64 b] w (Refused 2 w) := by
  have HH := Lib.hid h
  clear h
  go_enter Try.func42, Try.ntmps42
  go_wp2_with (fail)
  refine (within_two _ a b _ (by go_cell) (by go_cell)).mono ?_
  rw [HH.out]
  rintro e w' ⟨rfl, rfl⟩
  go_wp2
  refine bodyPost_ret (v := .tuple #[.int .i64 0, .int .i64 0, .int .i64 0, .int .i64 2]) (by simp [results, Try.results42, go_sem]) rfl ⟨rfl, ?_⟩
  go_grown

theorem divide_zero (a : Int) (w : World) (h : inR a = true) : Calls Try.prog 42 #[.int .i64 a, .int .i64 0] w (Refused 1 w) := by
  have HH := Lib.hid h
  clear h
  go_enter Try.func42, Try.ntmps42
  go_wp2_with (fail)
  refine (within_two _ a 0 _ (by go_cell) (by go_cell)).mono ?_
  rw [HH.out, show inR 0 = true from by decide]
  rintro e w' ⟨rfl, rfl⟩
  go_wp2
  refine bodyPost_ret (v := .tuple #[.int .i64 0, .int .i64 0, .int .i64 0, .int .i64 1]) (by simp [results, Try.results42, go_sem]) rfl ⟨rfl, ?_⟩
  go_grown

theorem div_refused (a b n : Int) (h : ∀ w, Calls Try.prog 42 #[.int .i64 a, .int .i64 b] w (Refused n w)) : Pair 16 a b 0 n := by
  intro w
  have HD := Lib.hid h
  clear h
  go_enter Try.func16, Try.ntmps16
  go_wp2_with (fail)
  refine (HD.out _).mono ?_
  rintro e w' ⟨rfl, hB⟩
  go_wp2
  go_ret2
  exact ⟨rfl, hB⟩

theorem mod_refused (a b n : Int) (h : ∀ w, Calls Try.prog 42 #[.int .i64 a, .int .i64 b] w (Refused n w)) : Pair 18 a b 0 n := by
  intro w
  have HD := Lib.hid h
  clear h
  go_enter Try.func18, Try.ntmps18
  go_wp2_with (fail)
  refine (HD.out _).mono ?_
  rintro e w' ⟨rfl, hB⟩
  go_wp2
  go_ret2
  exact ⟨rfl, hB⟩

theorem ceil_refused (a b n : Int) (h : ∀ w, Calls Try.prog 42 #[.int .i64 a, .int .i64 b] w (Refused n w)) : Pair 20 a b 0 n := by
  intro w
  have HD := Lib.hid h
  clear h
  go_enter Try.func20, Try.ntmps20
  go_wp2_with (fail)
  refine (HD.out _).mono ?_
  rintro e w' ⟨rfl, hB⟩
  go_wp2
  go_ret2
  exact ⟨rfl, hB⟩

theorem sameDiv (a b : Int) : ∃ v e, Pair 16 a b v e ∧ Pair 17 a b v e := by
  cases hi : inR a && inR b
  · exact ⟨0, 2, div_refused a b 2 (fun w => divide_out a b w hi), refDiv_out a b hi⟩
  · obtain ⟨ha, hb⟩ := Bool.and_eq_true_iff.1 hi
    by_cases h0 : b = 0
    · subst h0
      exact ⟨0, 1, div_refused a 0 1 (fun w => divide_zero a w ha), refDiv_zero a ha⟩
    · exact ⟨_, 0, fun w => div_ok a b w ha hb h0, refDiv_in a b ha hb h0⟩

theorem sameMod (a b : Int) : ∃ v e, Pair 18 a b v e ∧ Pair 19 a b v e := by
  cases hi : inR a && inR b
  · exact ⟨0, 2, mod_refused a b 2 (fun w => divide_out a b w hi), refMod_out a b hi⟩
  · obtain ⟨ha, hb⟩ := Bool.and_eq_true_iff.1 hi
    by_cases h0 : b = 0
    · subst h0
      exact ⟨0, 1, mod_refused a 0 1 (fun w => divide_zero a w ha), refMod_zero a ha⟩
    · exact ⟨_, 0, fun w => mod_ok a b w ha hb h0, refMod_in a b ha hb h0⟩

theorem sameCeil (a b : Int) : ∃ v e, Pair 20 a b v e ∧ Pair 21 a b v e := by
  cases hi : inR a && inR b
  · exact ⟨0, 2, ceil_refused a b 2 (fun w => divide_out a b w hi), refCeil_out a b hi⟩
  · obtain ⟨ha, hb⟩ := Bool.and_eq_true_iff.1 hi
    by_cases h0 : b = 0
    · subst h0
      exact ⟨0, 1, ceil_refused a 0 1 (fun w => divide_zero a w ha), refCeil_zero a ha⟩
    · exact ⟨_, 0, fun w => ceil_ok a b w ha hb h0, refCeil_in a b ha hb h0⟩

theorem add_prog (a b : Int) : ∃ v e, Pair 10 a b v e ∧ outcome (inR a && inR b && inR (a + b)) (a + b) = .tuple #[.int .i64 v, .int .i64 e] := by
  have ho : ∃ v e : Int, outcome (inR a && inR b && inR (a + b)) (a + b) = .tuple #[.int .i64 v, .int .i64 e] := by
    cases inR a && inR b && inR (a + b) <;> exact ⟨_, _, rfl⟩
  obtain ⟨v, e, hve⟩ := ho
  refine ⟨v, e, fun w => ?_, hve⟩
  have es : ([a, b].all inR && inR [a, b].sum) = (inR a && inR b && inR (a + b)) := by simp
  have et : [a, b].sum = a + b := by simp
  have HT : Hid (∀ (bl : Nat) (w : World), bl < w.heap.size → w.cell? ⟨bl, 0, none⟩ = some (.int .i64 a) → w.cell? ⟨bl, 1, none⟩ = some (.int .i64 b) →
      Calls Try.prog 37 #[.slice (some ⟨bl, 0, none⟩) 2 2] w fun x w' => x = .returned (.tuple #[.int .i64 v, .int .i64 e]) ∧ Below w.heap.size w w') := Lib.hid fun bl w hb h0 h1 => by
    have h := total_any bl 0 2 [a, b] w hb (by simp) (fun i hi => by
      match i, hi with
      | 0, _ => simpa using h0
      | 1, _ => simpa using h1)
    rw [es, et, hve] at h
    exact h
  clear hve es et
  go_enter Try.func10, Try.ntmps10
  go_wp2_with (fail)
  refine (HT.out w.heap.size _ (by go_size) (by go_cell) (by go_cell)).mono ?_
  rintro x w' ⟨rfl, hB⟩
  go_wp2
  go_ret2
  exact ⟨rfl, bt (by go_grown) hB⟩

theorem sub_prog (a b : Int) : ∃ v e, Pair 12 a b v e ∧ outcome (inR a && inR b && inR (a - b)) (a - b) = .tuple #[.int .i64 v, .int .i64 e] := by
  cases hb : inR b
  · refine ⟨0, 2, fun w => ?_, by cases inR a <;> rfl⟩
    have HB := Lib.hid hb
    clear hb
    go_enter Try.func12, Try.ntmps12
    go_wp2_with (fail)
    refine (within_one _ b _ (by go_cell)).mono ?_
    rw [HB.out]
    rintro e w' ⟨rfl, rfl⟩
    go_wp2
    go_ret2
    exact ⟨rfl, by go_grown⟩
  · have hb' := (inR_iff b).1 hb
    have ho : ∃ v e : Int, outcome (inR a && true && inR (a - b)) (a - b) = .tuple #[.int .i64 v, .int .i64 e] := by
      cases inR a && true && inR (a - b) <;> exact ⟨_, _, rfl⟩
    obtain ⟨v, e, hve⟩ := ho
    refine ⟨v, e, fun w => ?_, hve⟩
    have hnb : inR (-b) = true := (inR_iff (-b)).2 (by omega)
    have et : [a, -b].sum = a - b := by simp; omega
    have es : ([a, -b].all inR && inR [a, -b].sum) = (inR a && true && inR (a - b)) := by rw [et]; simp [hnb]
    have HT : Hid (∀ (bl : Nat) (w : World), bl < w.heap.size → w.cell? ⟨bl, 0, none⟩ = some (.int .i64 a) → w.cell? ⟨bl, 1, none⟩ = some (.int .i64 (-b)) →
        Calls Try.prog 37 #[.slice (some ⟨bl, 0, none⟩) 2 2] w fun x w' => x = .returned (.tuple #[.int .i64 v, .int .i64 e]) ∧ Below w.heap.size w w') := Lib.hid fun bl w hb h0 h1 => by
      have h := total_any bl 0 2 [a, -b] w hb (by simp) (fun i hi => by
        match i, hi with
        | 0, _ => simpa using h0
        | 1, _ => simpa using h1)
      rw [es, et, hve] at h
      exact h
    have HB := Lib.hid hb
    obtain ⟨hb1, hb2⟩ := hb'
    clear hve es et hb hnb
    go_enter Try.func12, Try.ntmps12
    go_wp2_with (fail)
    refine (within_one _ b _ (by go_cell)).mono ?_
    rw [HB.out]
    rintro x w' ⟨rfl, rfl⟩
    go_wp2_with (fail)
    refine (HT.out (w.heap.size + 1) _ (by go_size) (by go_cell) (by go_cell)).mono ?_
    rintro x w' ⟨rfl, hB⟩
    go_wp2
    go_ret2
    exact ⟨rfl, bt (by go_grown) hB⟩

theorem mul_prog (a b : Int) : ∃ v e, Pair 14 a b v e ∧ outcome (inR a && inR b && inR (a * b)) (a * b) = .tuple #[.int .i64 v, .int .i64 e] := by
  cases hi : inR a && inR b
  · refine ⟨0, 2, fun w => ?_, rfl⟩
    have HH := Lib.hid hi
    clear hi
    go_enter Try.func14, Try.ntmps14
    go_wp2_with (fail)
    refine (within_two _ a b _ (by go_cell) (by go_cell)).mono ?_
    rw [HH.out]
    rintro e w' ⟨rfl, rfl⟩
    go_wp2
    go_ret2
    exact ⟨rfl, by go_grown⟩
  · obtain ⟨ha, hb⟩ := Bool.and_eq_true_iff.1 hi
    have HI := Lib.hid hi
    have hA : ∀ (w : World) (bl : Nat), bl < w.heap.size → w.cell? ⟨bl, 0, none⟩ = some (.int .u64 0) → w.cell? ⟨bl, 1, none⟩ = some (.int .u64 0) → w.cell? ⟨bl, 2, none⟩ = some (.int .u64 0) →
        w.frozen? ⟨bl, 0, none⟩ = false → w.frozen? ⟨bl, 1, none⟩ = false → w.frozen? ⟨bl, 2, none⟩ = false → 
        Calls Try.prog 39 #[.pointer (some ⟨bl, 0, none⟩), .int .i64 a, .int .i64 b] w (Added bl (0 + a * b) w) := fun w bl hl h0 h1 h2 f0 f1 f2 => add_any bl 0 0 0 0 w a b hl rep_zero ha hb h0 h1 h2 f0 f1 f2
    rw [Int.zero_add] at hA
    have hbd : -1569275433846670190958947355801916604025588861116008628224 ≤ a * b ∧ a * b ≤ 1569275433846670190958947355801916604025588861116008628224 := by
      have ha' := (inR_iff a).1 ha
      have hb' := (inR_iff b).1 hb
      have hm : a.natAbs * b.natAbs ≤ 4611686018427387904 * 4611686018427387904 := Nat.mul_le_mul (by omega) (by omega)
      have := Int.natAbs_mul a b
      omega
    have HADD := Lib.hid hA
    have HBD := Lib.hid hbd
    clear hA ha hb hi hbd
    cases hs : inR (a * b)
    · refine ⟨0, 2, fun w => ?_, rfl⟩
      have HS := Lib.hid hs
      clear hs
      go_enter Try.func14, Try.ntmps14
      go_wp2_with (fail)
      refine (within_two _ a b _ (by go_cell) (by go_cell)).mono ?_
      rw [HI.out]
      rintro e w' ⟨rfl, rfl⟩
      go_wp2_with (fail)
      refine (HADD.out _ (w.heap.size + 1) (by go_size) (by go_cell) (by go_cell) (by go_cell) (by go_cell) (by go_cell) (by go_cell)).mono ?_
      rintro e w1 ⟨rfl, x, y, z, hr, o, rfl⟩
      have HR := Lib.hid hr
      clear hr
      go_wp2_with (fail)
      refine (number_no _ x y z _ _ HR.out HS.out HBD.out.1 HBD.out.2 (by go_cell) (by go_cell) (by go_cell)).mono ?_
      rintro e w2 ⟨rfl, hB⟩
      go_wp2
      go_ret2
      exact ⟨rfl, bt (by go_grown) hB⟩
    · refine ⟨a * b, 0, fun w => ?_, rfl⟩
      have HS := Lib.hid hs
      clear hs
      go_enter Try.func14, Try.ntmps14
      go_wp2_with (fail)
      refine (within_two _ a b _ (by go_cell) (by go_cell)).mono ?_
      rw [HI.out]
      rintro e w' ⟨rfl, rfl⟩
      go_wp2_with (fail)
      refine (HADD.out _ (w.heap.size + 1) (by go_size) (by go_cell) (by go_cell) (by go_cell) (by go_cell) (by go_cell) (by go_cell)).mono ?_
      rintro e w1 ⟨rfl, x, y, z, hr, o, rfl⟩
      have HR := Lib.hid hr
      clear hr
      go_wp2_with (fail)
      refine (number_ok _ x y z _ _ HR.out HS.out (by go_cell) (by go_cell) (by go_cell)).mono ?_
      rintro e w2 ⟨rfl, hB⟩
      go_wp2
      go_ret2
      exact ⟨rfl, bt (by go_grown) hB⟩

theorem sameAdd (a b : Int) : ∃ v e, Pair 10 a b v e ∧ Pair 11 a b v e ∧ outcome (inR a && inR b && inR (a + b)) (a + b) = .tuple #[.int .i64 v, .int .i64 e] := by
  obtain ⟨v, e, h1, h2⟩ := add_prog a b
  obtain ⟨v', e', h3, h4⟩ := refAdd_any a b
  rw [h2] at h4
  obtain ⟨rfl, rfl⟩ : v = v' ∧ e = e' := by simpa using h4
  exact ⟨v, e, h1, h3, h2⟩

theorem sameSub (a b : Int) : ∃ v e, Pair 12 a b v e ∧ Pair 13 a b v e ∧ outcome (inR a && inR b && inR (a - b)) (a - b) = .tuple #[.int .i64 v, .int .i64 e] := by
  obtain ⟨v, e, h1, h2⟩ := sub_prog a b
  obtain ⟨v', e', h3, h4⟩ := refSub_any a b
  rw [h2] at h4
  obtain ⟨rfl, rfl⟩ : v = v' ∧ e = e' := by simpa using h4
  exact ⟨v, e, h1, h3, h2⟩

theorem sameMul (a b : Int) : ∃ v e, Pair 14 a b v e ∧ Pair 15 a b v e ∧ outcome (inR a && inR b && inR (a * b)) (a * b) = .tuple #[.int .i64 v, .int .i64 e] := by
  obtain ⟨v, e, h1, h2⟩ := mul_prog a b
  obtain ⟨v', e', h3, h4⟩ := refMul_any a b
  rw [h2] at h4
  obtain ⟨rfl, rfl⟩ : v = v' ∧ e = e' := by simpa using h4
  exact ⟨v, e, h1, h3, h2⟩

set_option maxHeartbeats 1000000 in
theorem walk (a b : Int) (w : World) :
    Calls Try.prog 3 #[.int .i64 a, .int .i64 b] w fun e w' => e = .returned (.bool true) ∧ Below w.heap.size w w' := by
  obtain ⟨v0, e0, p0, r0, _⟩ := sameAdd a b
  obtain ⟨v1, e1, p1, r1, _⟩ := sameSub a b
  obtain ⟨v2, e2, p2, r2, _⟩ := sameMul a b
  obtain ⟨v3, e3, p3, r3⟩ := sameDiv a b
  obtain ⟨v4, e4, p4, r4⟩ := sameMod a b
  obtain ⟨v5, e5, p5, r5⟩ := sameCeil a b
  have P0 := Lib.hid p0
  have R0 := Lib.hid r0
  clear p0 r0
  have P1 := Lib.hid p1
  have R1 := Lib.hid r1
  clear p1 r1
  have P2 := Lib.hid p2
  have R2 := Lib.hid r2
  clear p2 r2
  have P3 := Lib.hid p3
  have R3 := Lib.hid r3
  clear p3 r3
  have P4 := Lib.hid p4
  have R4 := Lib.hid r4
  clear p4 r4
  have P5 := Lib.hid p5
  have R5 := Lib.hid r5
  clear p5 r5
  go_enter Try.func3, Try.ntmps3
  go_wp2_with (fail)
  refine (awake_any _).mono ?_
  rintro e w0 ⟨rfl, b0⟩
  go_wp2_with (fail)
  refine (P0.out _).mono ?_
  rintro e u0 ⟨rfl, c0⟩
  go_wp2_with (fail)
  refine (R0.out _).mono ?_
  rintro e z0 ⟨rfl, d0⟩
  go_wp2_with (fail)
  refine (P1.out _).mono ?_
  rintro e u1 ⟨rfl, c1⟩
  go_wp2_with (fail)
  refine (R1.out _).mono ?_
  rintro e z1 ⟨rfl, d1⟩
  go_wp2_with (fail)
  refine (P2.out _).mono ?_
  rintro e u2 ⟨rfl, c2⟩
  go_wp2_with (fail)
  refine (R2.out _).mono ?_
  rintro e z2 ⟨rfl, d2⟩
  go_wp2_with (fail)
  refine (P3.out _).mono ?_
  rintro e u3 ⟨rfl, c3⟩
  go_wp2_with (fail)
  refine (R3.out _).mono ?_
  rintro e z3 ⟨rfl, d3⟩
  go_wp2_with (fail)
  refine (P4.out _).mono ?_
  rintro e u4 ⟨rfl, c4⟩
  go_wp2_with (fail)
  refine (R4.out _).mono ?_
  rintro e z4 ⟨rfl, d4⟩
  go_wp2_with (fail)
  refine (P5.out _).mono ?_
  rintro e u5 ⟨rfl, c5⟩
  go_wp2_with (fail)
  refine (R5.out _).mono ?_
  rintro e z5 ⟨rfl, d5⟩
  go_wp2
  go_ret
  exact ⟨by simp, bt (bt (bt (bt (bt (bt (bt (bt (bt (bt (bt (bt b0 c0) d0) c1) d1) c2) d2) c3) d3) c4) d4) c5) d5⟩

end Go.Proofs.Ytbpppeekfjfolaa.IntBasic
