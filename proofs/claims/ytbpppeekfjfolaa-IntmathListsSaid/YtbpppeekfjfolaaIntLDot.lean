/- The program's sum of products of two lists, and the other calls on a list without numbers. -/
import Derived.Test.YtbpppeekfjfolaaIntLcm
import Derived.Test.YtbpppeekfjfolaaIntDigits
namespace Go.Proofs.Ytbpppeekfjfolaa.IntLDot
set_option linter.unusedVariables false
open Go.RowKit Go.Proofs.Ytbpppeekfjfolaa.IntPlain Go.Proofs.Ytbpppeekfjfolaa.IntWalks Go.Proofs.Ytbpppeekfjfolaa.IntWide Go.Proofs.Ytbpppeekfjfolaa.IntTotal Go.Proofs.Ytbpppeekfjfolaa.IntNumber Go.Proofs.Ytbpppeekfjfolaa.IntSum Go.Proofs.Ytbpppeekfjfolaa.IntAwake Go.Proofs.Ytbpppeekfjfolaa.IntDivision Go.Proofs.Ytbpppeekfjfolaa.IntBasic Go.Proofs.Ytbpppeekfjfolaa.IntGcd Go.Proofs.Ytbpppeekfjfolaa.IntLcm Go.Proofs.Ytbpppeekfjfolaa.IntDigits

theorem dot_bound (xs ys : List Int) (hx : xs.all inR = true) (hy : ys.all inR = true) (k : Nat) : -(21267647932558653966460912964485513216 * (k : Int)) ≤ dotTo xs ys k ∧ dotTo xs ys k ≤ 21267647932558653966460912964485513216 * (k : Int) := by
  have hr : ∀ (zs : List Int), zs.all inR = true → ∀ i, (zs.getD i 0).natAbs ≤ 4611686018427387904 := fun zs h i => by
    by_cases hi : i < zs.length
    · have h1 := List.all_eq_true.1 h (zs[i]) (List.getElem_mem hi)
      have h2 := (inR_iff _).1 h1
      have : zs.getD i 0 = zs[i] := by simp [List.getD, hi]
      omega
    · have : zs.getD i 0 = 0 := by simp [List.getD, Nat.le_of_not_lt hi]
      omega
  induction k with
  | zero => simp [dotTo]
  | succ k ih =>
    have h : (xs.getD k 0 * ys.getD k 0).natAbs ≤ 4611686018427387904 * 4611686018427387904 := by
      rw [Int.natAbs_mul]
      exact Nat.mul_le_mul (hr xs hx k) (hr ys hy k)
    simp only [dotTo]
    omega

theorem in_of_all {zs : List Int} (h : zs.all inR = true) {k : Nat} (hk : k < zs.length) : inR (zs.getD k 0) = true := by
  have := List.all_eq_true.1 h (zs[k]) (List.getElem_mem hk)
  simpa [List.getD, hk] using this

set_option maxHeartbeats 400000 in
theorem dot_in (ba oa ca bb ob cb n : Nat) (xs ys : List Int) (w : World) (ha : ba < w.heap.size) (hb : bb < w.heap.size) (hxl : xs.length = n) (hyl : ys.length = n) (hn : n ≤ 10000)
    (hx : ∀ i, i < n → w.cell? ⟨ba, oa + i, none⟩ = some (.int .i64 (xs.getD i 0))) (hy : ∀ i, i < n → w.cell? ⟨bb, ob + i, none⟩ = some (.int .i64 (ys.getD i 0))) (hxa : xs.all inR = true) (hya : ys.all inR = true) :
    Calls Try.prog 34 #[.slice (some ⟨ba, oa, none⟩) n ca, .slice (some ⟨bb, ob, none⟩) n cb] w fun e w' => e = .returned (outcome (inR (dotTo xs ys n)) (dotTo xs ys n)) ∧ Below w.heap.size w w' := by
  have HX := Lib.hid hx
  have HY := Lib.hid hy
  have HXA := Lib.hid hxa
  have HYA := Lib.hid hya
  have HXL := Lib.hid hxl
  have HYL := Lib.hid hyl
  have WX : Hid (∀ w2 : World, w2 = w → Calls Try.prog 38 #[.slice (some ⟨ba, oa, none⟩) n ca] w2 fun e w' => e = .returned (.bool true) ∧ w2 = w') := Lib.hid fun w2 e => by
    subst e
    have := within_all ba oa ca xs w2 (by omega) (by rw [hxl]; exact hx)
    rw [hxl, hxa] at this
    exact this
  have WY : Hid (∀ w2 : World, w2 = w → Calls Try.prog 38 #[.slice (some ⟨bb, ob, none⟩) n cb] w2 fun e w' => e = .returned (.bool true) ∧ w2 = w') := Lib.hid fun w2 e => by
    subst e
    have := within_all bb ob cb ys w2 (by omega) (by rw [hyl]; exact hy)
    rw [hyl, hya] at this
    exact this
  clear hx hy hxa hya hxl hyl
  go_enter Try.func34, Try.ntmps34
  go_wp2_with (fail)
  refine (WX.out _ rfl).mono ?_
  rintro e w' ⟨rfl, rfl⟩
  go_wp2_with (fail)
  refine (WY.out _ rfl).mono ?_
  rintro e w' ⟨rfl, rfl⟩
  clear WX WY
  go_wp2_with (fail)
  go_loopw [30] (fun i wr => ∃ k x y z : Nat, k ≤ n ∧ i = .int .i64 k ∧ Holds w.heap.size (dotTo xs ys k) x y z w wr) (fun i _ => n - (intOf i).toNat)
  case atStart =>
    refine ⟨0, 0, 0, 0, Nat.zero_le _, rfl, rep_zero, ?_, ?_, ?_, ?_, ?_, ?_, Nat.le_refl _, ?_, ?_⟩
    · go_cell
    · go_cell
    · go_cell
    · go_cell
    · go_cell
    · go_cell
    · go_size
    · go_grown
  case round =>
    obtain ⟨k, x, y, z, hk, rfl, H⟩ := hrel
    by_cases hlt : k < n
    · have hcx : wr.cell? ⟨ba, oa + k, none⟩ = some (.int .i64 (xs.getD k 0)) := by
        rw [H.below.cell (p := ⟨ba, oa + k, none⟩) ha]
        exact HX.out k hlt
      have hcy : wr.cell? ⟨bb, ob + k, none⟩ = some (.int .i64 (ys.getD k 0)) := by
        rw [H.below.cell (p := ⟨bb, ob + k, none⟩) hb]
        exact HY.out k hlt
      have HNX := Lib.hid (in_of_all HXA.out (k := k) (by rw [HXL.out]; exact hlt))
      have HNY := Lib.hid (in_of_all HYA.out (k := k) (by rw [HYL.out]; exact hlt))
      have HS : Hid (dotTo xs ys (k + 1) = dotTo xs ys k + xs.getD k 0 * ys.getD k 0) := Lib.hid rfl
      generalize xs.getD k 0 = a at *
      generalize ys.getD k 0 = c at *
      have HH := Lib.hid H
      clear H
      go_wp2_with (fail)
      refine (add_any _ x y z (dotTo xs ys k) _ a c HH.out.lt HH.out.rep HNX.out HNY.out HH.out.c0 HH.out.c1 HH.out.c2 HH.out.f0 HH.out.f1 HH.out.f2).mono ?_
      intro e w1 hadd
      have HA := Lib.hid (holds_step HH.out hadd)
      obtain ⟨rfl, _⟩ := hadd
      go_wp2
      go_roundw
      case rel =>
        obtain ⟨x', y', z', H'⟩ := HA.out
        exact ⟨k + 1, x', y', z', by omega, by go_num, by rw [HS.out]; exact H'⟩
      case measure => simp [intOf]; omega
    · obtain rfl : k = n := by omega
      have HH := Lib.hid H
      have hsb := dot_bound xs ys HXA.out HYA.out k
      have hk2 : (k : Int) ≤ 10000 := by omega
      have e1 : Hid (-1569275433846670190958947355801916604025588861116008628224 ≤ dotTo xs ys k ∧ dotTo xs ys k ≤ 1569275433846670190958947355801916604025588861116008628224) := Lib.hid (by omega)
      clear H hsb
      go_wp2_with (fail)
      by_cases hs : inR (dotTo xs ys k) = true
      · have HO : Hid (outcome (inR (dotTo xs ys k)) (dotTo xs ys k) = .tuple #[.int .i64 (dotTo xs ys k), .int .i64 0]) := Lib.hid (by rw [hs]; rfl)
        refine (number_ok _ x y z (dotTo xs ys k) _ HH.out.rep hs HH.out.c0 HH.out.c1 HH.out.c2).mono ?_
        rintro e w1 ⟨rfl, hB⟩
        have HB := Lib.hid (HH.out.below.trans (hB.mono HH.out.below.size))
        clear hB hs
        go_wp2
        go_ret2
        exact ⟨by rw [HO.out]; rfl, HB.out⟩
      · have hs' : inR (dotTo xs ys k) = false := by simpa using hs
        have HO : Hid (outcome (inR (dotTo xs ys k)) (dotTo xs ys k) = .tuple #[.int .i64 0, .int .i64 2]) := Lib.hid (by rw [hs']; rfl)
        refine (number_no _ x y z (dotTo xs ys k) _ HH.out.rep hs' e1.out.1 e1.out.2 HH.out.c0 HH.out.c1 HH.out.c2).mono ?_
        rintro e w1 ⟨rfl, hB⟩
        have HB := Lib.hid (HH.out.below.trans (hB.mono HH.out.below.size))
        clear hB hs hs'
        go_wp2
        go_ret2
        exact ⟨by rw [HO.out]; rfl, HB.out⟩

theorem dot_out (ba oa ca bb ob cb n : Nat) (xs ys : List Int) (w : World) (hxl : xs.length = n) (hyl : ys.length = n) (hn : n ≤ 10000)
    (hx : ∀ i, i < n → w.cell? ⟨ba, oa + i, none⟩ = some (.int .i64 (xs.getD i 0))) (hy : ∀ i, i < n → w.cell? ⟨bb, ob + i, none⟩ = some (.int .i64 (ys.getD i 0))) (hf : (xs.all inR && ys.all inR) = false) :
    Calls Try.prog 34 #[.slice (some ⟨ba, oa, none⟩) n ca, .slice (some ⟨bb, ob, none⟩) n cb] w fun e w' => e = .returned (.tuple #[.int .i64 0, .int .i64 2]) ∧ Below w.heap.size w w' := by
  have WX : Hid (∀ w2 : World, w2 = w → Calls Try.prog 38 #[.slice (some ⟨ba, oa, none⟩) n ca] w2 fun e w' => e = .returned (.bool (xs.all inR)) ∧ w2 = w') := Lib.hid fun w2 e => by
    subst e
    have := within_all ba oa ca xs w2 (by omega) (by rw [hxl]; exact hx)
    rw [hxl] at this
    exact this
  have WY : Hid (∀ w2 : World, w2 = w → Calls Try.prog 38 #[.slice (some ⟨bb, ob, none⟩) n cb] w2 fun e w' => e = .returned (.bool (ys.all inR)) ∧ w2 = w') := Lib.hid fun w2 e => by
    subst e
    have := within_all bb ob cb ys w2 (by omega) (by rw [hyl]; exact hy)
    rw [hyl] at this
    exact this
  clear hx hy hxl hyl
  generalize xs.all inR = p at *
  generalize ys.all inR = q at *
  cases p
  · go_enter Try.func34, Try.ntmps34
    go_wp2_with (fail)
    refine (WX.out _ rfl).mono ?_
    rintro e w' ⟨rfl, rfl⟩
    go_wp2
    go_ret2
    exact ⟨rfl, Below.refl _ _⟩
  · obtain rfl : q = false := by simpa using hf
    go_enter Try.func34, Try.ntmps34
    go_wp2_with (fail)
    refine (WX.out _ rfl).mono ?_
    rintro e w' ⟨rfl, rfl⟩
    go_wp2_with (fail)
    refine (WY.out _ rfl).mono ?_
    rintro e w' ⟨rfl, rfl⟩
    go_wp2
    go_ret2
    exact ⟨rfl, Below.refl _ _⟩

/-- Two lists of different lengths. -/
theorem dot_len (A B : Option Addr) (n m ca cb : Nat) (w : World) (hn : n ≤ 10000) (hm : m ≤ 10000) (h : n ≠ m) :
    Calls Try.prog 34 #[.slice A n ca, .slice B m cb] w fun e w' => e = .returned (.tuple #[.int .i64 0, .int .i64 1]) ∧ Below w.heap.size w w' := by
  have h1 : ((n : Int) == (m : Int)) = false := beq_eq_false_iff_ne.2 (by omega)
  go_enter Try.func34, Try.ntmps34
  go_wp2
  go_ret2
  exact ⟨rfl, Below.refl _ _⟩

theorem within_nil (A : Option Addr) (c : Nat) (w : World) : Calls Try.prog 38 #[.slice A 0 c] w fun e w' => e = .returned (.bool true) ∧ w = w' := by
  go_enter Try.func38, Try.ntmps38
  go_wp2
  refine wp_loop_rounds 1 ?_
  rw [rounds_succ]
  go_wp2
  go_ret
  exact ⟨rfl, rfl⟩

theorem gcds_nil (A : Option Addr) (c : Nat) (w : World) : Calls Try.prog 30 #[.slice A 0 c] w fun e w' => e = .returned (.tuple #[.int .i64 0, .int .i64 0]) ∧ Below w.heap.size w w' := by
  go_enter Try.func30, Try.ntmps30
  go_wp2_with (fail)
  refine (within_nil _ _ _).mono ?_
  rintro e w' ⟨rfl, rfl⟩
  go_wp2
  refine wp_loop_rounds 1 ?_
  rw [rounds_succ]
  go_wp2
  go_ret2
  exact ⟨rfl, Below.refl _ _⟩

theorem total_nil (A : Option Addr) (c : Nat) (w : World) : Calls Try.prog 37 #[.slice A 0 c] w fun e w' => e = .returned (.tuple #[.int .i64 0, .int .i64 0]) ∧ Below w.heap.size w w' := by
  go_enter Try.func37, Try.ntmps37
  go_wp2_with (fail)
  refine (within_nil _ _ _).mono ?_
  rintro e w' ⟨rfl, rfl⟩
  go_wp2_with (fail)
  refine wp_loop_rounds 1 ?_
  rw [rounds_succ]
  go_wp2_with (fail)
  refine (number_ok _ 0 0 0 0 _ rep_zero (by decide) (by go_cell) (by go_cell) (by go_cell)).mono ?_
  rintro e w1 ⟨rfl, hB⟩
  go_wp2
  go_ret2
  exact ⟨rfl, bt (by go_grown) hB⟩

theorem sum_nil (A : Option Addr) (c : Nat) (w : World) : Calls Try.prog 32 #[.slice A 0 c] w fun e w' => e = .returned (.tuple #[.int .i64 0, .int .i64 0]) ∧ Below w.heap.size w w' := by
  go_enter Try.func32, Try.ntmps32
  go_wp2_with (fail)
  refine (total_nil _ _ _).mono ?_
  rintro e w' ⟨rfl, hB⟩
  go_wp2
  go_ret2
  exact ⟨rfl, hB⟩

theorem dot_nil (A B : Option Addr) (ca cb : Nat) (w : World) : Calls Try.prog 34 #[.slice A 0 ca, .slice B 0 cb] w fun e w' => e = .returned (.tuple #[.int .i64 0, .int .i64 0]) ∧ Below w.heap.size w w' := by
  go_enter Try.func34, Try.ntmps34
  go_wp2_with (fail)
  refine (within_nil _ _ _).mono ?_
  rintro e w' ⟨rfl, rfl⟩
  go_wp2_with (fail)
  refine (within_nil _ _ _).mono ?_
  rintro e w' ⟨rfl, rfl⟩
  go_wp2_with (fail)
  refine wp_loop_rounds 1 ?_
  rw [rounds_succ]
  go_wp2_with (fail)
  refine (number_ok _ 0 0 0 0 _ rep_zero (by decide) (by go_cell) (by go_cell) (by go_cell)).mono ?_
  rintro e w1 ⟨rfl, hB⟩
  go_wp2
  go_ret2
  exact ⟨rfl, bt (by go_grown) hB⟩

end Go.Proofs.Ytbpppeekfjfolaa.IntLDot
