/- The reference's sum of products. -/
import Derived.Test.YtbpppeekfjfolaaIntLRef
import Derived.Deep.RegionHeld3
import Derived.Deep.DeepCutAuto
namespace Go.Proofs.Ytbpppeekfjfolaa.IntLDotR
set_option linter.unusedVariables false
open Go.RowKit Go.Proofs.Ytbpppeekfjfolaa.IntPlain Go.Proofs.Ytbpppeekfjfolaa.IntWalks Go.Proofs.Ytbpppeekfjfolaa.IntWide Go.Proofs.Ytbpppeekfjfolaa.IntTotal Go.Proofs.Ytbpppeekfjfolaa.IntNumber Go.Proofs.Ytbpppeekfjfolaa.IntSum Go.Proofs.Ytbpppeekfjfolaa.IntAwake Go.Proofs.Ytbpppeekfjfolaa.IntDivision Go.Proofs.Ytbpppeekfjfolaa.IntBasic Go.Proofs.Ytbpppeekfjfolaa.IntGcd Go.Proofs.Ytbpppeekfjfolaa.IntLcm Go.Proofs.Ytbpppeekfjfolaa.IntDigits Go.Proofs.Ytbpppeekfjfolaa.IntLDot Go.Proofs.Ytbpppeekfjfolaa.IntLRef

/-- An array of integers that lies at b. -/
structure Arr (b n : Nat) (cs : List Int) (w : World) : Prop where
  len : cs.length = n
  cell : ∀ i, i < n → w.cell? ⟨b, i, none⟩ = some (.int .i64 (cs.getD i 0))
  fr : ∀ i, i < n → w.frozen? ⟨b, i, none⟩ = false
  lt : b < w.heap.size

theorem Arr.set {b n : Nat} {cs : List Int} {w : World} (h : Arr b n cs w) (i : Nat) (hi : i < n) (v : Int) : Arr b n (cs.set i v) (w.setCell ⟨b, i, none⟩ (.int .i64 v)) := by
  refine ⟨by rw [List.length_set, h.len], fun j hj => ?_, fun j hj => ?_, by rw [World.size_setCell]; exact h.lt⟩
  · rw [getD_set cs i j v (by rw [h.len]; exact hi)]
    split
    · rename_i e
      subst e
      exact World.cell?_setCell_same _ _ _ (h.cell i hi)
    · rename_i e
      rw [World.cell?_setCell_other _ _ _ _ (by intro hh; injection hh with _ h2; exact e h2)]
      exact h.cell j hj
  · rw [World.frozen?_setCell]; exact h.fr j hj

theorem Arr.far {b n b' i : Nat} {cs : List Int} {w : World} (h : Arr b n cs w) (hb : b ≠ b') (v : Value) : Arr b n cs (w.setCell ⟨b', i, none⟩ v) := by
  refine ⟨h.len, fun j hj => ?_, fun j hj => ?_, by rw [World.size_setCell]; exact h.lt⟩
  · rw [World.cell?_setCell_other _ _ _ _ (by intro hh; injection hh with h1 _; exact hb h1.symm)]
    exact h.cell j hj
  · rw [World.frozen?_setCell]; exact h.fr j hj

theorem Arr.drew {b n : Nat} {cs : List Int} {w : World} (h : Arr b n cs w) : Arr b n cs w.drew := ⟨h.len, h.cell, h.fr, h.lt⟩

theorem Arr.stay {b n : Nat} {cs : List Int} {w w' : World} (h : Arr b n cs w) (hb : Below w.heap.size w w') : Arr b n cs w' :=
  ⟨h.len, fun i hi => (hb.cell (p := ⟨b, i, none⟩) h.lt).trans (h.cell i hi), fun i hi => (hb.frozen (p := ⟨b, i, none⟩) h.lt).trans (h.fr i hi), Nat.lt_of_lt_of_le h.lt hb.size⟩

/-- The digits of a number that lie at g. -/
def Tri (g : Nat) (zs : List Int) (w : World) : Prop := ∀ j, j < 3 → w.cell? ⟨g, j, none⟩ = some (.int .i64 (zs.getD j 0))

/-- While the products of the digits of two numbers are added. -/
structure Inv (w : World) (g h : Nat) (x y P : Int) (M j k : Nat) (ds : List Int) (wx : World) : Prop where
  a : Arr w.heap.size 8 ds wx
  tx : Tri g (dg x) wx
  ty : Tri h (dg y) wx
  gne : w.heap.size ≠ g
  hne : w.heap.size ≠ h
  b : Below w.heap.size w wx
  v : val ds = acc P (dg x) (dg y) j k
  bd : Bound ds (M + 3 * j + k)

theorem Tri.far {g b i : Nat} {zs : List Int} {w : World} (h : Tri g zs w) (hb : b ≠ g) (v : Value) : Tri g zs (w.setCell ⟨b, i, none⟩ v) := fun j hj => by
  rw [World.cell?_setCell_other _ _ _ _ (by intro hh; injection hh with h1 _; exact hb h1)]
  exact h j hj

theorem Inv.step {w wx : World} {g h : Nat} {x y P : Int} {M j k : Nat} {ds : List Int} (H : Inv w g h x y P M j k ds wx) (hj : j < 3) (hk : k < 3) (hx : Small ((dg x).getD j 0)) (hy : Small ((dg y).getD k 0)) (v : Int) (hv : v = ds.getD (j + k) 0 + (dg x).getD j 0 * (dg y).getD k 0) :
    Inv w g h x y P M j (k + 1) (ds.set (j + k) v) (wx.setCell ⟨w.heap.size, j + k, none⟩ (.int .i64 v)).drew := by
  subst hv
  refine ⟨(H.a.set (j + k) (by omega) _).drew, H.tx.far H.gne _, H.ty.far H.hne _, H.gne, H.hne, (H.b.setCell (Nat.le_refl _) _).drew, ?_, ?_⟩
  · rw [val_set ds (j + k) _ (by rw [H.a.len]; omega), dg_step P x y j k hk, H.v]
  · have := bound_step ds (M + 3 * j + k) (j + k) _ _ (by rw [H.a.len]; omega) H.bd hx hy
    exact this

theorem Inv.row {w wx : World} {g h : Nat} {x y P : Int} {M j : Nat} {ds : List Int} (H : Inv w g h x y P M j 3 ds wx) (hj : j < 3) : Inv w g h x y P M (j + 1) 0 ds wx :=
  ⟨H.a, H.tx, H.ty, H.gne, H.hne, H.b, by rw [H.v, dg_row P x y j hj], H.bd⟩

theorem al {w w1 : World} (b : Below w.heap.size w w1) (o : Obj) : Below w.heap.size w (w1.alloc o) := b.alloc b.size o

set_option maxHeartbeats 2000000 in
theorem refDot_in (A1 A2 : Option Addr) (ba oa ca bb ob cb n : Nat) (xs ys : List Int) (w : World) (hA1 : 0 < n → A1 = some ⟨ba, oa, none⟩ ∧ ba < w.heap.size) (hA2 : 0 < n → A2 = some ⟨bb, ob, none⟩ ∧ bb < w.heap.size) (hxl : xs.length = n) (hyl : ys.length = n) (hn : n ≤ 60)
    (hx : ∀ i, i < n → w.cell? ⟨ba, oa + i, none⟩ = some (.int .i64 (xs.getD i 0))) (hy : ∀ i, i < n → w.cell? ⟨bb, ob + i, none⟩ = some (.int .i64 (ys.getD i 0))) (hxa : xs.all inR = true) (hya : ys.all inR = true) :
    Calls Try.prog 35 #[.slice A1 n ca, .slice A2 n cb] w fun e w' => e = .returned (outcome (inR (dotTo xs ys n)) (dotTo xs ys n)) ∧ Below w.heap.size w w' := by
  have HX := Lib.hid hx
  have HY := Lib.hid hy
  have HXA := Lib.hid hxa
  have HYA := Lib.hid hya
  have HXL := Lib.hid hxl
  have HYL := Lib.hid hyl
  have HA1 := Lib.hid hA1
  have HA2 := Lib.hid hA2
  clear hx hy hxa hya hxl hyl hA1 hA2
  go_enter Try.func35, Try.ntmps35
  go_wp2_with (fail)
  go_loop [6] (fun i => ∃ k : Nat, k ≤ n ∧ i = .int .i64 k) (fun i => n - (intOf i).toNat)
  case atStart => exact ⟨0, Nat.zero_le _, rfl⟩
  case round =>
    obtain ⟨k, hk, rfl⟩ := hrel
    by_cases hlt : k < n
    · obtain ⟨rfl, _⟩ := HA1.out (by omega)
      obtain ⟨rfl, _⟩ := HA2.out (by omega)
      have hcx := HX.out k hlt
      have hcy := HY.out k hlt
      have hx' := (inR_iff _).1 (in_of_all HXA.out (k := k) (by rw [HXL.out]; exact hlt))
      have hy' := (inR_iff _).1 (in_of_all HYA.out (k := k) (by rw [HYL.out]; exact hlt))
      generalize xs.getD k 0 = a at *
      generalize ys.getD k 0 = c at *
      obtain ⟨x1, x2⟩ := hx'
      obtain ⟨y1, y2⟩ := hy'
      go_wp2_with (go_at_call 36; refine (in_yes _ _ (by omega) (by omega)).mono ?_; rintro e w' ⟨rfl, rfl⟩)
      go_round
      case rel => exact ⟨k + 1, by omega, by go_num⟩
      case measure => simp [intOf]; omega
    · obtain rfl : k = n := by omega
      go_wp2_with (fail)
      go_loopw [8] (fun i wr => ∃ (m : Nat) (cs : List Int), m ≤ k ∧ i = .int .i64 m ∧ Arr w.heap.size 8 cs wr ∧ Below w.heap.size w wr ∧ Hid (val cs = dotTo xs ys m) ∧ Hid (Bound cs (9 * m))) (fun i _ => k - (intOf i).toNat)
      case atStart =>
        refine ⟨0, [0, 0, 0, 0, 0, 0, 0, 0], Nat.zero_le _, rfl, ⟨rfl, ?_, ?_, ?_⟩, ?_, Lib.hid rfl, Lib.hid ?_⟩
        · intro i hi
          match i, hi with
          | 0, _ => go_cell
          | 1, _ => go_cell
          | 2, _ => go_cell
          | 3, _ => go_cell
          | 4, _ => go_cell
          | 5, _ => go_cell
          | 6, _ => go_cell
          | 7, _ => go_cell
        · intro i hi
          match i, hi with
          | 0, _ => go_cell
          | 1, _ => go_cell
          | 2, _ => go_cell
          | 3, _ => go_cell
          | 4, _ => go_cell
          | 5, _ => go_cell
          | 6, _ => go_cell
          | 7, _ => go_cell
        · go_size
        · go_grown
        · intro i
          match i with
          | 0 | 1 | 2 | 3 | 4 | 5 | 6 | 7 => simp
          | i + 8 => simp
      case round =>
        obtain ⟨m, cs, hm, rfl, A, b, HV, HB⟩ := hrel
        by_cases hlt : m < k
        · obtain ⟨rfl, ha⟩ := HA1.out (by omega)
          obtain ⟨rfl, hb⟩ := HA2.out (by omega)
          have hcx : wr.cell? ⟨ba, oa + m, none⟩ = some (.int .i64 (xs.getD m 0)) := by
            rw [b.cell (p := ⟨ba, oa + m, none⟩) ha]
            exact HX.out m hlt
          have hcy : wr.cell? ⟨bb, ob + m, none⟩ = some (.int .i64 (ys.getD m 0)) := by
            rw [b.cell (p := ⟨bb, ob + m, none⟩) hb]
            exact HY.out m hlt
          have HNX := Lib.hid (in_of_all HXA.out (k := m) (by rw [HXL.out]; exact hlt))
          have HNY := Lib.hid (in_of_all HYA.out (k := m) (by rw [HYL.out]; exact hlt))
          have HS : Hid (dotTo xs ys (m + 1) = dotTo xs ys m + xs.getD m 0 * ys.getD m 0) := Lib.hid rfl
          have HAA := Lib.hid A
          have HBB := Lib.hid b
          clear A b
          have HAD : Hid (∀ w1, Below w.heap.size w w1 → w1.cell? ⟨ba, oa + m, none⟩ = some (.int .i64 (xs.getD m 0)) ∧ w1.cell? ⟨bb, ob + m, none⟩ = some (.int .i64 (ys.getD m 0))) := Lib.hid fun w1 b1 => ⟨(b1.cell (p := ⟨ba, oa + m, none⟩) ha).trans (HX.out m hlt), (b1.cell (p := ⟨bb, ob + m, none⟩) hb).trans (HY.out m hlt)⟩
          have DX := Lib.hid (fun w1 => digits_any (xs.getD m 0) w1 HNX.out)
          have DY := Lib.hid (fun w1 => digits_any (ys.getD m 0) w1 HNY.out)
          have SX := Lib.hid (dg_small (xs.getD m 0) HNX.out)
          have SY := Lib.hid (dg_small (ys.getD m 0) HNY.out)
          generalize xs.getD m 0 = x at *
          generalize ys.getD m 0 = y at *
          obtain ⟨x0, ex0⟩ : ∃ x0, x0 = (dg x).getD 0 0 := ⟨_, rfl⟩
          obtain ⟨x1, ex1⟩ : ∃ x1, x1 = (dg x).getD 1 0 := ⟨_, rfl⟩
          obtain ⟨x2, ex2⟩ : ∃ x2, x2 = (dg x).getD 2 0 := ⟨_, rfl⟩
          obtain ⟨y0, ey0⟩ : ∃ y0, y0 = (dg y).getD 0 0 := ⟨_, rfl⟩
          obtain ⟨y1, ey1⟩ : ∃ y1, y1 = (dg y).getD 1 0 := ⟨_, rfl⟩
          obtain ⟨y2, ey2⟩ : ∃ y2, y2 = (dg y).getD 2 0 := ⟨_, rfl⟩
          rw [← ex0, ← ex1, ← ex2] at DX
          rw [← ey0, ← ey1, ← ey2] at DY
          have EX : Hid (x0 = (dg x).getD 0 0 ∧ x1 = (dg x).getD 1 0 ∧ x2 = (dg x).getD 2 0 ∧ y0 = (dg y).getD 0 0 ∧ y1 = (dg y).getD 1 0 ∧ y2 = (dg y).getD 2 0) := Lib.hid ⟨ex0, ex1, ex2, ey0, ey1, ey2⟩
          clear ex0 ex1 ex2 ey0 ey1 ey2
          have hba : ba < wr.heap.size := Nat.lt_of_lt_of_le ha HBB.out.size
          have hbb : bb < wr.heap.size := Nat.lt_of_lt_of_le hb HBB.out.size
          have hbs := HBB.out.size
          have HK : Hid (∀ w1, Below wr.heap.size wr w1 → w1.cell? ⟨ba, oa + m, none⟩ = some (.int .i64 x) ∧ w1.cell? ⟨bb, ob + m, none⟩ = some (.int .i64 y)) := Lib.hid fun w1 b1 => HAD.out w1 (bt HBB.out b1)
          go_upto_region 14 with fail
          go_cut [9, 10] (fun s9 s10 wx => ∃ g h : Nat, s9 = .pointer (some ⟨g, 0, none⟩) ∧ s10 = .pointer (some ⟨h, 0, none⟩) ∧ g ≠ h ∧ wr.heap.size ≤ g ∧ wr.heap.size ≤ h ∧ g < wx.heap.size ∧ h < wx.heap.size ∧ wx.cell? ⟨g, 0, none⟩ = some (.int .i64 x0) ∧ wx.cell? ⟨g, 1, none⟩ = some (.int .i64 x1) ∧ wx.cell? ⟨g, 2, none⟩ = some (.int .i64 x2) ∧ wx.cell? ⟨h, 0, none⟩ = some (.int .i64 y0) ∧ wx.cell? ⟨h, 1, none⟩ = some (.int .i64 y1) ∧ wx.cell? ⟨h, 2, none⟩ = some (.int .i64 y2) ∧ Below wr.heap.size wr wx)
          case first =>
            go_region_held3 (fun w' => w'.cell? ⟨ba, oa + m, none⟩ = some (.int .i64 x) ∧ w'.cell? ⟨bb, ob + m, none⟩ = some (.int .i64 y))
              (first | exact HK.out _ ((Below.refl _ _).drew) | exact HK.out _ (al ((Below.refl _ _).drew) _) | exact HK.out _ (al (al ((Below.refl _ _).drew) _) _) | exact HK.out _ (al (al (al ((Below.refl _ _).drew) _) _) _) | exact HK.out _ (al (al (al (al ((Below.refl _ _).drew) _) _) _) _) | exact HK.out _ ((Below.refl _ _)) | exact HK.out _ (al ((Below.refl _ _)) _) | exact HK.out _ (al (al ((Below.refl _ _)) _) _) | exact HK.out _ (al (al (al ((Below.refl _ _)) _) _) _) | exact HK.out _ (al (al (al (al ((Below.refl _ _)) _) _) _) _))
              (first
                | (go_at_call_of 49 x; ((with_reducible refine (DX.out _).mono ?_); rintro e w2 ⟨rfl, rfl⟩))
                | (go_at_call_of 49 y; ((with_reducible refine (DY.out _).mono ?_); rintro e w3 ⟨rfl, rfl⟩)))
            all_goals
              go_wp2_with (fail)
              go_meet
              refine ⟨_, _, rfl, rfl, ?_, ?_, ?_, ?_, ?_, ?_, ?_, ?_, ?_, ?_, ?_, ?_⟩
              · omega
              · omega
              · omega
              · go_size
              · go_size
              · go_cell
              · go_cell
              · go_cell
              · go_cell
              · go_cell
              · go_cell
              · go_grown
          case rest =>
            obtain ⟨g, h, rfl, rfl, hgh, hg1, hh1, hg2, hh2, cx0, cx1, cx2, cy0, cy1, cy2, hbw⟩ := hcut
            have H0 : Hid (Inv w g h x y (val cs) (9 * m) 0 0 cs wc) := Lib.hid ⟨HAA.out.stay hbw, (fun j hj => by
              match j, hj with
              | 0, _ => rw [cx0, EX.out.1]
              | 1, _ => rw [cx1, EX.out.2.1]
              | 2, _ => rw [cx2, EX.out.2.2.1]), (fun j hj => by
              match j, hj with
              | 0, _ => rw [cy0, EX.out.2.2.2.1]
              | 1, _ => rw [cy1, EX.out.2.2.2.2.1]
              | 2, _ => rw [cy2, EX.out.2.2.2.2.2]), (by have := HAA.out.lt; omega), (by have := HAA.out.lt; omega), bt HBB.out hbw, (acc_start _ _ _).symm, HB.out⟩
            clear cx0 cx1 cx2 cy0 cy1 cy2 hbw EX HAA hgh hg1 hg2 hh1 hh2 HK DX DY HNX HNY HAD hcx hcy hba hbb hbs HBB
            clear x0 x1 x2 y0 y1 y2
            have HM := Lib.hid hlt
            go_wp2_with (fail)
            go_loopw [11] (fun u wx => ∃ (j : Nat) (ds : List Int), j ≤ 3 ∧ u = .int .i64 j ∧ Hid (Inv w g h x y (val cs) (9 * m) j 0 ds wx)) (fun u _ => 3 - (intOf u).toNat)
            case atStart => exact ⟨0, cs, by omega, rfl, H0⟩
            case round =>
              obtain ⟨j, ds, hj, rfl, H1⟩ := hrel
              clear H0
              by_cases hj3 : j < 3
              · go_wp2_with (fail)
                go_loopw [12] (fun u wx => ∃ (k : Nat) (es : List Int), k ≤ 3 ∧ u = .int .i64 k ∧ Hid (Inv w g h x y (val cs) (9 * m) j k es wx)) (fun u _ => 3 - (intOf u).toNat)
                case atStart => exact ⟨0, ds, by omega, rfl, H1⟩
                case round =>
                  obtain ⟨q, es, hq, rfl, H2⟩ := hrel
                  clear H1
                  by_cases hq3 : q < 3
                  · have hcc := H2.out.a.cell (j + q) (by omega)
                    have hcf := H2.out.a.fr (j + q) (by omega)
                    have hca := H2.out.tx j hj3
                    have hcb := H2.out.ty q hq3
                    have hpq := small_mul _ _ (SX.out j) (SY.out q)
                    have hbc := H2.out.bd (j + q)
                    have HN := Lib.hid (fun v hv => H2.out.step hj3 hq3 (SX.out j) (SY.out q) v hv)
                    have hk9 : 9 * m + 3 * j + q ≤ 540 := by have := HM.out; omega
                    generalize (dg x).getD j 0 = p1 at *
                    generalize (dg y).getD q 0 = p2 at *
                    generalize es.getD (j + q) 0 = c at *
                    have hc1 : -2374945115996160 ≤ c := by omega
                    have hc2 : c ≤ 2374945115996160 := by omega
                    obtain ⟨hp1, hp2⟩ := hpq
                    clear hbc H2 hk9
                    go_wp2_with (fail)
                    go_region
                    go_wp2
                    go_roundw
                    case rel => exact ⟨q + 1, _, by omega, by go_num, Lib.hid (HN.out _ rfl)⟩
                    case measure => simp [intOf]; omega
                  · obtain rfl : q = 3 := by omega
                    have H3 := Lib.hid (H2.out.row hj3)
                    clear H2
                    go_wp2
                    go_roundw
                    case rel => exact ⟨j + 1, es, by omega, by go_num, H3⟩
                    case measure => simp [intOf]; omega
              · obtain rfl : j = 3 := by omega
                go_wp2
                go_roundw
                case rel => exact ⟨m + 1, ds, HM.out, by go_num, H1.out.a, H1.out.b, Lib.hid (by rw [H1.out.v, dg_end, HV.out, HS.out]), Lib.hid (by have := H1.out.bd; rwa [show 9 * m + 3 * 3 + 0 = 9 * (m + 1) from by omega] at this)⟩
                case measure => simp [intOf]; have := HM.out; omega
        · obtain rfl : m = k := by omega
          have HAA := Lib.hid A
          have HBB := Lib.hid b
          clear A b
          have N0 := Lib.hid (norm_start cs (9 * m) (by omega) HB.out)
          clear HB
          go_wp2_with (fail)
          go_loopw [13] (fun u wx => ∃ (i : Nat) (ds : List Int), i ≤ 7 ∧ u = .int .i64 i ∧ Arr w.heap.size 8 ds wx ∧ Below w.heap.size w wx ∧ Hid (val ds = dotTo xs ys m) ∧ Hid (Norm ds i)) (fun u _ => 7 - (intOf u).toNat)
          case atStart => exact ⟨0, cs, by omega, rfl, HAA.out, HBB.out, HV, N0⟩
          case round =>
            obtain ⟨i, ds, hi, rfl, A, b, HV1, HN1⟩ := hrel
            clear HAA HBB HV N0
            have HAR := Lib.hid A
            have HB1 := Lib.hid b
            by_cases hi7 : i < 7
            · have h1 := HN1.out.2.1
              have h2 := HN1.out.2.2 (i + 1) (by omega)
              have c1 := A.cell i (by omega)
              have HV2 := Lib.hid (carry_val ds i (ds.getD i 0 / 2097152) (by rw [A.len]; omega))
              have HN2 := Lib.hid (carry_norm ds i (by rw [A.len]; omega) HN1.out)
              have HD := Lib.hid (refDiv_in (ds.getD i 0) 2097152 ((inR_iff _).2 (by omega)) (by decide) (by decide))
              rw [floor_eq] at HD
              have HC2 := Lib.hid fun w2 (b2 : Below wr.heap.size wr w2) => (A.stay b2).cell (i + 1) (by omega)
              have HC1 := Lib.hid fun w2 (b2 : Below wr.heap.size wr w2) => (A.stay b2).cell i (by omega)
              have HF1 := Lib.hid fun w2 (b2 : Below wr.heap.size wr w2) => (A.stay b2).fr i (by omega)
              have HF2 := Lib.hid fun w2 (b2 : Below wr.heap.size wr w2) => (A.stay b2).fr (i + 1) (by omega)
              have HA2 : Hid (∀ w2, Below wr.heap.size wr w2 → ∀ u v, Arr w.heap.size 8 ((ds.set i u).set (i + 1) v) ((w2.setCell ⟨w.heap.size, i, none⟩ (.int .i64 u)).setCell ⟨w.heap.size, i + 1, none⟩ (.int .i64 v))) := Lib.hid fun w2 b2 u v => ((A.stay b2).set i (by omega) u).set (i + 1) (by omega) v
              have HQ : Hid (0 ≤ ds.getD i 0 - ds.getD i 0 / 2097152 * 2097152 ∧ ds.getD i 0 - ds.getD i 0 / 2097152 * 2097152 < 2097152 ∧ -4294967297 ≤ ds.getD i 0 / 2097152 ∧ ds.getD i 0 / 2097152 ≤ 4294967297) := Lib.hid (by omega)
              generalize ds.getD i 0 / 2097152 = q at *
              generalize ds.getD i 0 = c at *
              generalize ds.getD (i + 1) 0 = d at *
              obtain ⟨q1, q2, q3, q4⟩ := HQ.out
              obtain ⟨h11, h12⟩ := h1
              obtain ⟨h21, h22⟩ := h2
              clear A b HN1 HQ
              go_wp2_with (fail)
              refine (HD.out _).mono ?_
              rintro e w2 ⟨rfl, b2⟩
              have cc1 := HC1.out w2 b2
              have cc2 := HC2.out w2 b2
              have cf1 := HF1.out w2 b2
              have cf2 := HF2.out w2 b2
              have HA3 := Lib.hid (HA2.out w2 b2)
              have HB3 := Lib.hid (bt HB1.out b2)
              clear HC1 HC2 HF1 HF2 HA2 HB1 b2 HD
              go_wp2
              go_roundw
              case rel => exact ⟨i + 1, _, by omega, by go_num, HA3.out _ _, (HB3.out.setCell (Nat.le_refl _) _).setCell (Nat.le_refl _) _, Lib.hid (by rw [HV2.out, HV1.out]), HN2⟩
              case measure => simp [intOf]; omega
            · obtain rfl : i = 7 := by omega
              have HG := Lib.hid HN1.out.1
              have HT := Lib.hid HN1.out.2.1
              clear A b HN1
              go_wp2_with (fail)
              go_loop [16, 17] (fun nv u => (∃ t : Nat, t < 8 ∧ u = .int .i64 t ∧ nv = .int .i64 (val (ds.drop (t + 1))) ∧ (-4620693217682128896 ≤ val (ds.drop (t + 1)) ∧ val (ds.drop (t + 1)) ≤ 4620693217682128896)) ∨ (u = .int .i64 (-1) ∧ nv = .int .i64 (val ds) ∧ (-4620693217682128896 ≤ val ds ∧ val ds ≤ 4620693217682128896))) (fun _ u => (intOf u + 1).toNat)
              case atStart =>
                have e : val (ds.drop 8) = 0 := by rw [List.drop_of_length_le (by rw [HAR.out.len]; omega)]; rfl
                exact Or.inl ⟨7, by omega, rfl, by rw [e], by rw [e]; omega⟩
              case round =>
                rcases hrel with ⟨t, ht, rfl, rfl, n1, n2⟩ | ⟨rfl, rfl, n1, n2⟩
                · have c1 := HAR.out.cell t (by omega)
                  have HS := Lib.hid (val_drop ds t (by rw [HAR.out.len]; omega))
                  have HZ : Hid (t = 7 → val (ds.drop (t + 1)) = 0) := Lib.hid (fun e => by subst e; rw [List.drop_of_length_le (by rw [HAR.out.len]; omega)]; rfl)
                  have HOut : Hid (2199023255552 < val (ds.drop (t + 1)) ∨ val (ds.drop (t + 1)) < -2199023255552 → inR (dotTo xs ys m) = false) := Lib.hid (fun h => by
                    have h7 : t < 7 := by
                      rcases Nat.lt_or_ge t 7 with h7 | h7
                      · exact h7
                      · have := HZ.out (by omega)
                        omega
                    rw [← HV1.out]
                    exact horner_out ds (t + 1) (by omega) (by rw [HAR.out.len]; omega) (fun i hi => HG.out i (by omega)) h)
                  have HCB : Hid ((0 ≤ ds.getD t 0 ∧ ds.getD t 0 < 2097152) ∨ (t = 7 ∧ -9007199254740992 ≤ ds.getD t 0 ∧ ds.getD t 0 ≤ 9007199254740992)) := Lib.hid (by
                    rcases Nat.lt_or_ge t 7 with h7 | h7
                    · exact Or.inl (HG.out t h7)
                    · obtain rfl : t = 7 := by omega
                      exact Or.inr ⟨rfl, HT.out⟩)
                  have H0 : Hid (t = 0 → val (ds.drop t) = val ds) := Lib.hid (fun e => by subst e; rfl)
                  generalize val (ds.drop (t + 1)) = n at *
                  generalize ds.getD t 0 = c at *
                  clear HG HT
                  by_cases hb1 : 2199023255552 < n
                  · have HO : Hid (outcome (inR (dotTo xs ys m)) (dotTo xs ys m) = .tuple #[.int .i64 0, .int .i64 2]) := Lib.hid (by rw [HOut.out (Or.inl hb1)]; rfl)
                    clear HOut HZ HCB HS H0
                    go_wp2
                    go_ret2
                    exact ⟨by rw [HO.out]; rfl, HB1.out⟩
                  · by_cases hb2 : n < -2199023255552
                    · have HO : Hid (outcome (inR (dotTo xs ys m)) (dotTo xs ys m) = .tuple #[.int .i64 0, .int .i64 2]) := Lib.hid (by rw [HOut.out (Or.inr hb2)]; rfl)
                      clear HOut HZ HCB HS H0
                      go_wp2
                      go_ret2
                      exact ⟨by rw [HO.out]; rfl, HB1.out⟩
                    · have r1 : -4620693217682128896 ≤ n * 2097152 + c := by have h1 := HCB.out; have h2 := HZ.out; omega
                      have r2 : n * 2097152 + c ≤ 4620693217682128896 := by have h1 := HCB.out; have h2 := HZ.out; omega
                      have r3 : -9007199254740992 ≤ c ∧ c ≤ 9007199254740992 := by have h1 := HCB.out; omega
                      obtain ⟨r31, r32⟩ := r3
                      clear HOut HZ HCB
                      have HS2 : Hid (n * 2097152 + c = val (ds.drop t)) := Lib.hid (by rw [HS.out]; omega)
                      clear HS
                      go_wp2
                      go_round
                      case rel =>
                        by_cases t0 : t = 0
                        · refine Or.inr ⟨by subst t0; go_num, ?_, ?_⟩
                          · rw [← H0.out t0, ← HS2.out]
                          · rw [← H0.out t0, ← HS2.out]; exact ⟨r1, r2⟩
                        · obtain ⟨s, rfl⟩ : ∃ s, t = s + 1 := ⟨t - 1, by omega⟩
                          refine Or.inl ⟨s, by omega, by go_num, ?_, ?_⟩
                          · rw [← HS2.out]
                          · rw [← HS2.out]; exact ⟨r1, r2⟩
                      case measure => simp [intOf]
                · have HE : Hid (outcome (inR (val ds)) (val ds) = outcome (inR (dotTo xs ys m)) (dotTo xs ys m)) := Lib.hid (by rw [HV1.out])
                  clear HG HT HAR HV1
                  generalize val ds = n at *
                  cases hs : inR n
                  · have HO : Hid (outcome (inR (dotTo xs ys m)) (dotTo xs ys m) = .tuple #[.int .i64 0, .int .i64 2]) := Lib.hid (by rw [← HE.out, hs]; rfl)
                    have HI := Lib.hid hs
                    clear hs HE
                    go_wp2_with (fail)
                    refine (in_any _ _).mono ?_
                    rw [HI.out]
                    rintro e w' ⟨rfl, rfl⟩
                    go_wp2
                    go_ret2
                    exact ⟨by rw [HO.out]; rfl, HB1.out⟩
                  · have HO : Hid (outcome (inR (dotTo xs ys m)) (dotTo xs ys m) = .tuple #[.int .i64 n, .int .i64 0]) := Lib.hid (by rw [← HE.out, hs]; rfl)
                    have HI := Lib.hid hs
                    clear hs HE
                    go_wp2_with (fail)
                    refine (in_any _ _).mono ?_
                    rw [HI.out]
                    rintro e w' ⟨rfl, rfl⟩
                    go_wp2
                    go_ret2
                    exact ⟨by rw [HO.out]; rfl, HB1.out⟩

end Go.Proofs.Ytbpppeekfjfolaa.IntLDotR
