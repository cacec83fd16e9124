/- Views: validity on both sides. -/
import Derived.Test.YtimagnkdgpfamaaV7
namespace Go.Proofs.Ytimagnkdgpfamaa.V11
open Go Go.Proofs.Ytimagnkdgpfamaa.Eng Go.Proofs.Ytimagnkdgpfamaa Go.RowKit Go.Proofs.Ytimagnkdgpfamaa.A1 Go.Proofs.Ytimagnkdgpfamaa.A2 Go.Proofs.Ytimagnkdgpfamaa.A3 Go.Proofs.Ytimagnkdgpfamaa.A4 Go.Proofs.Ytimagnkdgpfamaa.A5 Go.Proofs.Ytimagnkdgpfamaa.A8 Go.Proofs.Ytimagnkdgpfamaa.A10 Go.Proofs.Ytimagnkdgpfamaa.V1 Go.Proofs.Ytimagnkdgpfamaa.V2 Go.Proofs.Ytimagnkdgpfamaa.V3 Go.Proofs.Ytimagnkdgpfamaa.V4 Go.Proofs.Ytimagnkdgpfamaa.V5 Go.Proofs.Ytimagnkdgpfamaa.V6 Go.Proofs.Ytimagnkdgpfamaa.V7
set_option linter.unusedSimpArgs false
set_option linter.unusedVariables false
set_option linter.unusedSectionVars false
set_option maxRecDepth 100000

/-- The number that two halves stand for. -/
def val (x : Int × Int) : Int := x.1 * 4294967296 + x.2
def low (x : Int × Int) : Prop := 0 ≤ x.2 ∧ x.2 < 4294967296
def i64 (s : Int) : Prop := -9223372036854775808 ≤ s ∧ s ≤ 9223372036854775807
theorem i64_wrap (x : Int) : i64 (W x) := by
  unfold i64 W
  rw [IntKind.wrap_i64]
  omega

theorem less_val {x y : Int × Int} (hx : low x) (hy : low y) : lessE x y = decide (val x < val y) := by
  obtain ⟨a, b⟩ := x
  obtain ⟨c, d⟩ := y
  simp only [low] at hx hy
  rw [Bool.eq_iff_iff]
  simp only [lessE, Bool.or_eq_true, Bool.and_eq_true, decide_eq_true_eq, beq_iff_eq]
  simp only [val]
  omega

theorem plus_val {x : Int × Int} {a b H : Int} (hx : low x) (hh : -H ≤ x.1 ∧ x.1 ≤ H) (hH : 0 ≤ H ∧ H ≤ 1152921504606846976) (ha : i64 a) (hb : 0 ≤ b ∧ b ≤ 4096) :
    val (plusE x a b) = val x + a * b ∧ low (plusE x a b) ∧ -(H + 17592186044416) ≤ (plusE x a b).1 ∧ (plusE x a b).1 ≤ H + 17592186044416 := by
  obtain ⟨h, l⟩ := x
  simp only [low, i64] at hx ha hh
  have hq : a.fdiv 4294967296 = a / 4294967296 := Int.fdiv_eq_ediv_of_nonneg a (by omega)
  have e : a = 4294967296 * (a / 4294967296) + a % 4294967296 := by omega
  have q1 : -2147483648 ≤ a / 4294967296 ∧ a / 4294967296 ≤ 2147483648 := by omega
  have r1 : 0 ≤ a % 4294967296 ∧ a % 4294967296 < 4294967296 := by omega
  have hab : a * b = 4294967296 * (a / 4294967296 * b) + a % 4294967296 * b := by
    conv => lhs; rw [e]
    rw [Int.add_mul, Int.mul_assoc]
  have p1 : a / 4294967296 * b ≤ 2147483648 * 4096 := by
    have h1 := Int.mul_le_mul_of_nonneg_right q1.2 hb.1
    omega
  have p2 : -(2147483648 * 4096) ≤ a / 4294967296 * b := by
    have h1 := Int.mul_le_mul_of_nonneg_right q1.1 hb.1
    omega
  have p3 : 0 ≤ a % 4294967296 * b := Int.mul_nonneg r1.1 hb.1
  have p4 : a % 4294967296 * b ≤ 4294967296 * 4096 := by
    have h1 := Int.mul_le_mul_of_nonneg_right (show a % 4294967296 ≤ 4294967296 by omega) hb.1
    omega
  simp only [plusE, val, low, hq]
  generalize a / 4294967296 * b = u at *
  generalize a % 4294967296 * b = v at *
  rw [wW (x := u) (by omega) (by omega), wW (x := v) (by omega) (by omega), wW (x := l + v) (by omega) (by omega), wW (x := h + u) (by omega) (by omega)]
  have f : (l + v).fdiv 4294967296 = (l + v) / 4294967296 := Int.fdiv_eq_ediv_of_nonneg _ (by omega)
  rw [f, wW (x := h + u + (l + v) / 4294967296) (by omega) (by omega)]
  omega

/-- How far the offsets of a view lead below and above its first one. -/
def mn : List Int → List Int → Int
  | d :: ds, s :: ss => (if s < 0 then s * (d - 1) else 0) + mn ds ss
  | _, _ => 0
def mx : List Int → List Int → Int
  | d :: ds, s :: ss => (if s < 0 then 0 else s * (d - 1)) + mx ds ss
  | _, _ => 0
theorem mn_le : ∀ (ds ss : List Int), (∀ d ∈ ds, 1 ≤ d) → mn ds ss ≤ 0
  | [], _, _ => by simp [mn]
  | _ :: _, [], _ => by simp [mn]
  | d :: ds, s :: ss, h => by
    have h1 := mn_le ds ss fun x hx => h x (by simp [hx])
    have h2 := h d (by simp)
    rw [mn]
    split
    · have := Int.mul_nonneg (show 0 ≤ -s by omega) (show 0 ≤ d - 1 by omega)
      rw [Int.neg_mul] at this
      omega
    · omega
theorem mx_ge : ∀ (ds ss : List Int), (∀ d ∈ ds, 1 ≤ d) → 0 ≤ mx ds ss
  | [], _, _ => by simp [mx]
  | _ :: _, [], _ => by simp [mx]
  | d :: ds, s :: ss, h => by
    have h1 := mx_ge ds ss fun x hx => h x (by simp [hx])
    have h2 := h d (by simp)
    rw [mx]
    split
    · omega
    · have := Int.mul_nonneg (show 0 ≤ s by omega) (show 0 ≤ d - 1 by omega)
      omega

theorem ends_val : ∀ (ds ss : List Int) (p : (Int × Int) × (Int × Int)) (H : Int), (∀ d ∈ ds, 1 ≤ d ∧ d ≤ 4096) → (∀ s ∈ ss, i64 s) → low p.1 → low p.2 → -H ≤ p.1.1 ∧ p.1.1 ≤ H → -H ≤ p.2.1 ∧ p.2.1 ≤ H → 0 ≤ H → H + ds.length * 17592186044416 ≤ 1152921504606846976 →
    val (ends ds ss p).1 = val p.1 + mn ds ss ∧ val (ends ds ss p).2 = val p.2 + mx ds ss ∧ low (ends ds ss p).1 ∧ low (ends ds ss p).2
  | [], _, p, H, _, _, h1, h2, _, _, _, _ => by simp [ends, mn, mx, h1, h2]
  | _ :: _, [], p, H, _, _, h1, h2, _, _, _, _ => by simp [ends, mn, mx, h1, h2]
  | d :: ds, s :: ss, p, H, hd, hs, h1, h2, b1, b2, hH, hl => by
    have hd1 := hd d (by simp)
    have hs1 := hs s (by simp)
    have hw : W (d - 1) = d - 1 := wW (by omega) (by omega)
    rw [List.length_cons] at hl
    rw [ends, mn, mx, hw]
    split
    · obtain ⟨v1, v2, v3⟩ := plus_val (x := p.1) (a := s) (b := d - 1) h1 b1 ⟨hH, by omega⟩ hs1 (by omega)
      have := ends_val ds ss (plusE p.1 s (d - 1), p.2) (H + 17592186044416) (fun x hx => hd x (by simp [hx])) (fun x hx => hs x (by simp [hx])) v2 h2 v3 (by simp only; omega) (by omega) (by omega)
      simp only at this
      rw [this.1, this.2.1, v1]
      exact ⟨by omega, by omega, this.2.2⟩
    · obtain ⟨v1, v2, v3⟩ := plus_val (x := p.2) (a := s) (b := d - 1) h2 b2 ⟨hH, by omega⟩ hs1 (by omega)
      have := ends_val ds ss (p.1, plusE p.2 s (d - 1)) (H + 17592186044416) (fun x hx => hd x (by simp [hx])) (fun x hx => hs x (by simp [hx])) h1 v2 (by simp only; omega) v3 (by omega) (by omega)
      simp only at this
      rw [this.1, this.2.1, v1]
      exact ⟨by omega, by omega, this.2.2⟩

/-- When a view is valid. -/
def vOk (n o : Int) (ds ss : List Int) : Prop := formed ds ss = true ∧ (0 ∈ ds ∨ (0 ≤ o + mn ds ss ∧ o + mx ds ss < n))
theorem formed_dims {ds ss : List Int} (h : formed ds ss = true) : ds.length ≤ 6 ∧ ss.length = ds.length ∧ ∀ d ∈ ds, 0 ≤ d ∧ d ≤ 4096 := by
  obtain ⟨h1, n, h2⟩ := formed_ok h
  have := dims_of h2
  exact ⟨this.1, h1.symm, this.2⟩
theorem vv_iff (n o : Int) (ds ss : List Int) (hn : i64 n) (ho : i64 o) (hs : ∀ s ∈ ss, i64 s) : vvE n o ds ss = true ↔ vOk n o ds ss := by
  unfold vvE vOk
  rw [Bool.and_eq_true]
  refine and_congr_right fun hf => ?_
  obtain ⟨h6, hl, hd⟩ := formed_dims hf
  rw [Bool.or_eq_true]
  have hz : ds.any (fun x => 0 == x) = true ↔ 0 ∈ ds := by simp
  rw [hz]
  by_cases h0 : (0 : Int) ∈ ds
  · simp [h0]
  simp only [h0, false_or]
  have hd1 : ∀ d ∈ ds, 1 ≤ d ∧ d ≤ 4096 := fun d hx => by
    have := hd d hx
    have : d ≠ 0 := fun h => h0 (h ▸ hx)
    omega
  have z1 : low (0, 0) := by simp [low]
  obtain ⟨a1, a2, a3⟩ := plus_val (x := (0, 0)) (a := o) (b := 1) (H := 0) z1 (by simp) (by omega) ho (by omega)
  obtain ⟨b1, b2, b3⟩ := plus_val (x := (0, 0)) (a := n) (b := 1) (H := 0) z1 (by simp) (by omega) hn (by omega)
  obtain ⟨c1, c2, c3, c4⟩ := ends_val ds ss (plusE (0, 0) o 1, plusE (0, 0) o 1) (0 + 17592186044416) hd1 hs a2 a2 a3 a3 (by omega) (by omega)
  rw [less_val c3 z1, less_val c4 b2, c1, c2, a1, b1]
  simp only [Bool.and_eq_true, Bool.not_eq_true', decide_eq_false_iff_not, decide_eq_true_eq]
  simp only [val]
  omega

/-! The reference's. -/
def rv (n : Int) : List Int → List Int → Int → Int → Bool
  | d :: ds, s :: ss, lo, hi => if W (d - 1) = 0 then rv n ds ss lo hi else if W ((W (W (n - 1) - hi)).tdiv (W (d - 1))) < s ∨ s < W (0 - W (lo.tdiv (W (d - 1)))) then false else if s < 0 then rv n ds ss (W (lo + W (W (d - 1) * s))) hi else rv n ds ss lo (W (hi + W (W (d - 1) * s)))
  | _, _, _, _ => true
def rvE (n o : Int) (ds ss : List Int) : Bool := formed ds ss && (decide ((sizeE ds).1 = 0) || (decide (0 ≤ o) && decide (o < n) && rv n ds ss o o))

theorem rv_iff (n : Int) (hn : 1 ≤ n ∧ n ≤ 9223372036854775807) : ∀ (ds ss : List Int) (lo hi : Int), (∀ d ∈ ds, 1 ≤ d ∧ d ≤ 4096) → 0 ≤ lo → lo ≤ n - 1 → 0 ≤ hi → hi ≤ n - 1 → (rv n ds ss lo hi = true ↔ 0 ≤ lo + mn ds ss ∧ hi + mx ds ss < n)
  | [], _, lo, hi, _, _, _, _, _ => by simp [rv, mn, mx]; omega
  | _ :: _, [], lo, hi, _, _, _, _, _ => by simp [rv, mn, mx]; omega
  | d :: ds, s :: ss, lo, hi, hd, h1, h2, h3, h4 => by
    have hd1 := hd d (by simp)
    have hd' : ∀ x ∈ ds, 1 ≤ x ∧ x ≤ 4096 := fun x hx => hd x (by simp [hx])
    have hw : W (d - 1) = d - 1 := wW (by omega) (by omega)
    have ih := rv_iff n hn ds ss
    have m1 := mn_le ds ss fun x hx => (hd' x hx).1
    have m2 := mx_ge ds ss fun x hx => (hd' x hx).1
    rw [rv, mn, mx, hw]
    by_cases he : d - 1 = 0
    · rw [if_pos he, he, ih lo hi hd' h1 h2 h3 h4]
      simp
    rw [if_neg he]
    have hep : 0 < d - 1 := by omega
    generalize d - 1 = e at *
    have t1 : (n - 1 - hi).tdiv e = (n - 1 - hi) / e := Int.tdiv_eq_ediv_of_nonneg (by omega)
    have t2 : lo.tdiv e = lo / e := Int.tdiv_eq_ediv_of_nonneg h1
    have q1 : 0 ≤ (n - 1 - hi) / e := Int.ediv_nonneg (by omega) (by omega)
    have q2 : (n - 1 - hi) / e ≤ n - 1 - hi := Int.ediv_le_self _ (by omega)
    have q3 : 0 ≤ lo / e := Int.ediv_nonneg h1 (by omega)
    have q4 : lo / e ≤ lo := Int.ediv_le_self _ h1
    have c1 : (n - 1 - hi) / e < s ↔ n - 1 - hi < s * e := Int.ediv_lt_iff_lt_mul hep
    have c2 : lo / e < -s ↔ lo < -s * e := Int.ediv_lt_iff_lt_mul hep
    rw [Int.neg_mul] at c2
    rw [wW (x := n - 1) (by omega) (by omega), wW (x := n - 1 - hi) (by omega) (by omega), t1, t2, wW (x := (n - 1 - hi) / e) (by omega) (by omega), wW (x := lo / e) (by omega) (by omega), wW (x := 0 - lo / e) (by omega) (by omega), Int.mul_comm e s]
    generalize (n - 1 - hi) / e = x at *
    generalize lo / e = y at *
    have sg : s < 0 → s * e < 0 := fun h => Int.mul_neg_of_neg_of_pos h hep
    have sg2 : ¬ s < 0 → 0 ≤ s * e := fun h => Int.mul_nonneg (by omega) (by omega)
    generalize s * e = p at *
    by_cases hs : s < 0
    · have := sg hs
      simp only [if_pos hs]
      split
      · rename_i h
        simp only [Bool.false_eq_true, false_iff]
        omega
      · rename_i h
        rw [wW (x := p) (by omega) (by omega), wW (x := lo + p) (by omega) (by omega), ih (lo + p) hi hd' (by omega) (by omega) h3 h4]
        omega
    · have := sg2 hs
      simp only [if_neg hs]
      split
      · rename_i h
        simp only [Bool.false_eq_true, false_iff]
        omega
      · rename_i h
        rw [wW (x := p) (by omega) (by omega), wW (x := hi + p) (by omega) (by omega), ih lo (hi + p) hd' h1 h2 (by omega) (by omega)]
        omega

theorem rv_step {n : Int} {ds ss : List Int} {k : Nat} {lo hi : Int} (h1 : k < ds.length) (h2 : k < ss.length) : rv n (ds.drop k) (ss.drop k) lo hi = if W (ds[k] - 1) = 0 then rv n (ds.drop (k + 1)) (ss.drop (k + 1)) lo hi else if W ((W (W (n - 1) - hi)).tdiv (W (ds[k] - 1))) < ss[k] ∨ ss[k] < W (0 - W (lo.tdiv (W (ds[k] - 1)))) then false else if ss[k] < 0 then rv n (ds.drop (k + 1)) (ss.drop (k + 1)) (W (lo + W (W (ds[k] - 1) * ss[k]))) hi else rv n (ds.drop (k + 1)) (ss.drop (k + 1)) lo (W (hi + W (W (ds[k] - 1) * ss[k]))) := by
  rw [List.drop_eq_getElem_cons h1, List.drop_eq_getElem_cons h2, rv]

theorem rvalid (n o : Int) (ds ss : List Int) (hd : ds.length ≤ 1000000) (hs : ss.length ≤ 1000000) : Meets Try.prog 17 [I n, vw o ds ss] (B (rvE n o ds ss)) := by
  have hf := refForm o ds ss hd hs
  have hz := refSize ds hd
  unfold rvE
  cases hq : formed ds ss with
  | false =>
    rw [hq, if_neg (by simp)] at hf
    refine meets_of (X := true) Ty.mixed Try.func17 (by kernel_rfl) rfl (by kernel_rfl) (by simp) ?_; rw [Try.ntmps17, Try.results17]
    simp only [awp_reg, awp_seq, seqQ_n, awpOps_nil, awpOps_one, awpOp_is, isCallV, callW_is, callV_is, putK_is, updK_is, put_s, upd_s, slot_is, pureOp, apureO, astepO, killT, aev, cv, cvc, elO_s, loadA_p, cellsA, cellOk, argT, Bool.false_eq_true, ↓reduceIte, List.getElem?_cons_zero, List.length_cons, List.length_nil, List.map_cons, List.map_nil, List.nil_append, List.append_nil, List.take_succ_cons, List.drop_zero, Bool.true_and, Bool.false_and, true_and, reduceCtorEq, Nat.reduceAdd, Nat.reduceEqDiff, Nat.zero_add, Nat.le_refl, List.take_nil, Ty.td24]
    refine call_meets (hf) (by simp only [aev, cv, cvc, toD_c, toD_agg, toD_sl, consO_some, toDL_nil, toDL_cons, Option.map_some, show ((1 : Int) != 0) = true from rfl] <;> rfl) ?_; simp only [awp_reg, awp_seq, awp_cond, awp_ret, seqQ_n, seqQ_r, awpOps_nil, awpOps_one, awpOp_is, putK_is, put_s, upd_s, slot_is, retA_is, pureOp, apureO, killT, aev, cv, cvc, binK, condA_t, flat_c, ownsV_c, ownsV_agg, ownsV_sl, ownsL_nil, ownsL_cons, toD_c, notExit, resA_nil, resA_tmp, oneA_1, ↓reduceIte, List.append_nil, Bool.and_self, Bool.or_true, and_self, List.isEmpty_nil, show ((1 : Int) != 0) = true from rfl]
  | true =>
  rw [hq, if_pos rfl] at hf
  have hl := (formed_ok hq).1
  generalize sizeE ds = z at *
  by_cases hz0 : z.1 = 0
  · rw [show decide (z.1 = 0) = true by simpa using hz0]
    refine meets_of (X := true) Ty.mixed Try.func17 (by kernel_rfl) rfl (by kernel_rfl) (by simp) ?_; rw [Try.ntmps17, Try.results17]
    simp only [awp_reg, awp_seq, seqQ_n, awpOps_nil, awpOps_one, awpOp_is, isCallV, callW_is, callV_is, putK_is, updK_is, put_s, upd_s, slot_is, pureOp, apureO, astepO, killT, aev, cv, cvc, elO_s, loadA_p, cellsA, cellOk, argT, Bool.false_eq_true, ↓reduceIte, List.getElem?_cons_zero, List.length_cons, List.length_nil, List.map_cons, List.map_nil, List.nil_append, List.append_nil, List.take_succ_cons, List.drop_zero, Bool.true_and, Bool.and_self, Bool.true_or, true_and, and_self, reduceCtorEq, Nat.reduceAdd, Nat.reduceEqDiff, Nat.zero_add, Nat.le_refl, List.take_nil, true_or, Ty.td24]
    refine call_meets (hf) (by simp only [aev, cv, cvc, toD_c, toD_agg, toD_sl, consO_some, toDL_nil, toDL_cons, Option.map_some] <;> rfl) ?_; simp only [awp_skip, awp_reg, awp_seq, awp_cond, seqQ_n, awpOps_nil, awpOps_one, awpOp_is, isCallV, callW_is, callV_is, putK_is, put_s, upd_s, slot_is, pureOp, apureO, killT, aev, cv, cvc, binK, elO_s, loadA_p, condA_f, flat_c, ownsV_c, ownsV_agg, ownsV_sl, ownsL_nil, ownsL_cons, Bool.false_eq_true, ↓reduceIte, List.getElem?_cons_zero, List.getElem?_cons_succ, List.length_cons, List.length_nil, List.map_cons, List.map_nil, List.append_nil, Bool.true_and, Bool.or_true, true_and, ne_eq, not_false_eq_true, reduceCtorEq, Nat.reduceAdd, Nat.reduceEqDiff, Nat.zero_add, List.isEmpty_nil, Ty.td22, Ty.td24, bne_self_eq_false]
    refine call_meets (hz) (by simp only [aev, cv, cvc, toD_sl, consO_some, toDL_nil, toDL_cons, show (z.1 == 0) = true by simpa using hz0] <;> rfl) ?_; simp only [awp_reg, awp_seq, awp_cond, awp_ret, seqQ_n, seqQ_r, awpOps_nil, awpOps_one, awpOp_is, putK_is, put_s, upd_s, slot_is, retA_is, pureOp, apureO, killT, aev, cv, cvc, binK, elO_s, condA_t, flat_c, flat_tup, flatL_nil, flatL_cons, ownsV_sl, ownsL_nil, ownsL_cons, toD_c, notExit, resA_nil, resA_tmp, oneA_1, ↓reduceIte, List.getElem?_cons_zero, List.getElem?_cons_succ, List.append_nil, Bool.and_self, Bool.or_true, and_self, Nat.reduceEqDiff, List.isEmpty_nil, show (z.1 == 0) = true by simpa using hz0]
  rw [show decide (z.1 = 0) = false by simpa using hz0]
  by_cases ho : o < 0
  · rw [show decide (0 ≤ o) = false by simpa using ho]
    refine meets_of (X := true) Ty.mixed Try.func17 (by kernel_rfl) rfl (by kernel_rfl) (by simp) ?_; rw [Try.ntmps17, Try.results17]
    simp only [awp_reg, awp_seq, seqQ_n, awpOps_nil, awpOps_one, awpOp_is, isCallV, callW_is, callV_is, putK_is, updK_is, put_s, upd_s, slot_is, pureOp, apureO, astepO, killT, aev, cv, cvc, elO_s, loadA_p, cellsA, cellOk, argT, Bool.false_eq_true, ↓reduceIte, List.getElem?_cons_zero, List.length_cons, List.length_nil, List.map_cons, List.map_nil, List.nil_append, List.append_nil, List.take_succ_cons, List.drop_zero, Bool.true_and, Bool.false_and, Bool.and_false, Bool.or_false, true_and, reduceCtorEq, Nat.reduceAdd, Nat.reduceEqDiff, Nat.zero_add, or_false, Nat.le_refl, List.take_nil, Ty.td24]
    refine call_meets (hf) (by simp only [aev, cv, cvc, toD_c, toD_agg, toD_sl, consO_some, toDL_nil, toDL_cons, Option.map_some] <;> rfl) ?_; simp only [awp_skip, awp_reg, awp_seq, awp_cond, seqQ_n, awpOps_nil, awpOps_one, awpOp_is, isCallV, callW_is, callV_is, putK_is, put_s, upd_s, slot_is, pureOp, apureO, killT, aev, cv, cvc, binK, elO_s, loadA_p, condA_f, flat_c, ownsV_c, ownsV_agg, ownsV_sl, ownsL_nil, ownsL_cons, Bool.false_eq_true, ↓reduceIte, List.getElem?_cons_zero, List.getElem?_cons_succ, List.length_cons, List.length_nil, List.map_cons, List.map_nil, List.append_nil, Bool.true_and, Bool.or_true, true_and, ne_eq, not_false_eq_true, reduceCtorEq, Nat.reduceAdd, Nat.reduceEqDiff, Nat.zero_add, List.isEmpty_nil, Ty.td22, Ty.td24, bne_self_eq_false]
    refine call_meets (hz) (by simp only [aev, cv, cvc, toD_sl, consO_some, toDL_nil, toDL_cons, show (z.1 == 0) = false by simpa using hz0, ho] <;> rfl) ?_; simp only [awp_skip, awp_reg, awp_seq, awp_cond, awp_ret, seqQ_n, seqQ_r, awpOps_nil, awpOps_one, awpOps_if, awpOp_is, putK_is, put_s, upd_s, slot_is, retA_is, pureOp, apureO, killT, aev, cv, cvc, binK, elO_s, loadA_p, yieldA, guardA_ft, condA_t, condA_f, pickA_t, flat_c, flat_tup, flatL_nil, flatL_cons, ownsV_sl, ownsL_nil, ownsL_cons, toD_c, notExit, resA_nil, resA_tmp, oneA_1, Bool.false_eq_true, ↓reduceIte, List.getElem?_cons_zero, List.getElem?_cons_succ, List.length_cons, List.length_nil, List.append_nil, List.getElem?_toArray, Option.bind_some, Bool.and_true, Bool.and_self, Bool.or_true, and_true, and_self, ne_eq, not_false_eq_true, reduceCtorEq, Nat.reduceAdd, Nat.reduceEqDiff, Nat.zero_add, List.isEmpty_nil, decide_true, Ty.td3, Ty.td24, show (z.1 == 0) = false by simpa using hz0, ho]
  rw [show decide (0 ≤ o) = true by simpa using ho]
  by_cases hon : n ≤ o
  · rw [show decide (o < n) = false by simpa using hon]
    refine meets_of (X := true) Ty.mixed Try.func17 (by kernel_rfl) rfl (by kernel_rfl) (by simp) ?_; rw [Try.ntmps17, Try.results17]
    simp only [awp_reg, awp_seq, seqQ_n, awpOps_nil, awpOps_one, awpOp_is, isCallV, callW_is, callV_is, putK_is, updK_is, put_s, upd_s, slot_is, pureOp, apureO, astepO, killT, aev, cv, cvc, elO_s, loadA_p, cellsA, cellOk, argT, Bool.false_eq_true, ↓reduceIte, List.getElem?_cons_zero, List.length_cons, List.length_nil, List.map_cons, List.map_nil, List.nil_append, List.append_nil, List.take_succ_cons, List.drop_zero, Bool.true_and, Bool.false_and, Bool.and_false, Bool.or_false, true_and, reduceCtorEq, Nat.reduceAdd, Nat.reduceEqDiff, Nat.zero_add, or_false, Nat.le_refl, List.take_nil, Ty.td24]
    refine call_meets (hf) (by simp only [aev, cv, cvc, toD_c, toD_agg, toD_sl, consO_some, toDL_nil, toDL_cons, Option.map_some] <;> rfl) ?_; simp only [awp_skip, awp_reg, awp_seq, awp_cond, seqQ_n, awpOps_nil, awpOps_one, awpOp_is, isCallV, callW_is, callV_is, putK_is, put_s, upd_s, slot_is, pureOp, apureO, killT, aev, cv, cvc, binK, elO_s, loadA_p, condA_f, flat_c, ownsV_c, ownsV_agg, ownsV_sl, ownsL_nil, ownsL_cons, Bool.false_eq_true, ↓reduceIte, List.getElem?_cons_zero, List.getElem?_cons_succ, List.length_cons, List.length_nil, List.map_cons, List.map_nil, List.append_nil, Bool.true_and, Bool.or_true, true_and, ne_eq, not_false_eq_true, reduceCtorEq, Nat.reduceAdd, Nat.reduceEqDiff, Nat.zero_add, List.isEmpty_nil, Ty.td22, Ty.td24, bne_self_eq_false]
    refine call_meets (hz) (by simp only [aev, cv, cvc, toD_sl, consO_some, toDL_nil, toDL_cons, show (z.1 == 0) = false by simpa using hz0, ho, hon] <;> rfl) ?_; simp only [awp_skip, awp_reg, awp_seq, awp_cond, awp_ret, seqQ_n, seqQ_r, awpOps_nil, awpOps_one, awpOps_if, awpOp_is, awpO_is, putK_is, put_s, upd_s, slot_is, retA_is, pureOp, apureO, killT, aev, cv, cvc, binK, elO_s, loadA_p, yieldA, guardA_ff, condA_t, condA_f, pickA_f, flat_c, flat_tup, flatL_nil, flatL_cons, ownsV_sl, ownsL_nil, ownsL_cons, toD_c, notExit, resA_nil, resA_tmp, oneA_1, Bool.false_eq_true, ↓reduceIte, List.getElem?_cons_zero, List.getElem?_cons_succ, List.length_cons, List.length_nil, List.append_nil, List.getElem?_toArray, Option.bind_some, Bool.and_true, Bool.and_self, Bool.or_true, and_true, and_self, ne_eq, not_false_eq_true, reduceCtorEq, Nat.reduceAdd, Nat.reduceEqDiff, Nat.zero_add, List.isEmpty_nil, decide_true, decide_false, Ty.td3, Ty.td24, show (z.1 == 0) = false by simpa using hz0, ho, hon]
  rw [show decide (o < n) = true by simpa using hon]
  simp only [Bool.true_and, Bool.false_or]
  refine meets_of (X := true) Ty.mixed Try.func17 (by kernel_rfl) rfl (by kernel_rfl) (by simp) ?_; rw [Try.ntmps17, Try.results17]
  simp only [awp_reg, awp_seq, seqQ_n, awpOps_nil, awpOps_one, awpOp_is, isCallV, callW_is, callV_is, putK_is, updK_is, put_s, upd_s, slot_is, pureOp, apureO, astepO, killT, aev, cv, cvc, elO_s, loadA_p, cellsA, cellOk, argT, Bool.false_eq_true, ↓reduceIte, List.getElem?_cons_zero, List.length_cons, List.length_nil, List.map_cons, List.map_nil, List.nil_append, List.append_nil, List.take_succ_cons, List.drop_zero, Bool.true_and, true_and, reduceCtorEq, Nat.reduceAdd, Nat.reduceEqDiff, Nat.zero_add, Nat.le_refl, List.take_nil, Ty.td24]
  refine call_meets (hf) (by simp only [aev, cv, cvc, toD_c, toD_agg, toD_sl, consO_some, toDL_nil, toDL_cons, Option.map_some] <;> rfl) ?_; simp only [awp_skip, awp_reg, awp_seq, awp_cond, seqQ_n, awpOps_nil, awpOps_one, awpOp_is, isCallV, callW_is, callV_is, putK_is, put_s, upd_s, slot_is, pureOp, apureO, killT, aev, cv, cvc, binK, elO_s, loadA_p, condA_f, flat_c, ownsV_c, ownsV_agg, ownsV_sl, ownsL_nil, ownsL_cons, Bool.false_eq_true, ↓reduceIte, List.getElem?_cons_zero, List.getElem?_cons_succ, List.length_cons, List.length_nil, List.map_cons, List.map_nil, List.append_nil, Bool.true_and, Bool.or_true, true_and, ne_eq, not_false_eq_true, reduceCtorEq, Nat.reduceAdd, Nat.reduceEqDiff, Nat.zero_add, List.isEmpty_nil, Ty.td22, Ty.td24, bne_self_eq_false]
  refine call_meets (hz) (by simp only [aev, cv, cvc, toD_sl, consO_some, toDL_nil, toDL_cons, show (z.1 == 0) = false by simpa using hz0, ho, hon] <;> rfl) ?_; simp only [awp_regX, awp_skip, awp_reg, awp_seq, awp_cond, seqQ_n, awpOps_nil, awpOps_one, awpOps_if, awpOp_is, awpO_is, putK_is, put_s, upd_s, slot_is, pureOp, apureO, killT, aev, cv, cvc, binK, elO_s, loadA_p, yieldA, guardA_ff, condA_f, pickA_f, flat_c, flat_tup, flatL_nil, flatL_cons, ownsV_sl, ownsL_nil, ownsL_cons, Bool.false_eq_true, ↓reduceIte, List.getElem?_cons_zero, List.getElem?_cons_succ, List.length_cons, List.length_nil, List.append_nil, List.getElem?_toArray, Option.bind_some, Bool.true_and, Bool.and_self, Bool.or_true, true_and, and_self, ne_eq, not_false_eq_true, reduceCtorEq, Nat.reduceAdd, Nat.reduceEqDiff, Nat.zero_add, List.isEmpty_nil, decide_false, Ty.td3, Ty.td24, show (z.1 == 0) = false by simpa using hz0, ho, hon]
  refine drawS_tail (by kernel_rfl) ?_; simp only [awp_reg, awp_seq, awp_block, awp_loop, seqQ_n, awpOps_nil, awpOps_one, awpOpsD_nil, awpOpsD_one, awpOp_is, awpOpD_is, putK_is, put_s, slot_is, keepOp, pureOp, apureO, aev, cv, cvc, elO_s, loadA_p, Bool.false_eq_true, ↓reduceIte, List.getElem?_cons_zero, List.length_cons, List.length_nil, Bool.true_and, true_and, ne_eq, not_false_eq_true, reduceCtorEq, Nat.reduceAdd, Nat.reduceEqDiff, Nat.zero_add, Ty.td3, Ty.td24]
  refine loop_k (fun x : Nat × Int × Int => x.1 ≤ ds.length ∧ rv n ds ss o o = rv n (ds.drop x.1) (ss.drop x.1) x.2.1 x.2.2) (fun x => ⟨98, [(9, I x.1), (7, I x.2.1), (8, I x.2.2), (3, .ptr 0 0), (0, I n)], [some (.var 24 [I o, ints ds, ints ss])]⟩) (fun x => ds.length - x.1) (0, o, o) ⟨Nat.zero_le _, rfl⟩ (by simp only [slot_is, aev, cv, cvc, Weak, ↓reduceIte, Bool.and_true, Bool.and_self, and_true, and_self, reduceCtorEq, Nat.reduceEqDiff]; simp) rfl rfl ?_
  rintro ⟨k, lo, hi⟩ ⟨hk, hi2⟩ K hK
  simp only at hk hi2 hK
  simp only [awp_reg, awp_seq, awp_cond, seqQ_n, awpOps_nil, awpOps_one, awpOp_is, putK_is, put_s, slot_is, pureOp, apureO, aev, cv, cvc, binK, elO_s, elO_none, lenA, lenK, loadA_p, Bool.false_eq_true, ↓reduceIte, List.getElem?_cons_zero, List.getElem?_cons_succ, List.length_cons, List.length_nil, Bool.true_and, true_and, ne_eq, not_false_eq_true, reduceCtorEq, Nat.reduceAdd, Nat.reduceEqDiff, Nat.zero_add, Option.isSome_some, Ty.td22, Ty.td24, List.length_map]
  refine condA_dec (fun hlt => ?_) (fun hge => ?_)
  · have hlt' : k < ds.length := by omega
    have hx : ds[k]? = some ds[k] := List.getElem?_eq_getElem hlt'
    have hx2 : ss[k]? = some ss[k] := List.getElem?_eq_getElem (by omega)
    rw [rv_step hlt' (by omega)] at hi2
    generalize ss[k] = s at *
    generalize ds[k] = d at *
    have hk1 : IntKind.i64.wrap ((k : Int) + 1) = (k : Int) + 1 := wrap_in (by omega) (by omega)
    simp only [W] at hi2
    obtain ⟨e, hew⟩ : ∃ e, IntKind.i64.wrap (d - 1) = e := ⟨_, rfl⟩
    rw [hew] at hi2
    by_cases he : e = 0
    · rw [if_pos he] at hi2
      simp only [awp_skip, awp_reg, awp_seq, awp_cond, awp_block, awp_exit, seqQ_n, seqQ_e, loopQ_n, blkQ_e, awpOps_nil, awpOps_one, awpOp_is, putK_is, put_s, slot_is, pureOp, apureO, aev, cv, cvc, binK, elO_s, loadA_d, loadA_p, condA_t, Int.natCast_nonneg, Bool.false_eq_true, ↓reduceIte, List.getElem?_cons_zero, List.getElem?_cons_succ, List.length_cons, List.length_nil, Option.map_some, Bool.true_and, true_and, ne_eq, not_false_eq_true, reduceCtorEq, Nat.reduceAdd, Nat.reduceEqDiff, Nat.zero_add, Int.toNat_natCast, Ty.td3, Ty.td22, Ty.td24, List.getElem?_map, hx, hx2, hew, show (e == 0) = true by simpa using he, hk1]
      refine hK (k + 1, lo, hi) _ ⟨hlt', hi2⟩ (by simp only; omega) ?_ rfl rfl
      simp only [slot_is, aev, cv, cvc, Weak, ↓reduceIte, Bool.and_true, Bool.and_self, and_true, and_self, reduceCtorEq, Nat.reduceEqDiff]
      simp
    rw [if_neg he] at hi2
    have he0 : (e == 0) = false := by simpa using he
    by_cases c1 : IntKind.i64.wrap ((IntKind.i64.wrap (IntKind.i64.wrap (n - 1) - hi)).tdiv e) < s
    · rw [if_pos (Or.inl c1)] at hi2
      simp only [awp_regX, awp_skip, awp_reg, awp_seq, awp_cond, awp_block, seqQ_n, awpOps_nil, awpOps_one, awpOp_is, putK_is, put_s, slot_is, pureOp, apureO, aev, cv, cvc, binK, elO_s, loadA_d, loadA_p, condA_f, Int.natCast_nonneg, Bool.false_eq_true, ↓reduceIte, List.getElem?_cons_zero, List.getElem?_cons_succ, List.length_cons, List.length_nil, Option.map_some, Bool.true_and, true_and, ne_eq, not_false_eq_true, reduceCtorEq, Nat.reduceAdd, Nat.reduceEqDiff, Nat.zero_add, Int.toNat_natCast, Ty.td3, Ty.td22, Ty.td24, List.getElem?_map, hx, hx2, hew, he, he0, hk1]
      refine drawS_tail (by kernel_rfl) ?_; simp only [awp_reg, awp_seq, awp_cond, awp_ret, seqQ_n, seqQ_r, loopQ_r, blkQ_r, awpOps_nil, awpOps_one, awpOpsD_nil, awpOpsD_one, awpOpsD_if, awpOp_is, awpOpD_is, putK_is, put_s, slot_is, retA_is, keepOp, pureOp, apureO, aev, cv, cvc, binK, elO_s, loadA_d, loadA_p, yieldA, guardA_ft, condA_t, pickA_t, toD_c, notExit, resA_nil, resA_tmp, oneA_1, Int.natCast_nonneg, Bool.false_eq_true, ↓reduceIte, List.getElem?_cons_zero, List.getElem?_cons_succ, List.length_cons, List.length_nil, List.getElem?_toArray, Option.bind_some, Option.map_some, Bool.true_and, true_and, ne_eq, not_false_eq_true, reduceCtorEq, Nat.reduceAdd, Nat.reduceEqDiff, Nat.zero_add, Int.toNat_natCast, decide_true, Ty.td3, Ty.td22, Ty.td24, List.getElem?_map, hx, hx2, hew, he, he0, hk1, c1]
      repeat refine ⟨by omega, ?_⟩
      rw [hi2]
    by_cases c2 : s < IntKind.i64.wrap (0 - IntKind.i64.wrap (lo.tdiv e))
    · rw [if_pos (Or.inr c2)] at hi2
      simp only [awp_regX, awp_skip, awp_reg, awp_seq, awp_cond, awp_block, seqQ_n, awpOps_nil, awpOps_one, awpOp_is, putK_is, put_s, slot_is, pureOp, apureO, aev, cv, cvc, binK, elO_s, loadA_d, loadA_p, condA_f, Int.natCast_nonneg, Bool.false_eq_true, ↓reduceIte, List.getElem?_cons_zero, List.getElem?_cons_succ, List.length_cons, List.length_nil, Option.map_some, Bool.true_and, true_and, ne_eq, not_false_eq_true, reduceCtorEq, Nat.reduceAdd, Nat.reduceEqDiff, Nat.zero_add, Int.toNat_natCast, Ty.td3, Ty.td22, Ty.td24, List.getElem?_map, hx, hx2, hew, he, he0, hk1]
      refine drawS_tail (by kernel_rfl) ?_; simp only [awp_reg, awp_seq, awp_cond, awp_ret, seqQ_n, seqQ_r, loopQ_r, blkQ_r, awpOps_nil, awpOps_one, awpOpsD_nil, awpOpsD_one, awpOpsD_if, awpOp_is, awpOpD_is, awpOD_is, putK_is, put_s, slot_is, retA_is, keepOp, pureOp, apureO, aev, cv, cvc, binK, elO_s, loadA_d, loadA_p, yieldA, guardA_ff, condA_t, pickA_f, toD_c, notExit, resA_nil, resA_tmp, oneA_1, Int.natCast_nonneg, Bool.false_eq_true, ↓reduceIte, List.getElem?_cons_zero, List.getElem?_cons_succ, List.length_cons, List.length_nil, List.getElem?_toArray, Option.bind_some, Option.map_some, Bool.true_and, true_and, ne_eq, not_false_eq_true, reduceCtorEq, Nat.reduceAdd, Nat.reduceEqDiff, Nat.zero_add, Int.toNat_natCast, decide_true, decide_false, Ty.td3, Ty.td22, Ty.td24, List.getElem?_map, hx, hx2, hew, he, he0, hk1, c1, c2]
      repeat refine ⟨by omega, ?_⟩
      rw [hi2]
    rw [if_neg (by omega)] at hi2
    by_cases hs0 : s < 0
    · rw [if_pos hs0] at hi2
      simp only [awp_regX, awp_skip, awp_reg, awp_seq, awp_cond, awp_block, seqQ_n, awpOps_nil, awpOps_one, awpOp_is, putK_is, put_s, slot_is, pureOp, apureO, aev, cv, cvc, binK, elO_s, loadA_d, loadA_p, condA_f, Int.natCast_nonneg, Bool.false_eq_true, ↓reduceIte, List.getElem?_cons_zero, List.getElem?_cons_succ, List.length_cons, List.length_nil, Option.map_some, Bool.true_and, true_and, ne_eq, not_false_eq_true, reduceCtorEq, Nat.reduceAdd, Nat.reduceEqDiff, Nat.zero_add, Int.toNat_natCast, Ty.td3, Ty.td22, Ty.td24, List.getElem?_map, hx, hx2, hew, he, he0, hk1]
      refine drawS_tail (by kernel_rfl) ?_; simp only [awp_skip, awp_reg, awp_seq, awp_cond, seqQ_n, loopQ_n, blkQ_n, awpOps_nil, awpOps_one, awpOpsD_nil, awpOpsD_one, awpOpsD_if, awpOp_is, awpOpD_is, awpOD_is, putK_is, put_s, slot_is, keepOp, pureOp, apureO, aev, cv, cvc, binK, elO_s, loadA_d, loadA_p, yieldA, guardA_ff, condA_t, condA_f, pickA_f, Int.natCast_nonneg, Bool.false_eq_true, ↓reduceIte, List.getElem?_cons_zero, List.getElem?_cons_succ, List.length_cons, List.length_nil, List.getElem?_toArray, Option.bind_some, Option.map_some, Bool.true_and, true_and, ne_eq, not_false_eq_true, reduceCtorEq, Nat.reduceAdd, Nat.reduceEqDiff, Nat.zero_add, Int.toNat_natCast, decide_true, decide_false, Ty.td3, Ty.td22, Ty.td24, List.getElem?_map, hx, hx2, hew, he, he0, hk1, c1, c2, hs0]
      repeat refine ⟨by omega, ?_⟩
      refine hK (k + 1, IntKind.i64.wrap (lo + IntKind.i64.wrap (e * s)), hi) _ ⟨hlt', hi2⟩ (by simp only; omega) ?_ rfl rfl
      simp only [slot_is, aev, cv, cvc, Weak, ↓reduceIte, Bool.and_true, Bool.and_self, and_true, and_self, reduceCtorEq, Nat.reduceEqDiff]
      simp
    · rw [if_neg hs0] at hi2
      simp only [awp_regX, awp_skip, awp_reg, awp_seq, awp_cond, awp_block, seqQ_n, awpOps_nil, awpOps_one, awpOp_is, putK_is, put_s, slot_is, pureOp, apureO, aev, cv, cvc, binK, elO_s, loadA_d, loadA_p, condA_f, Int.natCast_nonneg, Bool.false_eq_true, ↓reduceIte, List.getElem?_cons_zero, List.getElem?_cons_succ, List.length_cons, List.length_nil, Option.map_some, Bool.true_and, true_and, ne_eq, not_false_eq_true, reduceCtorEq, Nat.reduceAdd, Nat.reduceEqDiff, Nat.zero_add, Int.toNat_natCast, Ty.td3, Ty.td22, Ty.td24, List.getElem?_map, hx, hx2, hew, he, he0, hk1]
      refine drawS_tail (by kernel_rfl) ?_; simp only [awp_skip, awp_reg, awp_seq, awp_cond, seqQ_n, loopQ_n, blkQ_n, awpOps_nil, awpOps_one, awpOpsD_nil, awpOpsD_one, awpOpsD_if, awpOp_is, awpOpD_is, awpOD_is, putK_is, put_s, slot_is, keepOp, pureOp, apureO, aev, cv, cvc, binK, elO_s, loadA_d, loadA_p, yieldA, guardA_ff, condA_f, pickA_f, Int.natCast_nonneg, Bool.false_eq_true, ↓reduceIte, List.getElem?_cons_zero, List.getElem?_cons_succ, List.length_cons, List.length_nil, List.getElem?_toArray, Option.bind_some, Option.map_some, Bool.true_and, true_and, ne_eq, not_false_eq_true, reduceCtorEq, Nat.reduceAdd, Nat.reduceEqDiff, Nat.zero_add, Int.toNat_natCast, decide_false, Ty.td3, Ty.td22, Ty.td24, List.getElem?_map, hx, hx2, hew, he, he0, hk1, c1, c2, hs0]
      repeat refine ⟨by omega, ?_⟩
      refine hK (k + 1, lo, IntKind.i64.wrap (hi + IntKind.i64.wrap (e * s))) _ ⟨hlt', hi2⟩ (by simp only; omega) ?_ rfl rfl
      simp only [slot_is, aev, cv, cvc, Weak, ↓reduceIte, Bool.and_true, Bool.and_self, and_true, and_self, reduceCtorEq, Nat.reduceEqDiff]
      simp
  · have hk' : k = ds.length := by omega
    subst hk'
    have h0 : rv n (ds.drop ds.length) (ss.drop ds.length) lo hi = true := by rw [List.drop_length, rv]; simp
    rw [h0] at hi2
    simp only [awp_reg, awp_seq, awp_exit, awp_ret, seqQ_n, seqQ_e, loopQ_e, blkQ_e, awpOps_nil, awpOps_one, awpOp_is, putK_is, put_s, slot_is, retA_is, pureOp, apureO, aev, cv, cvc, toD_c, notExit, resA_nil, resA_tmp, oneA_1, ↓reduceIte, Bool.true_and, true_and]
    rw [hi2]
end Go.Proofs.Ytimagnkdgpfamaa.V11
