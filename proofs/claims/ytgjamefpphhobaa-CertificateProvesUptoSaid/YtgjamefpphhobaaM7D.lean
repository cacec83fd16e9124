/- Greatest common divisors, quotients, and cuts. -/
import Derived.Test.YtgjamefpphhobaaM7C
namespace Go.Proofs.Ytgjamefpphhobaa.M7D
open Go Go.Proofs.Ytgjamefpphhobaa.Eng Go.Proofs.Ytgjamefpphhobaa Go.RowKit Go.Proofs.Ytgjamefpphhobaa.LM Go.Proofs.Ytgjamefpphhobaa.PK Go.Proofs.Ytgjamefpphhobaa.D7P Go.Proofs.Ytgjamefpphhobaa.D7R Go.Proofs.Ytgjamefpphhobaa.M7A Go.Proofs.Ytgjamefpphhobaa.M7B Go.Proofs.Ytgjamefpphhobaa.M7C
set_option linter.unusedSimpArgs false
set_option linter.unusedVariables false
set_option linter.unusedSectionVars false
set_option maxRecDepth 100000

/-- What the functions of integers take. -/
def inR (n : Int) : Prop := -4611686018427387904 ≤ n ∧ n ≤ 4611686018427387904
theorem within_is (l : List Int) (hl : l.length ≤ 1000000) (h : ∀ n ∈ l, inR n) : intmath_within l = some true := by
  unfold intmath_within
  rw [forC_all (s := ()) (r := false) (by omega) (fun n => decide (-4611686018427387904 ≤ n) && decide (n ≤ 4611686018427387904)) (fun k x hx => ?_)]
  · rw [if_pos]
    · rfl
    · rw [List.all_eq_true]
      intro n hn
      obtain ⟨h1, h2⟩ := h n hn
      simp [h1, h2]
  · simp only [hx, bind_s]
    by_cases h1 : x < -4611686018427387904
    · rw [if_pos (decide_eq_true h1), if_neg]
      simp; omega
    · rw [if_neg (by simpa using h1)]
      by_cases h2 : 4611686018427387904 < x
      · rw [if_pos (decide_eq_true h2), if_neg]
        simp; omega
      · rw [if_neg (by simpa using h2), if_pos]
        simp; omega
theorem abs_is {n : Int} (h : inR n) : intmath_abs n = some (n.natAbs : Int) := by
  obtain ⟨h1, h2⟩ := h
  unfold intmath_abs intmath_sign
  by_cases c1 : n < 0
  · rw [if_pos (decide_eq_true c1), bind_s, wrap_in (by omega) (by omega)]
    congr 1; omega
  · rw [if_neg (by simpa using c1)]
    by_cases c2 : 0 < n
    · rw [if_pos (decide_eq_true c2), bind_s, wrap_in (by omega) (by omega)]
      congr 1; omega
    · rw [if_neg (by simpa using c2), bind_s, wrap_in (by omega) (by omega)]
      congr 1; omega
theorem gcd_step (a b : Int) : Nat.gcd b.natAbs (a.tmod b).natAbs = Nat.gcd a.natAbs b.natAbs := by
  rw [Int.natAbs_tmod, Nat.gcd_comm, ← Nat.gcd_rec, Nat.gcd_comm]
theorem tmod_lt (a : Int) {b : Int} (h : b ≠ 0) : (a.tmod b).natAbs < b.natAbs := by
  rw [Int.natAbs_tmod]
  exact Nat.mod_lt _ (by omega)
theorem gcd_is {a b : Int} (ha : inR a) (hb : inR b) : intmath_gcd a b = some (Nat.gcd a.natAbs b.natAbs : Int) := by
  unfold intmath_gcd
  obtain ⟨⟨x, y⟩, h1, h2, h3, h4⟩ := whlC_inv (R := Int) (s := (a, b)) (f := fun s712 : Int × Int =>
  if (s712.2 != (0 : Int)) then
    iffO (decide (s712.2 ≠ 0))
      (some (.nx (s712.2, (s712.1.tmod s712.2))))
  else
    some (.br (s712.1, s712.2))) (fun s => inR s.1 ∧ inR s.2 ∧ Nat.gcd s.1.natAbs s.2.natAbs = Nat.gcd a.natAbs b.natAbs) (fun s => inR s.1 ∧ s.2 = 0 ∧ s.1.natAbs = Nat.gcd a.natAbs b.natAbs) (fun s => s.2.natAbs) ⟨ha, hb, rfl⟩ (by obtain ⟨_, _⟩ := hb; simp only; omega) (by
    rintro ⟨x, y⟩ ⟨h1, h2, h3⟩
    simp only at h1 h2 h3 ⊢
    by_cases h0 : y = 0
    · right
      subst h0
      exact ⟨_, rfl, h1, rfl, by simpa using h3⟩
    · left
      rw [if_pos (by simpa using h0), iffO_d h0]
      have := tmod_lt x h0
      refine ⟨_, rfl, ⟨h2, ?_, ?_⟩, this⟩
      · obtain ⟨_, _⟩ := h2
        constructor <;> simp only <;> omega
      · rw [← h3]; exact gcd_step x y)
  simp only at h2 h3 h4
  rw [h1, bind_s, elim_l]
  simp only
  rw [abs_is h2, bind_s, h4]
theorem inR0 : inR 0 := ⟨by omega, by omega⟩
theorem gcd_inR {a b : Int} (ha : inR a) (hb : inR b) : inR (Nat.gcd a.natAbs b.natAbs : Int) := by
  have h1 : Nat.gcd a.natAbs b.natAbs ≤ 4611686018427387904 := by
    by_cases h0 : a = 0
    · subst h0; rw [Int.natAbs_zero, Nat.gcd_zero_left]; obtain ⟨_, _⟩ := hb; omega
    · refine Nat.le_trans (Nat.gcd_le_left _ (by omega)) ?_
      obtain ⟨_, _⟩ := ha; omega
  constructor <;> omega
theorem p_gcd {a b : Int} (ha : inR a) (hb : inR b) : intmath_Gcd a b = some ((Nat.gcd a.natAbs b.natAbs : Int), 0) := by
  unfold intmath_Gcd intmath_Gcds
  rw [within_is _ (by simp) (by
    intro n hn
    rcases List.mem_cons.1 hn with rfl | hn
    · exact ha
    · rcases List.mem_cons.1 hn with rfl | hn
      · exact hb
      · cases hn), bind_s, if_pos rfl]
  have e1 : Nat.gcd 0 a.natAbs = a.natAbs := Nat.gcd_zero_left _
  have e2 : intmath_gcd 0 a = some (a.natAbs : Int) := by rw [gcd_is inR0 ha, Int.natAbs_zero, e1]
  have e3 : intmath_gcd (a.natAbs : Int) b = some (Nat.gcd a.natAbs b.natAbs : Int) := by
    rw [gcd_is (by obtain ⟨_, _⟩ := ha; constructor <;> omega) hb, Int.natAbs_natCast]
  rw [show [a, b].length = 2 from rfl, forC, if_pos (by omega)]
  simp only [forI, List.getElem?_cons_zero, List.getElem?_cons_succ, bind_s, e2, St.on, e3, elim_l]
theorem r_gcd {a b : Int} (ha : inR a) (hb : inR b) : ref03_Gcd a b = some ((Nat.gcd a.natAbs b.natAbs : Int), 0) := by
  have rabs : ∀ {n : Int}, inR n → ref03_abs n = some (n.natAbs : Int) := by
    rintro n ⟨h1, h2⟩
    unfold ref03_abs
    by_cases c1 : n < 0
    · rw [if_pos (decide_eq_true c1), wrap_in (by omega) (by omega)]; congr 1; omega
    · rw [if_neg (by simpa using c1)]; congr 1; omega
  have rin : ∀ {n : Int}, inR n → ref03_In n = some true := by
    rintro n ⟨h1, h2⟩
    unfold ref03_In
    rw [if_pos (decide_eq_true h1), decide_eq_true h2]
  unfold ref03_Gcd
  simp only [rin ha, rin hb, bind_s, if_true, rabs ha, rabs hb]
  obtain ⟨⟨x, y⟩, h1, h2, h3⟩ := whlC_inv (R := Int × Int) (s := ((a.natAbs : Int), (b.natAbs : Int))) (f := fun s2203 : Int × Int =>
      if (decide ((0 : Int) < s2203.2)) then
        iffO (decide (s2203.2 ≠ 0))
          (some (.nx (s2203.2, (s2203.1.tmod s2203.2))))
      else
        some (.br (s2203.1, s2203.2))) (fun s => 0 ≤ s.1 ∧ 0 ≤ s.2 ∧ s.2 ≤ 4611686018427387904 ∧ Nat.gcd s.1.natAbs s.2.natAbs = Nat.gcd a.natAbs b.natAbs) (fun s => 0 ≤ s.1 ∧ s.1.natAbs = Nat.gcd a.natAbs b.natAbs) (fun s => s.2.natAbs) ⟨by simp, by simp, by obtain ⟨_, _⟩ := hb; simp only; omega, by simp⟩ (by obtain ⟨_, _⟩ := hb; simp only; omega) (by
    rintro ⟨x, y⟩ ⟨h1, h2, h3, h4⟩
    simp only at h1 h2 h3 h4 ⊢
    by_cases h0 : 0 < y
    · left
      rw [if_pos (decide_eq_true h0), iffO_d (by omega)]
      have := tmod_lt x (show y ≠ 0 by omega)
      have h5 := Int.tmod_nonneg y h1
      refine ⟨_, rfl, ⟨h2, h5, by simp only; omega, ?_⟩, this⟩
      rw [← h4]; exact gcd_step x y
    · right
      rw [if_neg (by simpa using h0)]
      obtain rfl : y = 0 := by omega
      exact ⟨_, rfl, h1, by simpa using h4⟩)
  simp only at h2 h3
  rw [h1, bind_s, elim_l]
  simp only
  congr 2; omega

/-! Quotients. -/
theorem fl_is {a b : Int} (hb : 0 < b) : a / b = if a.tmod b < 0 then a.tdiv b - 1 else a.tdiv b := by
  have h1 := Int.mul_tdiv_add_tmod a b
  have h2 := Int.tmod_lt_of_pos a hb
  have h3 := Int.lt_tmod_of_pos a hb
  split
  · refine ((Int.ediv_emod_unique (r := a.tmod b + b) hb).2 ⟨?_, by omega, by omega⟩).1
    rw [Int.mul_sub, Int.mul_one]; omega
  · exact ((Int.ediv_emod_unique (r := a.tmod b) hb).2 ⟨by omega, by omega, by omega⟩).1
theorem tmod_sign {a b : Int} (hb : 0 < b) : (a < 0 → a.tmod b ≤ 0) ∧ (0 ≤ a → 0 ≤ a.tmod b) := by
  refine ⟨fun h => ?_, fun h => Int.tmod_nonneg b h⟩
  have h1 := Int.tmod_nonneg (a := -a) b (by omega)
  rw [Int.neg_tmod] at h1
  omega
theorem tdiv_b {a b : Int} (ha : inR a) (hb : 0 < b) : -4611686018427387904 ≤ a.tdiv b ∧ a.tdiv b ≤ 4611686018427387904 := by
  have h1 : (a.tdiv b).natAbs ≤ a.natAbs := by rw [Int.natAbs_tdiv]; exact Nat.div_le_self _ _
  obtain ⟨_, _⟩ := ha
  omega
theorem p_div {a b : Int} (ha : inR a) (hb : 0 < b) (hb' : inR b) : intmath_Div a b = some (a / b, 0) := by
  unfold intmath_Div intmath_divide
  rw [within_is _ (by simp) (by
    intro n hn
    rcases List.mem_cons.1 hn with rfl | hn
    · exact ha
    · rcases List.mem_cons.1 hn with rfl | hn
      · exact hb'
      · cases hn), bind_s, if_pos rfl]
  obtain ⟨d1, d2⟩ := tdiv_b ha hb
  have hm := tmod_sign (a := a) hb
  rw [fl_is hb, if_neg (by simp; omega), iffO_d (by omega), iffO_d (by omega)]
  have s1 : intmath_sign b = some 1 := by unfold intmath_sign; rw [if_neg (by simp; omega), if_pos (decide_eq_true hb)]
  have w0 : IntKind.i64.wrap (a.tdiv b) = a.tdiv b := wrap_in (by omega) (by omega)
  have w1 : IntKind.i64.wrap (a.tdiv b - 1) = a.tdiv b - 1 := wrap_in (by omega) (by omega)
  rw [w0, w1]
  by_cases c1 : a.tmod b < 0
  · rw [show intmath_sign (a.tmod b) = some (-1) from by unfold intmath_sign; rw [if_pos (decide_eq_true c1)], bind_s, s1, bind_s]
    rw [if_neg (by decide), if_pos (by decide), bind_s, if_pos c1]
  · rw [if_neg c1]
    by_cases c2 : 0 < a.tmod b
    · rw [show intmath_sign (a.tmod b) = some 1 from by unfold intmath_sign; rw [if_neg (by simpa using c1), if_pos (decide_eq_true c2)], bind_s, s1, bind_s]
      rw [if_pos (by decide), bind_s]
    · rw [show intmath_sign (a.tmod b) = some 0 from by unfold intmath_sign; rw [if_neg (by simpa using c1), if_neg (by simpa using c2)], bind_s, s1, bind_s]
      rw [if_neg (by decide), if_neg (by decide), bind_s]
theorem r_div {a b : Int} (ha : inR a) (hb : 0 < b) (hb' : inR b) : ref03_Div a b = some (a / b, 0) := by
  have rin : ∀ {n : Int}, inR n → ref03_In n = some true := by
    rintro n ⟨h1, h2⟩
    unfold ref03_In
    rw [if_pos (decide_eq_true h1), decide_eq_true h2]
  obtain ⟨d1, d2⟩ := tdiv_b ha hb
  have hm := tmod_sign (a := a) hb
  have w0 : IntKind.i64.wrap (a.tdiv b) = a.tdiv b := wrap_in (by omega) (by omega)
  have w1 : IntKind.i64.wrap (a.tdiv b - 1) = a.tdiv b - 1 := wrap_in (by omega) (by omega)
  unfold ref03_Div
  simp only [rin ha, rin hb', bind_s, if_true]
  rw [fl_is hb, if_neg (by simp; omega), iffO_d (by omega), iffO_d (by omega), w0, w1]
  by_cases c1 : a < 0
  · have := hm.1 c1
    by_cases c2 : a.tmod b = 0
    · rw [if_neg (by simpa using c2), if_neg (by omega)]
    · rw [if_pos (by simpa using c2), if_neg (by rw [decide_eq_true c1, decide_eq_false (by omega)]; decide), if_pos (by omega)]
  · have := hm.2 (by omega)
    rw [if_neg (c := a.tmod b < 0) (by omega)]
    by_cases c2 : a.tmod b = 0
    · rw [if_neg (by simpa using c2)]
    · rw [if_pos (by simpa using c2), if_pos (by rw [decide_eq_false c1, decide_eq_false (by omega)]; rfl)]

/-! The greatest common divisor of coefficients. -/
def gF (g : Int) (t : Tm) : Int := (Nat.gcd g.natAbs t.2.natAbs : Nat)
def gE (l : List Tm) : Int := l.foldl gF 0
def smallT (l : List Tm) : Prop := ∀ t ∈ l, inR t.2
theorem gF_inR {g : Int} {t : Tm} (hg : inR g) (ht : inR t.2) : inR (gF g t) := gcd_inR hg ht
theorem gE_gen : ∀ (l : List Tm) (g : Int), 0 ≤ g → inR g → smallT l → 0 ≤ l.foldl gF g ∧ inR (l.foldl gF g) ∧ l.foldl gF g ∣ g ∧ ∀ t ∈ l, l.foldl gF g ∣ t.2
  | [], g, h, hr, _ => ⟨h, hr, Int.dvd_refl _, by simp⟩
  | t :: r, g, h, hr, hs => by
    obtain ⟨h1, h2, h3, h4⟩ := gE_gen r (gF g t) (Int.natCast_nonneg _) (gF_inR hr (hs t (by simp))) fun u hu => hs u (by simp [hu])
    have d1 : gF g t ∣ g := Int.ofNat_dvd_left.2 (Nat.gcd_dvd_left _ _)
    have d2 : gF g t ∣ t.2 := Int.ofNat_dvd_left.2 (Nat.gcd_dvd_right _ _)
    refine ⟨h1, h2, Int.dvd_trans h3 d1, fun u hu => ?_⟩
    rcases List.mem_cons.1 hu with rfl | hu
    · exact Int.dvd_trans h3 d2
    · exact h4 u hu
theorem gE_pos {l : List Tm} (hs : smallT l) (h0 : l ≠ []) (hz : ∀ t ∈ l, t.2 ≠ 0) : 0 < gE l ∧ inR (gE l) ∧ ∀ t ∈ l, gE l ∣ t.2 := by
  obtain ⟨h1, h2, _, h4⟩ := gE_gen l 0 (by omega) inR0 hs
  refine ⟨?_, h2, h4⟩
  obtain ⟨t, ht⟩ := List.exists_mem_of_ne_nil l h0
  have := hz t ht
  rcases Int.lt_or_eq_of_le h1 with h | h
  · exact h
  · have h5 := h4 t ht
    rw [← h] at h5
    exact absurd (Int.zero_dvd.1 h5) this

/-! Cuts. -/
def divT (g : Int) (l : List Tm) : List Tm := l.map fun t => (t.1, t.2 / g)
def cutR (l : Int × List Tm) : (Int × List Tm) × Int :=
  if validE (l.1 / gE l.2) (divT (gE l.2) l.2) = true then ((l.1 / gE l.2, divT (gE l.2) l.2), 0) else ((0, []), 3)
def cutE (fs : List Fc) (ms : List Int) : (Int × List Tm) × Int :=
  if ms.length = fs.length ∧ oks fs ms = true then
    if (comb fs ms (0, [])).2 = [] then ((0, []), 18) else cutR (comb fs ms (0, []))
  else ((0, []), 18)

theorem sorted_aget : ∀ {l : List Tm}, sortedT l → ∀ t ∈ l, aget t.1 l = t.2
  | [], _, t, ht => by cases ht
  | u :: r, ⟨h1, h2, h3⟩, t, ht => by
    rw [aget]
    rcases List.mem_cons.1 ht with rfl | ht
    · rw [if_pos rfl]
    · have hl := h1 t ht
      rw [if_neg (fun e => ltB_irr _ (by rw [e] at hl; exact hl))]
      exact sorted_aget h3 t ht
theorem sorted_nz : ∀ {l : List Tm}, sortedT l → ∀ t ∈ l, t.2 ≠ 0
  | [], _, t, ht => by cases ht
  | u :: r, ⟨h1, h2, h3⟩, t, ht => by
    rcases List.mem_cons.1 ht with rfl | ht
    · exact h2
    · exact sorted_nz h3 t ht
theorem comb_all {P : ByteArray → Prop} : ∀ (fs : List Fc) (ms : List Int) {l : Int × List Tm}, (∀ f ∈ fs, ∀ u ∈ f.2.2, P u.1) → (∀ u ∈ l.2, P u.1) → ∀ u ∈ (comb fs ms l).2, P u.1
  | [], ms, l, _, h => by cases ms <;> exact h
  | f :: fs, [], l, _, h => h
  | f :: fs, m :: ms, l, hf, h => by
    rw [comb]
    refine comb_all fs ms (fun g hg => hf g (by simp [hg])) ?_
    split
    · exact h
    · exact times_all m f.2.2 h (hf f (by simp))
theorem comb_len : ∀ (fs : List Fc) (ms : List Int) {l : Int × List Tm}, (∀ f ∈ fs, f.2.2.length ≤ 12) → (comb fs ms l).2.length ≤ l.2.length + 12 * fs.length
  | [], ms, l, _ => by cases ms <;> simp [comb]
  | f :: fs, [], l, _ => by simp [comb]
  | f :: fs, m :: ms, l, hf => by
    rw [comb, List.length_cons]
    have h1 := comb_len fs ms (l := if m = 0 then l else timesE l f.2 m) fun g hg => hf g (by simp [hg])
    have h2 : (if m = 0 then l else timesE l f.2 m).2.length ≤ l.2.length + 12 := by
      split
      · omega
      · have := timesT_len m f.2.2 l.2
        have := hf f (by simp)
        show (timesT m f.2.2 l.2).length ≤ _
        omega
    omega
/-- What is known of a combination. -/
structure CombOk (l : Int × List Tm) : Prop where
  c : inR l.1
  s : sortedT l.2
  b : smallT l.2
  n : ∀ u ∈ l.2, u.1.size ≤ 30
  l : l.2.length ≤ 4000
theorem comb_ok {fs : List Fc} {ms : List Int} (hv : valids fs) (hl : fs.length ≤ 300) (ho : oks fs ms = true) : CombOk (comb fs ms (0, [])) := by
  obtain ⟨i, hi, g⟩ := good_acc fs ms good_0 (by omega) hv ho
  obtain ⟨_, _, c1, c2⟩ := g.c
  refine ⟨?_, g.ls, fun t ht => ?_, fun u hu => ?_, ?_⟩
  · rw [g.lc]; constructor <;> omega
  · have h1 := sorted_aget g.ls t ht
    rw [g.lg] at h1
    obtain ⟨b1, b2⟩ := aget_nrm (B := 1000000000000000 * (i : Int)) (by omega) _ g.nr t.1
    rw [h1] at b1 b2
    constructor <;> omega
  · exact comb_all (P := fun v => v.size ≤ 30) fs ms (fun f hf u hu => LM.name_size ((valid_parts (hv f hf)).2.2.2 u hu).2) (by simp) u hu
  · have := comb_len fs ms (l := (0, [])) fun f hf => (valid_parts (hv f hf)).2.1
    simp only [List.length_nil] at this
    omega
theorem divT_small {l : Int × List Tm} (h : CombOk l) (g : Int) : names (divT g l.2) := by
  refine ⟨by unfold divT; rw [List.length_map]; have := h.l; omega, fun t ht => ?_⟩
  obtain ⟨u, hu, rfl⟩ := List.mem_map.1 ht
  have := h.n u hu
  simp only
  omega
theorem quot {t : Tm} {g : Int} (hg : 0 < g) (ht : inR t.2) (hd : g ∣ t.2) : IntKind.i64.wrap (t.2.tdiv g) = t.2 / g := by
  obtain ⟨d1, d2⟩ := tdiv_b ht hg
  rw [wrap_in (by omega) (by omega), Int.tdiv_eq_ediv_of_dvd hd]
theorem p_cut {fs : List Fc} (ms : List Int) (hv : valids fs) (hl : fs.length ≤ 300) : certificate_cut fs ms = some (cutE fs ms) := by
  unfold certificate_cut cutE
  rw [p_combine fs ms hv hl, bind_s]
  by_cases hc : ms.length = fs.length ∧ oks fs ms = true
  · rw [if_pos hc, if_pos hc]
    have K := comb_ok hv hl hc.2
    generalize comb fs ms (0, []) = l at K ⊢
    obtain ⟨c, ts⟩ := l
    have Kc : inR c := K.c
    have Kb : smallT ts := K.b
    have Ks : sortedT ts := K.s
    have kl : ts.length ≤ 4000 := K.l
    simp only
    rw [if_neg (by simp)]
    by_cases hn : ts = []
    · subst hn; rfl
    · rw [if_neg (by simp; exact hn), if_neg hn]
      obtain ⟨g1, g2, g3⟩ := gE_pos Kb hn (sorted_nz Ks)
      rw [forC_fold (xs := ts) (s := (0 : Int)) (by omega) gF inR inR0 (fun k s x hx hi => by simp only [hx, bind_s, p_gcd hi (Kb x (List.mem_of_getElem? hx))]; rfl) (fun s x hx hi => gF_inR hi (Kb x hx)), bind_s, elim_l]
      rw [show ts.foldl gF 0 = gE ts from rfl, p_div Kc g1 g2, bind_s]
      obtain ⟨o, h1, h2⟩ := forC_inv (R := (Int × (List (ByteArray × Int))) × Int) (n := ts.length) (s := ([] : List Tm)) (f := fun (k838 : Nat) (s837 : List Tm) =>
        (ts[k838]?).bind fun x846 =>
        iffO (decide (gE ts ≠ 0))
          (iffO (decide ((s837.length + 1) * 24 ≤ 140737488355328))
            (some (.nx (s837 ++ [(x846.1, (IntKind.i64.wrap (x846.2.tdiv (gE ts))))]))))) (by omega) (fun k s => s = divT (gE ts) (ts.take k)) rfl (by
        rintro k s hk rfl
        obtain ⟨t, ht, hd⟩ := drop_some hk
        have hm := List.mem_of_getElem? ht
        refine ⟨_, ?_, rfl⟩
        simp only [ht, bind_s]
        rw [iffO_d (by omega), iffO_d (by unfold divT; rw [List.length_map, List.length_take]; omega), quot g1 (Kb t hm) (g3 t hm)]
        rw [List.take_add_one, ht]
        simp [divT])
      rw [h1, bind_s, elim_l, h2, List.take_length, l_valid _ (divT_small K _), bind_s]
      unfold cutR
      simp only
      split <;> rfl
  · rw [if_neg hc, if_neg hc]
    rfl
theorem r_cut {fs : List Fc} (ms : List Int) (hv : valids fs) (hl : fs.length ≤ 300) (hval : ref07_Valid fs = some true) : ref07_Cut fs ms = some (cutE fs ms) := by
  unfold ref07_Cut cutE
  rw [hval, bind_s, if_pos rfl, r_combine fs ms hv (by omega), bind_s]
  by_cases hc : ms.length = fs.length ∧ oks fs ms = true
  · rw [if_pos hc, if_pos hc]
    have K := comb_ok hv hl hc.2
    generalize comb fs ms (0, []) = l at K ⊢
    obtain ⟨c, ts⟩ := l
    have Kc : inR c := K.c
    have Kb : smallT ts := K.b
    have Ks : sortedT ts := K.s
    have kl : ts.length ≤ 4000 := K.l
    simp only
    rw [if_pos trivial]
    by_cases hn : ts = []
    · subst hn; rfl
    · rw [if_neg (by simp; exact hn), if_neg hn]
      obtain ⟨g1, g2, g3⟩ := gE_pos Kb hn (sorted_nz Ks)
      rw [forC_fold (xs := ts) (s := (0 : Int)) (by omega) gF inR inR0 (fun k s x hx hi => by simp only [hx, bind_s, r_gcd hi (Kb x (List.mem_of_getElem? hx))]; rfl) (fun s x hx hi => gF_inR hi (Kb x hx)), bind_s, elim_l]
      rw [show ts.foldl gF 0 = gE ts from rfl]
      obtain ⟨⟨o, q⟩, h1, h2⟩ := whlC_inv (R := (Int × (List (ByteArray × Int))) × Int) (s := (ts, (0 : Int))) (f := fun s2645 : List Tm × Int =>
          if (decide (s2645.2 < ((s2645.1.length : Nat) : Int))) then
            (idxO s2645.1 s2645.2).bind fun x2655 =>
            iffO (decide (gE ts ≠ 0))
              (some (.nx ((s2645.1.set s2645.2.toNat (x2655.1, (IntKind.i64.wrap (x2655.2.tdiv (gE ts))))), (IntKind.i64.wrap (s2645.2 + (1 : Int))))))
          else
            some (.br (s2645.1, s2645.2))) (fun s => ∃ i : Nat, s.2 = i ∧ i ≤ ts.length ∧ s.1 = divT (gE ts) (ts.take i) ++ ts.drop i) (fun s => s.1 = divT (gE ts) ts) (fun s => ts.length - s.2.toNat) ⟨0, rfl, by omega, by simp [divT]⟩ (by simp only; omega) (by
        rintro ⟨q, ii⟩ ⟨i, hi1, hi2, hi3⟩
        simp only at hi1 hi3 ⊢
        subst hi1 hi3
        have hlen : (divT (gE ts) (ts.take i)).length = i := by unfold divT; rw [List.length_map, List.length_take]; omega
        have hlen2 : (divT (gE ts) (ts.take i) ++ ts.drop i).length = ts.length := by rw [List.length_append, hlen, List.length_drop]; omega
        by_cases hi : i < ts.length
        · left
          obtain ⟨t, ht, hd⟩ := drop_some hi
          have hm := List.mem_of_getElem? ht
          have hg : (divT (gE ts) (ts.take i) ++ ts.drop i)[i]? = some t := by
            rw [List.getElem?_append_right (by omega), hlen, Nat.sub_self, hd]; rfl
          rw [if_pos (decide_eq_true (by rw [hlen2]; omega)), idxO_nat, hg, bind_s, iffO_d (by omega), wrap_in (x := (i : Int) + 1) (by omega) (by omega), quot g1 (Kb t hm) (g3 t hm)]
          refine ⟨_, rfl, ⟨i + 1, by simp, hi, ?_⟩, by simp; omega⟩
          simp only [Int.toNat_natCast]
          rw [List.set_append_right _ _ (by omega), hlen, Nat.sub_self, hd, List.set_cons_zero, List.take_add_one, ht]
          simp [divT]
        · right
          rw [if_neg (by rw [hlen2]; simpa using by omega)]
          refine ⟨_, rfl, ?_⟩
          simp only
          rw [List.drop_eq_nil_of_le (by omega), List.append_nil, List.take_of_length_le (by omega)])
      simp only at h2
      rw [h1, bind_s, elim_l]
      simp only
      rw [r_div Kc g1 g2, bind_s, h2, r_valid _ (divT_small K _), bind_s]
      unfold cutR
      simp only
      split <;> rfl
  · rw [if_neg hc, if_neg hc]
    rfl

end Go.Proofs.Ytgjamefpphhobaa.M7D
