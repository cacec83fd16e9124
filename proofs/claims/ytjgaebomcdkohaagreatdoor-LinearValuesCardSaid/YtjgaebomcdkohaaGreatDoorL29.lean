/- Linear expressions: sums of valid ones as functions of their variables. -/
import Derived.Test.YtjgaebomcdkohaaGreatDoorL20
namespace Go.Proofs.YtjgaebomcdkohaaGreatDoor.L29
open Go Go.Proofs.YtjgaebomcdkohaaGreatDoor.Eng Go.Proofs.YtjgaebomcdkohaaGreatDoor Go.RowKit Go.Proofs.YtjgaebomcdkohaaGreatDoor.L1 Go.Proofs.YtjgaebomcdkohaaGreatDoor.L2 Go.Proofs.YtjgaebomcdkohaaGreatDoor.L3 Go.Proofs.YtjgaebomcdkohaaGreatDoor.L16 Go.Proofs.YtjgaebomcdkohaaGreatDoor.L17 Go.Proofs.YtjgaebomcdkohaaGreatDoor.L19 Go.Proofs.YtjgaebomcdkohaaGreatDoor.L20
set_option linter.unusedSimpArgs false
set_option linter.unusedVariables false
set_option linter.unusedSectionVars false
set_option maxRecDepth 100000

theorem fits_b {x : Int} (h : fitsI x = true) : -1000000 ≤ x ∧ x ≤ 1000000 := by simpa [fitsI] using h
theorem fits_of {x : Int} (h1 : -1000000 ≤ x) (h2 : x ≤ 1000000) : fitsI x = true := by simp [fitsI, h1, h2]
theorem fits_mul {k x : Int} (hk : fitsI k = true) (hx : fitsI x = true) : -1000000000000 ≤ k * x ∧ k * x ≤ 1000000000000 := by
  have h1 := fits_b hk
  have h2 := fits_b hx
  have h3 : (k * x).natAbs ≤ 1000000 * 1000000 := by
    rw [Int.natAbs_mul]
    exact Nat.mul_le_mul (by omega) (by omega)
  omega
theorem aget_fits {ts : List Tm} (h : ∀ u ∈ ts, fitsI u.2 = true) (v : ByteArray) : fitsI (aget v ts) = true := by
  by_cases e : aget v ts = 0
  · rw [e]; rfl
  · obtain ⟨u, hu, _, e2⟩ := aget_ne e
    rw [← e2]
    exact h u hu
theorem addT_get (k : Int) (v : ByteArray) : ∀ (ts : List Tm) {cs : List Tm}, sortedT ts → W (aget v cs) = aget v cs → aget v (addT k ts cs) = W (aget v cs + W (k * aget v ts))
  | [], cs, _, hw => by
    rw [addT, aget, Int.mul_zero, show W 0 = 0 from rfl, Int.add_zero, hw]
  | t :: r, cs, h, hw => by
    have hp := aput_get t.1 (W (aget t.1 cs + W (k * t.2))) v cs
    by_cases e : v = t.1
    · rw [if_pos e] at hp
      have ih := addT_get k v r (cs := aput t.1 (W (aget t.1 cs + W (k * t.2))) cs) h.2.2 (by rw [hp, W_W])
      rw [addT, ih, hp, aget, if_pos e.symm, show aget v r = 0 from e ▸ aget_lt h.1, Int.mul_zero, show W 0 = 0 from rfl, Int.add_zero, W_W, e]
    · rw [if_neg e] at hp
      have ih := addT_get k v r (cs := aput t.1 (W (aget t.1 cs + W (k * t.2))) cs) h.2.2 (by rw [hp, hw])
      rw [addT, ih, hp, aget, if_neg fun e' => e e'.symm]
theorem times_aget (k : Int) {ts l : List Tm} (hl : sortedT l) (ht : sortedT ts) (v : ByteArray) (hw : W (aget v l) = aget v l) : aget v (timesT k ts l) = W (aget v l + W (k * aget v ts)) := by
  rw [(times_get k ts hl fun _ => rfl).2, addT_get k v ts ht hw]
theorem times_S (k : Int) {a b : Int × List Tm} (ha : sortedT a.2) : sortedT (timesE a b k).2 := (times_get k b.2 ha fun _ => rfl).1

/-- The number of the constant, or of a variable. -/
def F (l : Int × List Tm) : Option ByteArray → Int
  | none => l.1
  | some v => aget v l.2
structure G (l : Int × List Tm) : Prop where
  s : sortedT l.2
  f : ∀ o, fitsI (F l o) = true
theorem good {l : Int × List Tm} (h : validE l.1 l.2 = true) : G l := by
  obtain ⟨h1, h2, h3, h4⟩ := valid_parts h
  refine ⟨h3, fun o => ?_⟩
  cases o with
  | none => exact h1
  | some v => exact aget_fits (fun u hu => (h4 u hu).1) v
theorem times_F {a b : Int × List Tm} {k : Int} (ha : G a) (hb : G b) (hk : fitsI k = true) (o : Option ByteArray) : F (timesE a b k) o = F a o + k * F b o := by
  have h1 := fits_b (ha.f o)
  have h2 := fits_mul hk (hb.f o)
  have h3 : W (F a o + W (k * F b o)) = F a o + k * F b o := by
    rw [show W (k * F b o) = k * F b o from wrap_in (by omega) (by omega)]
    exact wrap_in (by omega) (by omega)
  rw [← h3]
  cases o with
  | none => rfl
  | some v => exact times_aget k ha.s hb.s v (wrap_in (by simp only [F] at h1; omega) (by simp only [F] at h1; omega))
theorem ext_F {x y : Int × List Tm} (hx : sortedT x.2) (hy : sortedT y.2) (h : ∀ o, F x o = F y o) : x = y := Prod.ext (h none) (sorted_same hx hy fun v => h (some v))
theorem F_zero (o : Option ByteArray) : F (0, []) o = 0 := by cases o <;> rfl
theorem G_zero : G (0, []) := ⟨trivial, fun o => by rw [F_zero]; rfl⟩
theorem alg_comm {a b : Int × List Tm} (ha : G a) (hb : G b) : timesE a b 1 = timesE b a 1 :=
  ext_F (times_S 1 ha.s) (times_S 1 hb.s) fun o => by rw [times_F ha hb rfl, times_F hb ha rfl]; omega
theorem alg_back {a b : Int × List Tm} (ha : G a) (hb : G b) (hab : G (timesE a b 1)) : timesE (timesE a b 1) b (-1) = a :=
  ext_F (times_S _ hab.s) ha.s fun o => by rw [times_F hab hb rfl, times_F ha hb rfl]; omega
theorem alg_assoc {a b c : Int × List Tm} (ha : G a) (hb : G b) (hc : G c) (hab : G (timesE a b 1)) (hbc : G (timesE b c 1)) : timesE (timesE a b 1) c 1 = timesE a (timesE b c 1) 1 :=
  ext_F (times_S _ hab.s) (times_S _ ha.s) fun o => by rw [times_F hab hc rfl, times_F ha hbc rfl, times_F ha hb rfl, times_F hb hc rfl]; omega
theorem alg_dist {a b : Int × List Tm} {k : Int} (hk : fitsI k = true) (ha : G a) (hb : G b) (hab : G (timesE a b 1)) (hka : G (timesE (0, []) a k)) (hkb : G (timesE (0, []) b k)) : timesE (0, []) (timesE a b 1) k = timesE (timesE (0, []) a k) (timesE (0, []) b k) 1 :=
  ext_F (times_S _ trivial) (times_S _ hka.s) fun o => by
    rw [times_F G_zero hab hk, times_F hka hkb rfl, times_F G_zero ha hk, times_F G_zero hb hk, times_F ha hb rfl, F_zero]
    simp only [Int.one_mul, Int.mul_add]
    omega

/-! Values, modulo the number of integers. -/
def cg (x y : Int) : Prop := ∃ q, x = y + q * 18446744073709551616
theorem cg.rfl' (x : Int) : cg x x := ⟨0, by omega⟩
theorem cg.of_eq {x y : Int} (h : x = y) : cg x y := h ▸ cg.rfl' x
theorem cg.symm {x y : Int} : cg x y → cg y x := fun ⟨q, h⟩ => ⟨-q, by omega⟩
theorem cg.trans {x y z : Int} : cg x y → cg y z → cg x z := fun ⟨q, h⟩ ⟨p, g⟩ => ⟨q + p, by omega⟩
theorem cg.add {x y z u : Int} : cg x y → cg z u → cg (x + z) (y + u) := fun ⟨q, h⟩ ⟨p, g⟩ => ⟨q + p, by omega⟩
theorem cg.sub {x y z u : Int} : cg x y → cg z u → cg (x - z) (y - u) := fun ⟨q, h⟩ ⟨p, g⟩ => ⟨q - p, by omega⟩
theorem cg.mulr {x y : Int} (z : Int) : cg x y → cg (x * z) (y * z) := fun ⟨q, h⟩ => ⟨q * z, by
  rw [h, Int.add_mul, Int.mul_assoc q, Int.mul_comm 18446744073709551616 z, ← Int.mul_assoc]⟩
theorem cg.mull {x y : Int} (z : Int) (h : cg x y) : cg (z * x) (z * y) := by rw [Int.mul_comm z, Int.mul_comm z]; exact h.mulr z
theorem cg_W (x : Int) : cg (W x) x := by
  have h := IntKind.wrap_i64 x
  refine ⟨(IntKind.i64.wrap x - x) / 18446744073709551616, ?_⟩
  show IntKind.i64.wrap x = x + _
  omega
theorem cg_eq {x y : Int} (h : cg x y) (hx : W x = x) (hy : W y = y) : x = y := by
  obtain ⟨q, h⟩ := h
  have h1 := IntKind.wrap_i64 x
  have h2 := IntKind.wrap_i64 y
  have h3 : IntKind.i64.wrap x = x := hx
  have h4 : IntKind.i64.wrap y = y := hy
  omega
theorem W_cg {x y : Int} (h : cg x y) : W x = W y := cg_eq ((cg_W x).trans (h.trans (cg_W y).symm)) (W_W x) (W_W y)

section
variable (val : ByteArray → Int)
def E : List Tm → Int
  | [] => 0
  | t :: r => t.2 * val t.1 + E r
theorem E_insP (s : ByteArray) (x : Int) : ∀ l : List Tm, cg (E val (insP s x l)) (x * val s + E val l)
  | [] => cg.rfl' _
  | t :: r => by
    unfold insP
    split
    · exact cg.rfl' _
    · split
      · rename_i e
        subst e
        rw [E, E]
        exact (((cg_W (t.2 + x)).mulr (val t.1)).add (cg.rfl' (E val r))).trans (cg.of_eq (by rw [Int.add_mul]; omega))
      · rw [E, E]
        exact ((cg.rfl' (t.2 * val t.1)).add (E_insP s x r)).trans (cg.of_eq (by omega))
theorem E_filter : ∀ l : List Tm, E val (l.filter fun t => !decide (t.2 = 0)) = E val l
  | [] => rfl
  | t :: r => by
    rw [List.filter_cons]
    by_cases h0 : t.2 = 0
    · rw [if_neg (by simp [h0]), E_filter r, E, h0, Int.zero_mul, Int.zero_add]
    · rw [if_pos (by simp [h0]), E, E, E_filter r]
theorem E_plus (s : ByteArray) (x : Int) (l : List Tm) : cg (E val (plusT s x l)) (x * val s + E val l) := by
  unfold plusT
  rw [E_filter]
  exact E_insP val s x l
theorem E_times (k : Int) : ∀ ts l : List Tm, cg (E val (timesT k ts l)) (E val l + k * E val ts)
  | [], l => cg.of_eq (by rw [timesT, E, Int.mul_zero, Int.add_zero])
  | t :: r, l => by
    rw [timesT, E]
    refine (E_times k r (plusT t.1 (W (k * t.2)) l)).trans ?_
    refine (((E_plus val t.1 (W (k * t.2)) l).trans (((cg_W (k * t.2)).mulr (val t.1)).add (cg.rfl' _))).add (cg.rfl' _)).trans (cg.of_eq ?_)
    rw [Int.mul_add, Int.mul_assoc]
    omega
/-- The value of an expression. -/
def V (l : Int × List Tm) : Int := l.1 + E val l.2
theorem V_times (a b : Int × List Tm) (k : Int) : cg (V val (timesE a b k)) (V val a + k * V val b) := by
  unfold V timesE
  refine (((cg_W (a.1 + W (k * b.1))).trans ((cg.rfl' a.1).add (cg_W (k * b.1)))).add (E_times val k b.2 a.2)).trans (cg.of_eq ?_)
  rw [Int.mul_add]
  omega
theorem E_ext {val' : ByteArray → Int} : ∀ {l : List Tm}, (∀ u ∈ l, val u.1 = val' u.1) → E val l = E val' l
  | [], _ => rfl
  | t :: r, h => by rw [E, E, h t List.mem_cons_self, E_ext fun u hu => h u (List.mem_cons_of_mem _ hu)]
end
theorem plus_all {P : ByteArray → Prop} {s : ByteArray} {x : Int} {l : List Tm} (hs : P s) (h : ∀ u ∈ l, P u.1) : ∀ u ∈ plusT s x l, P u.1 := fun u hu => by
  rcases insP_mem (List.mem_filter.1 hu).1 with e | ⟨w, hw, e⟩
  · rw [e]; exact hs
  · rw [← e]; exact h w hw
theorem times_all {P : ByteArray → Prop} (k : Int) : ∀ (ts : List Tm) {l : List Tm}, (∀ u ∈ l, P u.1) → (∀ u ∈ ts, P u.1) → ∀ u ∈ timesT k ts l, P u.1
  | [], l, h, _ => h
  | t :: r, l, h, ht => times_all k r (plus_all (ht t List.mem_cons_self) h) fun u hu => ht u (List.mem_cons_of_mem _ hu)

end Go.Proofs.YtjgaebomcdkohaaGreatDoor.L29
