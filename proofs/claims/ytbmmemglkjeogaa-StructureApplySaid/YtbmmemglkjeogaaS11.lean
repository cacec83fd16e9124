/- Structure: the elements of results, as lists. -/
import Derived.Test.YtbmmemglkjeogaaS10
namespace Go.Proofs.Ytbmmemglkjeogaa.S11
open Go Go.Proofs.Ytbmmemglkjeogaa.Eng Go.Proofs.Ytbmmemglkjeogaa Go.RowKit Go.Proofs.Ytbmmemglkjeogaa.A1 Go.Proofs.Ytbmmemglkjeogaa.A2 Go.Proofs.Ytbmmemglkjeogaa.A3 Go.Proofs.Ytbmmemglkjeogaa.A5 Go.Proofs.Ytbmmemglkjeogaa.S1 Go.Proofs.Ytbmmemglkjeogaa.S2 Go.Proofs.Ytbmmemglkjeogaa.S3 Go.Proofs.Ytbmmemglkjeogaa.S4 Go.Proofs.Ytbmmemglkjeogaa.S5 Go.Proofs.Ytbmmemglkjeogaa.S6 Go.Proofs.Ytbmmemglkjeogaa.S7 Go.Proofs.Ytbmmemglkjeogaa.S8 Go.Proofs.Ytbmmemglkjeogaa.S9 Go.Proofs.Ytbmmemglkjeogaa.S10
set_option linter.unusedSimpArgs false
set_option linter.unusedVariables false
set_option linter.unusedSectionVars false
set_option maxRecDepth 100000

def dt (l : List Ar) (k i : Int) : Int := ((l.getD k.toNat (⟨#[]⟩, [], [])).2.2).getD i.toNat 0
def dd (l : List Ar) (i : Int) : Int := ((l.getD 0 (⟨#[]⟩, [], [])).2.1).getD i.toNat 0
def elF (o : Op13) (size : Int) (l : List Ar) (x y : Int) : Int :=
  match o with
  | .iota => x
  | .fill => dt l 0 0
  | .take => dt l 0 x
  | .drop => dt l 0 (x + size)
  | .reverse => dt l 0 (dd l 0 - 1 - x)
  | .append => if x < dd l 0 then dt l 0 x else dt l 1 (x - dd l 0)
  | .transpose => dt l 0 (y * dd l 1 + x)
  | .diagonal => dt l 0 (x * dd l 0 + x)
  | .windows => dt l 0 (x + y)
  | .chunk => dt l 0 (x * size + y)
  | .index => if insideE (dt l 1 0) (dd l 0) = true then dt l 0 (dt l 1 0) else 0
  | .update => if x = dt l 1 0 then dt l 2 0 else dt l 0 x
  | .pack => dt l x 0
def szV (zs : List Int) (num : Int) : Int := if 0 < zs.length then zs.getD 0 0 else num

theorem dat_of {l : List Ar} {k : Nat} {a : Ar} {i : Int} (ha : l[k]? = some a) (h0 : 0 ≤ i) (h1 : i < a.2.2.length) : Dat l k i (dt l k i) := by
  refine ⟨by omega, h0, a, by simpa using ha, ?_⟩
  unfold dt
  rw [List.getD_eq_getElem?_getD (l := l), Int.toNat_natCast, ha, Option.getD_some, List.getD_eq_getElem?_getD, List.getElem?_eq_getElem (by omega)]
  rfl
theorem dim_of {l : List Ar} {a : Ar} {i : Int} (ha : l[0]? = some a) (h0 : 0 ≤ i) (h1 : i < a.2.1.length) : Dim l i (dd l i) := by
  refine ⟨h0, a, ha, ?_⟩
  unfold dd
  rw [List.getD_eq_getElem?_getD (l := l), ha, Option.getD_some, List.getD_eq_getElem?_getD, List.getElem?_eq_getElem (by omega)]
  rfl

theorem wi_ok {k n : Int} {ds out : List Int} (h : wi k n ds = (out, 0)) : 0 ≤ k ∧ k ≤ n ∧ out = ds := by
  unfold wi at h
  split at h
  · simp at h
  · simp at h
    exact ⟨by omega, by omega, h.symm⟩

theorem run_size {o : Op13} {zs : List Int} {num : Int} {l : List Ar} {out : List Int} (h : Run o zs num l out) (h1 : sz o = 1 ∨ (sz o = 0 ∧ (ix o == 12) = false)) : kOf o zs num l.length = szV zs num := by
  obtain ⟨_, _, h3, _⟩ := h.ranks
  unfold kOf szV
  rcases h1 with h1 | ⟨h1, h2⟩
  · rw [if_pos (by omega), if_pos (by omega)]
  · rw [if_neg (show ¬ 0 < sz o by omega), h2, if_neg (by simp), if_neg (show ¬ 0 < zs.length by omega)]

/-- What a run of a primitive is, and what its dimensions are. -/
theorem run_el {o : Op13} {zs : List Int} {num : Int} {l : List Ar} {out : List Int} (h : Run o zs num l out) : ∀ x y : Nat, (x : Int) < rowsN out → (y : Int) < colsN out → El o (szV zs num) l x y (elF o (szV zs num) l x y) := by
  have hd := h.dms
  have hz := (rd_parts h.rd).2.2
  intro x y hx hy
  cases o
  case iota => rfl
  case fill =>
    obtain ⟨e, v, rfl⟩ := h.zero rfl rfl
    exact dat_of (a := (e, [], [v])) (k := 0) rfl (by omega) (by simp)
  case take =>
    obtain ⟨e, xs, rfl, hl⟩ := h.one rfl rfl
    obtain ⟨k0, k1, rfl⟩ := wi_ok hd
    simp only [rowsN, List.map_cons, List.map_nil, List.flatten_cons, List.flatten_nil, List.append_nil, List.getD_cons_zero] at hx k1
    generalize kOf Op13.take zs num _ = k at *
    exact dat_of (a := (e, [(xs.length : Int)], xs)) (k := 0) rfl (by omega) (by simp only; omega)
  case drop =>
    obtain ⟨e, xs, rfl, hl⟩ := h.one rfl rfl
    rw [run_size h (Or.inl rfl)] at hd
    obtain ⟨k0, k1, rfl⟩ := wi_ok hd
    simp only [rowsN, List.map_cons, List.map_nil, List.flatten_cons, List.flatten_nil, List.append_nil, List.getD_cons_zero] at hx k1
    rw [W, wrap_in (by omega) (by omega)] at hx
    show Dat _ 0 (W (x + szV zs num)) (dt _ 0 (x + szV zs num))
    rw [W, wrap_in (by omega) (by omega)]
    exact dat_of (a := (e, [(xs.length : Int)], xs)) (k := 0) rfl (by omega) (by simp only; omega)
  case reverse =>
    obtain ⟨e, xs, rfl, hl⟩ := h.one rfl rfl
    simp only [dm, List.map_cons, List.map_nil, List.flatten_cons, List.flatten_nil, List.append_nil, List.getD_cons_zero, Prod.mk.injEq, and_true] at hd
    subst hd
    simp only [rowsN] at hx
    have hdd : dd [(e, [(xs.length : Int)], xs)] 0 = xs.length := rfl
    refine ⟨_, dim_of (a := (e, [(xs.length : Int)], xs)) rfl (by omega) (by simp), ?_⟩
    rw [hdd, W, W, wrap_in (x := (xs.length : Int) - 1) (by omega) (by omega), wrap_in (by omega) (by omega)]
    exact dat_of (a := (e, [(xs.length : Int)], xs)) (k := 0) rfl (by omega) (by simp only; omega)
  case append =>
    obtain ⟨e, f, xs, ys, rfl, hl, hl2⟩ := h.oneone rfl rfl
    simp only [dm, List.map_cons, List.map_nil, List.flatten_cons, List.flatten_nil, List.append_nil, List.cons_append, List.nil_append, List.getD_cons_zero, List.getD_cons_succ, Prod.mk.injEq, and_true] at hd
    subst hd
    simp only [rowsN] at hx
    rw [W, wrap_in (by omega) (by omega)] at hx
    have hdd : dd [(e, [(xs.length : Int)], xs), (f, [(ys.length : Int)], ys)] 0 = xs.length := rfl
    refine ⟨_, dim_of (a := (e, [(xs.length : Int)], xs)) rfl (by omega) (by simp), ?_⟩
    unfold elF
    rw [hdd]
    split
    · exact dat_of (a := (e, [(xs.length : Int)], xs)) (k := 0) rfl (by omega) (by simp only; omega)
    · rw [W, wrap_in (by omega) (by omega)]
      exact dat_of (a := (f, [(ys.length : Int)], ys)) (k := 1) rfl (by omega) (by simp only; omega)
  case transpose =>
    obtain ⟨e, r, c, xs, rfl, r0, r1, c0, c1, hl, hl2⟩ := h.two rfl rfl
    simp only [dm, List.map_cons, List.map_nil, List.flatten_cons, List.flatten_nil, List.append_nil, List.cons_append, List.nil_append, List.getD_cons_zero, List.getD_cons_succ, Prod.mk.injEq, and_true] at hd
    subst hd
    simp only [rowsN, colsN] at hx hy
    have hdd : dd [(e, [r, c], xs)] 1 = c := rfl
    have hm : (y : Int) * c + x < r * c := by
      have := Int.mul_le_mul_of_nonneg_right (show (y : Int) + 1 ≤ r by omega) c0
      rw [Int.add_mul, Int.one_mul] at this
      omega
    have hm0 : 0 ≤ (y : Int) * c := Int.mul_nonneg (by omega) c0
    refine ⟨_, dim_of (a := (e, [r, c], xs)) rfl (by omega) (by simp), ?_⟩
    rw [hdd]
    rw [W, W, wrap_in (x := (y : Int) * c) (by omega) (by omega), wrap_in (by omega) (by omega)]
    unfold elF
    rw [hdd]
    exact dat_of (a := (e, [r, c], xs)) (k := 0) rfl (by omega) (by simp only; omega)
  case diagonal =>
    obtain ⟨e, r, c, xs, rfl, r0, r1, c0, c1, hl, hl2⟩ := h.two rfl rfl
    simp only [dm, List.map_cons, List.map_nil, List.flatten_cons, List.flatten_nil, List.append_nil, List.cons_append, List.nil_append, List.getD_cons_zero, List.getD_cons_succ] at hd
    split at hd
    · simp at hd
    rename_i hrc
    have hrc : r = c := by simpa using hrc
    subst hrc
    simp at hd
    subst hd
    simp only [rowsN, colsN] at hx hy
    have hdd : dd [(e, [r, r], xs)] 0 = r := rfl
    have hm : (x : Int) * r + x < r * r := by
      have := Int.mul_le_mul_of_nonneg_right (show (x : Int) + 1 ≤ r by omega) c0
      rw [Int.add_mul, Int.one_mul] at this
      omega
    have hm0 : 0 ≤ (x : Int) * r := Int.mul_nonneg (by omega) c0
    refine ⟨_, dim_of (a := (e, [r, r], xs)) rfl (by omega) (by simp), ?_⟩
    rw [hdd]
    rw [W, W, wrap_in (x := (x : Int) * r) (by omega) (by omega), wrap_in (by omega) (by omega)]
    unfold elF
    rw [hdd]
    exact dat_of (a := (e, [r, r], xs)) (k := 0) rfl (by omega) (by simp only; omega)
  case windows =>
    obtain ⟨e, xs, rfl, hl⟩ := h.one rfl rfl
    obtain ⟨k0, k1, rfl⟩ := wi_ok hd
    simp only [rowsN, colsN, List.map_cons, List.map_nil, List.flatten_cons, List.flatten_nil, List.append_nil, List.getD_cons_zero] at hx hy k1
    generalize kOf Op13.windows zs num _ = k at *
    rw [W, W, wrap_in (x := (xs.length : Int) - k) (by omega) (by omega), wrap_in (by omega) (by omega)] at hx
    show Dat _ 0 (W (x + y)) (dt _ 0 (x + y))
    rw [W, wrap_in (by omega) (by omega)]
    exact dat_of (a := (e, [(xs.length : Int)], xs)) (k := 0) rfl (by omega) (by simp only; omega)
  case chunk =>
    obtain ⟨e, xs, rfl, hl⟩ := h.one rfl rfl
    rw [run_size h (Or.inr ⟨rfl, rfl⟩)] at hd
    simp only [dm, List.map_cons, List.map_nil, List.flatten_cons, List.flatten_nil, List.append_nil, List.getD_cons_zero] at hd
    generalize szV zs num = k at *
    split at hd
    · simp at hd
    rename_i hk
    split at hd
    · simp at hd
    rename_i hmod
    have hmod : (xs.length : Int).tmod k = 0 := by simpa using hmod
    have hkk : 1 ≤ k ∧ k ≤ 64 := by omega
    simp only [Prod.mk.injEq, and_true] at hd
    subst hd
    have hdv : (xs.length : Int).tdiv k * k = xs.length := by
      have := Int.mul_tdiv_add_tmod (xs.length : Int) k
      rw [hmod, Int.add_zero, Int.mul_comm] at this
      exact this
    have hdv0 : 0 ≤ (xs.length : Int).tdiv k := Int.tdiv_nonneg (by omega) (by omega)
    generalize (xs.length : Int).tdiv k = q at *
    have hq : q ≤ 4096 := by
      have := Int.mul_le_mul_of_nonneg_left (show (1 : Int) ≤ k by omega) hdv0
      omega
    simp only [rowsN, colsN] at hx hy
    rw [W, wrap_in (by omega) (by omega)] at hx
    have hm : (x : Int) * k + y < q * k := by
      have := Int.mul_le_mul_of_nonneg_right (show (x : Int) + 1 ≤ q by omega) (show 0 ≤ k by omega)
      rw [Int.add_mul, Int.one_mul] at this
      omega
    have hm0 : 0 ≤ (x : Int) * k := Int.mul_nonneg (by omega) (by omega)
    show Dat _ 0 (W (W (x * k) + y)) (dt _ 0 (x * k + y))
    rw [W, W, wrap_in (x := (x : Int) * k) (by omega) (by omega), wrap_in (by omega) (by omega)]
    exact dat_of (a := (e, [(xs.length : Int)], xs)) (k := 0) rfl (by omega) (by simp only; omega)
  case index =>
    obtain ⟨e, f, xs, t, rfl, hl⟩ := h.onezero rfl rfl
    refine ⟨_, _, dat_of (a := (f, [], [t])) (k := 1) rfl (by omega) (by simp), dim_of (a := (e, [(xs.length : Int)], xs)) rfl (by omega) (by simp), ?_⟩
    have hdd : dd [(e, [(xs.length : Int)], xs), (f, [], [t])] 0 = xs.length := rfl
    have hdt : dt [(e, [(xs.length : Int)], xs), (f, [], [t])] 1 0 = t := rfl
    have hdt' : dt [(e, [(xs.length : Int)], xs), (f, [], [t])] ((1 : Nat) : Int) 0 = t := rfl
    unfold elF
    rw [hdt', hdd, hdt]
    cases hi : insideE t xs.length with
    | false => rfl
    | true =>
      simp only [if_true]
      simp [insideE] at hi
      exact dat_of (a := (e, [(xs.length : Int)], xs)) (k := 0) rfl (by omega) (by simp only; omega)
  case update =>
    obtain ⟨e, f, g, xs, t, v, rfl, hl⟩ := h.three rfl rfl
    simp only [dm, List.map_cons, List.map_nil, List.flatten_cons, List.flatten_nil, List.append_nil, List.cons_append, List.nil_append, List.getD_cons_zero, List.getD_cons_succ, Prod.mk.injEq, and_true] at hd
    subst hd
    simp only [rowsN] at hx
    refine ⟨_, dat_of (a := (f, [], [t])) (k := 1) rfl (by omega) (by simp), ?_⟩
    have hdt : dt [(e, [(xs.length : Int)], xs), (f, [], [t]), (g, [], [v])] 1 0 = t := rfl
    have hdt' : dt [(e, [(xs.length : Int)], xs), (f, [], [t]), (g, [], [v])] ((1 : Nat) : Int) 0 = t := rfl
    unfold elF
    rw [hdt', hdt]
    split
    · exact dat_of (a := (g, [], [v])) (k := 2) rfl (by omega) (by simp)
    · exact dat_of (a := (e, [(xs.length : Int)], xs)) (k := 0) rfl (by omega) (by simp only; omega)
  case pack =>
    obtain ⟨h1, _, h3, _, h5⟩ := h.ranks
    obtain ⟨k0, k1, rfl⟩ := wi_ok hd
    have hk : kOf .pack zs num l.length = l.length := by
      unfold kOf
      rw [if_neg (by simp [sz])]
      rfl
    rw [hk] at hx
    simp only [rowsN] at hx
    have hxl : x < l.length := by omega
    obtain ⟨g1, g2⟩ := h1 x l[x] (List.getElem?_eq_getElem hxl)
    have hr : rank .pack x = 0 := rfl
    obtain ⟨v, g3⟩ := sca g1 (g2.trans hr)
    exact dat_of (a := l[x]) (k := x) (List.getElem?_eq_getElem hxl) (by omega) (by rw [g3]; simp)
end Go.Proofs.Ytbmmemglkjeogaa.S11
