/- Views: steps keep a view valid; the law ViewInside. -/
import Derived.Test.YtimagnkdgpfamaaV12
namespace Go.Proofs.Ytimagnkdgpfamaa.V13
open Go Go.Proofs.Ytimagnkdgpfamaa.Eng Go.Proofs.Ytimagnkdgpfamaa Go.RowKit Go.Proofs.Ytimagnkdgpfamaa.A1 Go.Proofs.Ytimagnkdgpfamaa.A2 Go.Proofs.Ytimagnkdgpfamaa.A3 Go.Proofs.Ytimagnkdgpfamaa.A4 Go.Proofs.Ytimagnkdgpfamaa.A5 Go.Proofs.Ytimagnkdgpfamaa.A8 Go.Proofs.Ytimagnkdgpfamaa.A10 Go.Proofs.Ytimagnkdgpfamaa.V1 Go.Proofs.Ytimagnkdgpfamaa.V2 Go.Proofs.Ytimagnkdgpfamaa.V3 Go.Proofs.Ytimagnkdgpfamaa.V4 Go.Proofs.Ytimagnkdgpfamaa.V5 Go.Proofs.Ytimagnkdgpfamaa.V6 Go.Proofs.Ytimagnkdgpfamaa.V7 Go.Proofs.Ytimagnkdgpfamaa.V11 Go.Proofs.Ytimagnkdgpfamaa.V12
set_option linter.unusedSimpArgs false
set_option linter.unusedVariables false
set_option linter.unusedSectionVars false
set_option maxRecDepth 100000

/-- A view that leads to the offsets below n. -/
def Inv (n o : Int) (ds ss : List Int) : Prop := formed ds ss = true ∧ i64 o ∧ (∀ s ∈ ss, i64 s) ∧ (0 ∈ ds ∨ (0 ≤ o + mn ds ss ∧ o + mx ds ss < n))

theorem app_inv {n o x : Int} {A B L M D S : List Int} (hn : n ≤ 100) (hi : Inv n o (A ++ L) (B ++ M)) (hAB : A.length = B.length) (hk : Keeps L M (x, D, S)) (hz : (sizeE (A ++ D)).2 = 0) : Inv n (W (o + x)) (A ++ D) (B ++ S) := by
  obtain ⟨h1, h2, h3, h4⟩ := hi
  obtain ⟨k1, k2, k3, k4⟩ := hk
  simp only at k1 k2 k3 k4
  have hf : formed (A ++ D) (B ++ S) = true := by
    simp only [formed, hz, List.length_append, hAB, k2]
    simp
  refine ⟨hf, i64_wrap _, fun s hs => ?_, ?_⟩
  · rcases List.mem_append.1 hs with h | h
    · exact h3 s (List.mem_append.2 (Or.inl h))
    · exact k1 s h
  obtain ⟨_, _, d1⟩ := formed_dims h1
  obtain ⟨_, _, d2⟩ := formed_dims hf
  by_cases hD : (0 : Int) ∈ D
  · exact Or.inl (List.mem_append.2 (Or.inr hD))
  by_cases hA : (0 : Int) ∈ A
  · exact Or.inl (List.mem_append.2 (Or.inl hA))
  have hL : (0 : Int) ∉ L := fun h => hD (k3 h)
  have h4 := h4.resolve_left (fun h => (List.mem_append.1 h).elim hA hL)
  have A1 : ∀ d ∈ A, 1 ≤ d := fun d h => by
    have := d1 d (List.mem_append.2 (Or.inl h))
    have : d ≠ 0 := fun e => hA (e ▸ h)
    omega
  have L1 : ∀ d ∈ L, 1 ≤ d := fun d h => by
    have := d1 d (List.mem_append.2 (Or.inr h))
    have : d ≠ 0 := fun e => hL (e ▸ h)
    omega
  have D1 : ∀ d ∈ D, 1 ≤ d := fun d h => by
    have := d2 d (List.mem_append.2 (Or.inr h))
    have : d ≠ 0 := fun e => hD (e ▸ h)
    omega
  rw [mn_app A B L M hAB, mx_app A B L M hAB] at h4
  rw [mn_app A B D S hAB, mx_app A B D S hAB]
  have a1 := mn_le A B A1
  have a2 := mx_ge A B A1
  have a3 := mn_le L M L1
  have a4 := mx_ge L M L1
  have a5 := mn_le D S D1
  have a6 := mx_ge D S D1
  have h5 := (k4 L1 (by omega) (by omega)).resolve_left hD
  rw [wW (x := o + x) (by omega) (by omega)]
  exact Or.inr (by omega)

theorem stepE_inv {n o : Int} {ds ss : List Int} {last : Nat} {c : Vw × Int} (hn : n ≤ 100) (hi : Inv n o ds ss) (hk : last ≤ ds.length → c.2 = 0 → Keeps (ds.drop (ds.length - last)) (ss.drop (ss.length - last)) c.1) (h0 : (stepE o ds ss last c).2 = 0) : Inv n (stepE o ds ss last c).1.1 (stepE o ds ss last c).1.2.1 (stepE o ds ss last c).1.2.2 := by
  have hf := hi.1
  have hl := (formed_dims hf).2.1
  unfold stepE at h0 ⊢
  rw [if_neg (by simp [hf])] at h0 ⊢
  by_cases hlt : ds.length < last
  · rw [if_pos hlt] at h0
    simp at h0
  rw [if_neg hlt] at h0 ⊢
  by_cases hc : c.2 ≠ 0
  · rw [if_pos hc] at h0
    exact absurd h0 hc
  rw [if_neg hc] at h0 ⊢
  by_cases hz : (sizeE (ds.take (ds.length - last) ++ c.1.2.1)).2 ≠ 0
  · rw [if_pos hz] at h0
    exact absurd h0 hz
  rw [if_neg hz]
  have hk := hk (by omega) (Decidable.not_not.1 hc)
  rw [hl] at hk
  simp only
  generalize ds.length - last = a at *
  refine app_inv (L := ds.drop a) (M := ss.drop a) hn ?_ (by simp; omega) hk (Decidable.not_not.1 hz)
  rw [List.take_append_drop, List.take_append_drop]
  exact hi

theorem stp_inv {n o : Int} {ds ss : List Int} (k x : Int) (hn : n ≤ 100) (hi : Inv n o ds ss) (h0 : (stp k x o ds ss).2 = 0) : Inv n (stp k x o ds ss).1.1 (stp k x o ds ss).1.2.1 (stp k x o ds ss).1.2.2 := by
  have hf := hi.1
  obtain ⟨h6, hl, hd⟩ := formed_dims hf
  have hs := hi.2.2.1
  have b1 : 1 ≤ ds.length → (0 ≤ lst ds 1 ∧ lst ds 1 ≤ 4096) ∧ i64 (lst ss 1) ∧ ds.drop (ds.length - 1) = [lst ds 1] ∧ ss.drop (ss.length - 1) = [lst ss 1] := fun h => ⟨hd _ (lst_mem (by omega) h), hs _ (lst_mem (by omega) (by omega)), lst1 h, lst1 (by omega)⟩
  have b2 : 2 ≤ ds.length → ((0 ≤ lst ds 2 ∧ lst ds 2 ≤ 4096) ∧ (0 ≤ lst ds 1 ∧ lst ds 1 ≤ 4096)) ∧ (i64 (lst ss 2) ∧ i64 (lst ss 1)) ∧ ds.drop (ds.length - 2) = [lst ds 2, lst ds 1] ∧ ss.drop (ss.length - 2) = [lst ss 2, lst ss 1] := fun h => ⟨⟨hd _ (lst_mem (by omega) h), hd _ (lst_mem (by omega) (by omega))⟩, ⟨hs _ (lst_mem (by omega) (by omega)), hs _ (lst_mem (by omega) (by omega))⟩, lst2 h, lst2 (by omega)⟩
  unfold stp at h0 ⊢
  split at h0
  · rename_i e
    rw [if_pos e]
    refine stepE_inv hn hi (fun h hc => ?_) h0
    rw [(b1 h).2.2.1, (b1 h).2.2.2]
    exact keep_take (b1 h).1 (b1 h).2.1 hc
  rename_i e1
  rw [if_neg e1]
  split at h0
  · rename_i e
    rw [if_pos e]
    refine stepE_inv hn hi (fun h hc => ?_) h0
    rw [(b1 h).2.2.1, (b1 h).2.2.2]
    exact keep_drop (b1 h).1 (b1 h).2.1 hc
  rename_i e2
  rw [if_neg e2]
  split at h0
  · rename_i e
    rw [if_pos e]
    refine stepE_inv hn hi (fun h hc => ?_) h0
    rw [(b1 h).2.2.1, (b1 h).2.2.2]
    exact keep_rev (b1 h).1 (b1 h).2.1
  rename_i e3
  rw [if_neg e3]
  split at h0
  · rename_i e
    rw [if_pos e]
    refine stepE_inv hn hi (fun h hc => ?_) h0
    rw [(b2 h).2.2.1, (b2 h).2.2.2]
    exact keep_tr (b2 h).1.1 (b2 h).1.2 (b2 h).2.1.1 (b2 h).2.1.2
  rename_i e4
  rw [if_neg e4]
  split at h0
  · rename_i e
    rw [if_pos e]
    refine stepE_inv hn hi (fun h hc => ?_) h0
    rw [(b2 h).2.2.1, (b2 h).2.2.2]
    exact keep_dia (b2 h).1.1 (b2 h).1.2 (b2 h).2.1.1 (b2 h).2.1.2 hc
  rename_i e5
  rw [if_neg e5]
  split at h0
  · rename_i e
    rw [if_pos e]
    refine stepE_inv hn hi (fun h hc => ?_) h0
    rw [(b1 h).2.2.1, (b1 h).2.2.2]
    exact keep_win (b1 h).1 (b1 h).2.1 hc
  rename_i e6
  rw [if_neg e6]
  refine stepE_inv hn hi (fun h hc => ?_) h0
  rw [(b1 h).2.2.1, (b1 h).2.2.2]
  exact keep_chu (b1 h).1 (b1 h).2.1 hc

theorem strd_i64 : ∀ ds : List Int, i64 (strd ds).2 ∧ ∀ s ∈ (strd ds).1, i64 s
  | [] => ⟨by simp [strd, i64], by simp [strd]⟩
  | d :: ds => by
    have := strd_i64 ds
    rw [strd]
    refine ⟨i64_wrap _, fun s hs => ?_⟩
    rcases List.mem_cons.1 hs with rfl | h
    · exact this.1
    · exact this.2 s h
theorem strd_val : ∀ (ds : List Int), fine ds → prod ds ≤ 4096 → (strd ds).2 = prod ds ∧ mn ds (strd ds).1 = 0 ∧ mx ds (strd ds).1 = prod ds - 1
  | [], _, _ => by simp [strd, prod, mn, mx]
  | d :: ds, hf, h => by
    have hd := hf d (by simp)
    have hf' : fine ds := fun z hz => hf z (by simp [hz])
    have hp := prod_pos hf'
    rw [prod] at h
    have h1 : prod ds ≤ d * prod ds := by
      have := Int.mul_le_mul_of_nonneg_right hd (show 0 ≤ prod ds by omega)
      omega
    obtain ⟨e1, e2, e3⟩ := strd_val ds hf' (by omega)
    have em : prod ds * d = d * prod ds := Int.mul_comm _ _
    have e4 : prod ds * (d - 1) = d * prod ds - prod ds := by rw [Int.mul_sub, Int.mul_one, em]
    rw [strd, mn, mx, e1, e2, e3, if_neg (by omega), if_neg (by omega), prod, em, e4]
    exact ⟨wrap_in (by omega) (by omega), by omega, by omega⟩
theorem size_pos {ds : List Int} {n : Int} (h : sizeE ds = (n, 0)) (h0 : (0 : Int) ∉ ds) : n ≠ 0 := by
  obtain ⟨h6, hd⟩ := dims_of h
  have hbd : ds.any badDim = false := by
    rw [List.any_eq_false]
    intro d hx
    have := hd d hx
    simp [badDim]
    omega
  have hz : ds.any (fun x => 0 == x) = false := by
    rw [List.any_eq_false]
    intro d hx h1
    have : 0 = d := by simpa using h1
    exact h0 (this ▸ hx)
  unfold sizeE at h
  rw [if_neg (by omega), hbd, if_neg (by simp), hz, if_neg (by simp)] at h
  have hf : fine ds := fun d hx => by
    have := hd d hx
    have : d ≠ 0 := fun e => h0 (e ▸ hx)
    omega
  intro h1
  have := prodE_prod hbd hf (by omega) (by omega) h
  have := prod_pos hf
  omega
theorem of_inv {ds : List Int} {n : Int} (h : sizeE ds = (n, 0)) : Inv n 0 ds (strd ds).1 := by
  refine ⟨by simp [formed, h, strd_len], by simp [i64], (strd_i64 ds).2, ?_⟩
  by_cases h0 : (0 : Int) ∈ ds
  · exact Or.inl h0
  right
  obtain ⟨hf, hn, _, hn4, _⟩ := size_fine h (size_pos h h0)
  obtain ⟨e1, e2, e3⟩ := strd_val ds hf (by omega)
  rw [e2, e3]
  omega

/-- Such a view is valid on both sides. -/
theorem inv_vv {n o : Int} {ds ss : List Int} (hn : 0 ≤ n ∧ n ≤ 100) (h : Inv n o ds ss) : vvE n o ds ss = true :=
  (vv_iff n o ds ss (by simp only [i64]; omega) h.2.1 h.2.2.1).2 ⟨h.1, h.2.2.2⟩
theorem size_zero {ds : List Int} {n : Int} (h : sizeE ds = (n, 0)) (h0 : (0 : Int) ∈ ds) : n = 0 := by
  refine Decidable.byContradiction fun hne => ?_
  obtain ⟨hf, _⟩ := size_fine h hne
  have := hf 0 h0
  omega
theorem rv_iff2 (n o : Int) (ds ss : List Int) (hn : i64 n) : rvE n o ds ss = true ↔ vOk n o ds ss := by
  unfold rvE vOk
  rw [Bool.and_eq_true]
  refine and_congr_right fun hf => ?_
  obtain ⟨h6, hl, hd⟩ := formed_dims hf
  obtain ⟨_, m, hm⟩ := formed_ok hf
  rw [hm]
  simp only [Bool.or_eq_true, Bool.and_eq_true, decide_eq_true_eq]
  by_cases h0 : (0 : Int) ∈ ds
  · have := size_zero hm h0
    simp [h0, this]
  have := size_pos hm h0
  simp only [h0, this, false_or]
  have hd1 : ∀ d ∈ ds, 1 ≤ d ∧ d ≤ 4096 := fun d hx => by
    have := hd d hx
    have : d ≠ 0 := fun e => h0 (e ▸ hx)
    omega
  have a1 := mn_le ds ss fun d hx => (hd1 d hx).1
  have a2 := mx_ge ds ss fun d hx => (hd1 d hx).1
  simp only [i64] at hn
  constructor
  · rintro ⟨⟨h1, h2⟩, h3⟩
    exact (rv_iff n (by omega) ds ss o o hd1 h1 (by omega) h1 (by omega)).1 h3
  · intro h
    exact ⟨by omega, (rv_iff n (by omega) ds ss o o hd1 (by omega) (by omega) (by omega) (by omega)).2 h⟩
theorem inv_rv {n o : Int} {ds ss : List Int} (hn : 0 ≤ n ∧ n ≤ 100) (h : Inv n o ds ss) : rvE n o ds ss = true :=
  (rv_iff2 n o ds ss (by simp only [i64]; omega)).2 ⟨h.1, h.2.2.2⟩
/-- The two sides agree on every view. -/
theorem valid_same {n o : Int} {ds ss : List Int} (hn : i64 n) (ho : i64 o) (hs : ∀ s ∈ ss, i64 s) : vvE n o ds ss = rvE n o ds ss := by
  rw [Bool.eq_iff_iff, vv_iff n o ds ss hn ho hs, rv_iff2 n o ds ss hn]
end Go.Proofs.Ytimagnkdgpfamaa.V13
