/- Cells: the arithmetic of frames that agree. -/
import Derived.Test.YtoobaeebgnbpjaaB2
import Derived.Test.YtoobaeebgnbpjaaB7
namespace Go.Proofs.Ytoobaeebgnbpjaa.B18
open Go Go.Proofs.Ytoobaeebgnbpjaa.Eng Go.Proofs.Ytoobaeebgnbpjaa Go.RowKit Go.Proofs.Ytoobaeebgnbpjaa.A1 Go.Proofs.Ytoobaeebgnbpjaa.A2 Go.Proofs.Ytoobaeebgnbpjaa.A3 Go.Proofs.Ytoobaeebgnbpjaa.A4 Go.Proofs.Ytoobaeebgnbpjaa.A5 Go.Proofs.Ytoobaeebgnbpjaa.B1 Go.Proofs.Ytoobaeebgnbpjaa.B2 Go.Proofs.Ytoobaeebgnbpjaa.B5 Go.Proofs.Ytoobaeebgnbpjaa.B7
set_option linter.unusedSimpArgs false
set_option linter.unusedVariables false
set_option linter.unusedSectionVars false
set_option maxRecDepth 100000

abbrev fst1 (p : Ar × Int) : List Int := (splitE p.1 p.2).1.1
theorem frameE_ok : ∀ (l : List Ar) (rs fr : List Int) (bs : List Bool), l.length = rs.length → (frameE l rs fr bs).2 = 0 →
    (∀ p ∈ l.zip rs, (splitE p.1 p.2).2 = 0 ∧ (fst1 p = [] ∨ fst1 p = (frameE l rs fr bs).1.1)) ∧ (fr = [] ∨ fr = (frameE l rs fr bs).1.1) ∧ ((frameE l rs fr bs).1.1 = fr ∨ ∃ p ∈ l.zip rs, fst1 p = (frameE l rs fr bs).1.1) ∧ (frameE l rs fr bs).1.2 = bs ++ (l.zip rs).map fun p => !(fst1 p == [])
  | [], [], fr, bs, _, _ => by simp [frameE]
  | [], _ :: _, _, _, h, _ => by simp at h
  | _ :: _, [], _, _, h, _ => by simp at h
  | a :: l, r :: rs, fr, bs, hl, h => by
    have hl' : l.length = rs.length := by simpa using hl
    rw [frameE] at h ⊢
    simp only [List.zip_cons_cons, List.forall_mem_cons, List.map_cons]
    by_cases h1 : (splitE a r).2 ≠ 0
    · rw [if_pos h1] at h; exact absurd h h1
    rw [if_neg h1] at h ⊢
    have h1' : (splitE a r).2 = 0 := by simpa using h1
    by_cases h2 : (splitE a r).1.1 = []
    · rw [if_pos h2] at h ⊢
      obtain ⟨i1, i2, i3, i4⟩ := frameE_ok l rs fr _ hl' h
      refine ⟨⟨⟨h1', Or.inl h2⟩, i1⟩, i2, i3.imp id fun ⟨p, hp, h⟩ => ⟨p, List.mem_cons_of_mem _ hp, h⟩, ?_⟩
      rw [i4]
      simp [fst1, h2]
    rw [if_neg h2] at h ⊢
    by_cases h3 : fr = []
    · rw [if_pos h3] at h ⊢
      obtain ⟨i1, i2, i3, i4⟩ := frameE_ok l rs _ _ hl' h
      have hc := i2.resolve_left h2
      refine ⟨⟨⟨h1', Or.inr hc⟩, i1⟩, Or.inl h3, Or.inr ⟨(a, r), List.mem_cons_self, hc⟩, ?_⟩
      rw [i4]
      simp [fst1, h2]
    rw [if_neg h3] at h ⊢
    by_cases h4 : (splitE a r).1.1.length ≠ fr.length
    · rw [if_pos h4] at h; simp at h
    rw [if_neg h4] at h ⊢
    by_cases h5 : (splitE a r).1.1 ≠ fr
    · rw [if_pos h5] at h; simp at h
    rw [if_neg h5] at h ⊢
    obtain ⟨i1, i2, i3, i4⟩ := frameE_ok l rs fr _ hl' h
    have h5' : (splitE a r).1.1 = fr := by simpa using h5
    refine ⟨⟨⟨h1', Or.inr (h5'.trans (i2.resolve_left h3))⟩, i1⟩, i2, i3.imp id fun ⟨p, hp, h⟩ => ⟨p, List.mem_cons_of_mem _ hp, h⟩, ?_⟩
    rw [i4]
    simp [fst1, h2]

theorem frameE_of : ∀ (l : List Ar) (rs fr : List Int) (bs : List Bool) (c : List Int), (∀ p ∈ l.zip rs, (splitE p.1 p.2).2 = 0 ∧ (fst1 p = [] ∨ fst1 p = c)) → (fr = [] ∨ fr = c) → (frameE l rs fr bs).2 = 0
  | [], _, fr, bs, c, _, _ => by simp [frameE]
  | _ :: _, [], fr, bs, c, _, _ => by simp [frameE]
  | a :: l, r :: rs, fr, bs, c, h, hf => by
    simp only [List.zip_cons_cons, List.forall_mem_cons] at h
    obtain ⟨⟨h1, h2⟩, h3⟩ := h
    rw [frameE, if_neg (by simpa using h1)]
    split
    · exact frameE_of l rs fr _ c h3 hf
    rename_i h4
    have h5 : (splitE a r).1.1 = c := h2.resolve_left h4
    split
    · exact frameE_of l rs _ _ c h3 (Or.inr h5)
    rename_i h6
    have h7 : fr = c := hf.resolve_left h6
    rw [if_neg (by rw [h5, h7]; simp), if_neg (by rw [h5, h7]; simp)]
    exact frameE_of l rs fr _ c h3 (Or.inr h7)

theorem rev_zip {α β : Type} : ∀ (l : List α) (rs : List β), l.length = rs.length → (l.zip rs).reverse = l.reverse.zip rs.reverse
  | [], [], _ => rfl
  | [], _ :: _, h => by simp at h
  | _ :: _, [], h => by simp at h
  | a :: l, r :: rs, h => by
    have h' : l.length = rs.length := by simpa using h
    rw [List.zip_cons_cons, List.reverse_cons, List.reverse_cons, List.reverse_cons, List.zip_append (by simp [h']), rev_zip l rs h']
    rfl
/-- Another order, and one more array without a frame: the same frame. -/
theorem agree {l : List Ar} {rs : List Int} {z : Ar} (hl : l.length = rs.length) (hz1 : (splitE z 0).2 = 0) (hz2 : fst1 (z, 0) = []) :
    ((frameA (l.reverse ++ [z]) (rs.reverse ++ [0])).2 = 0 ↔ (frameA l rs).2 = 0) ∧ ((frameA l rs).2 = 0 → (frameA (l.reverse ++ [z]) (rs.reverse ++ [0])).1.1 = (frameA l rs).1.1) := by
  have hm : ∀ p, p ∈ (l.reverse ++ [z]).zip (rs.reverse ++ [0]) ↔ p ∈ l.zip rs ∨ p = (z, 0) := fun p => by
    rw [List.zip_append (by simp [hl]), ← rev_zip l rs hl]
    simp
  have e1 : frameA (l.reverse ++ [z]) (rs.reverse ++ [0]) = frameE (l.reverse ++ [z]) (rs.reverse ++ [0]) [] [] := by
    unfold frameA; rw [if_neg (by simp [hl])]
  have e2 : frameA l rs = frameE l rs [] [] := by unfold frameA; rw [if_neg (by simp [hl])]
  rw [e1, e2]
  have one : (frameE (l.reverse ++ [z]) (rs.reverse ++ [0]) [] []).2 = 0 → (frameE l rs [] []).2 = 0 := fun h => by
    obtain ⟨i1, i2, i3, i4⟩ := frameE_ok _ _ _ _ (by simp [hl]) h
    exact frameE_of l rs [] [] _ (fun p hp => i1 p ((hm p).2 (Or.inl hp))) (Or.inl rfl)
  have two : (frameE l rs [] []).2 = 0 → (frameE (l.reverse ++ [z]) (rs.reverse ++ [0]) [] []).2 = 0 := fun h => by
    obtain ⟨i1, i2, i3, i4⟩ := frameE_ok _ _ _ _ hl h
    refine frameE_of _ _ [] [] (frameE l rs [] []).1.1 (fun p hp => ?_) (Or.inl rfl)
    rcases (hm p).1 hp with hp | rfl
    · exact i1 p hp
    · exact ⟨hz1, Or.inl hz2⟩
  refine ⟨⟨one, two⟩, fun h => ?_⟩
  obtain ⟨i1, i2, i3, i4⟩ := frameE_ok _ _ _ _ hl h
  obtain ⟨j1, j2, j3, j4⟩ := frameE_ok _ _ _ _ (by simp [hl]) (two h)
  rcases i3 with i3 | ⟨p, hp, hc⟩
  · rcases j3 with j3 | ⟨q, hq, hd⟩
    · rw [i3, j3]
    · rcases (hm q).1 hq with hq | rfl
      · rcases (i1 q hq).2 with h1 | h1
        · rw [← hd, h1, i3]
        · rw [← hd, h1]
      · rw [← hd, hz2, i3]
  · rcases (j1 p ((hm p).2 (Or.inl hp))).2 with h1 | h1
    · rcases j3 with j3 | ⟨q, hq, hd⟩
      · rw [j3, ← hc, h1]
      · rcases (hm q).1 hq with hq | rfl
        · rcases (i1 q hq).2 with h2 | h2
          · rw [← hd, h2, ← hc, h1]
          · rw [← hd, h2]
        · rw [← hd, hz2, ← hc, h1]
    · rw [← h1, hc]

def rng (n : Nat) : List Int := (List.range n).map fun (i : Nat) => (i : Int)
theorem rng_succ (n : Nat) : rng (n + 1) = rng n ++ [(n : Int)] := by simp [rng, List.range_succ]
theorem rng_len (n : Nat) : (rng n).length = n := by simp [rng]
def axes (n : Nat) (bs : List Bool) : List (List Int) := bs.map fun b => if b then rng n else []

theorem axs_rng (n : Nat) : ∀ (c k : Nat) (p : Option Int), k + c ≤ n → (∀ q, p = some q → q < k) → axsE n p ((List.range' k c).map fun (i : Nat) => (i : Int)) = true
  | 0, _, _, _, _ => by simp [axsE]
  | c + 1, k, p, h, hp => by
    have ih := axs_rng n c (k + 1) (some (k : Int)) (by omega) (fun q hq => by cases hq; omega)
    rw [List.range'_succ, List.map_cons]
    cases p with
    | none =>
      simp only [axsE, ih, Bool.and_true, Bool.and_eq_true, Bool.not_eq_true', decide_eq_false_iff_not]
      omega
    | some q =>
      have := hp q rfl
      simp only [axsE, ih, Bool.and_true, Bool.and_eq_true, Bool.not_eq_true', decide_eq_false_iff_not]
      omega
theorem pick_rng (fr : List Int) : pickE fr (rng fr.length) = (fr, true) := by
  have h1 : axsE fr.length none (rng fr.length) = true := by
    unfold rng
    rw [List.range_eq_range']
    exact axs_rng fr.length fr.length 0 none (by omega) (by simp)
  unfold pickE
  rw [if_pos h1]
  refine Prod.ext ?_ rfl
  simp only [rng, List.map_map]
  apply List.ext_getElem?
  intro i
  rw [List.getElem?_map]
  rcases Nat.lt_or_ge i fr.length with h | h
  · rw [List.getElem?_range h]
    simp [getE, h]
  · rw [List.getElem?_eq_none (by simpa using h), List.getElem?_eq_none h]
    rfl
theorem pick_nil (fr : List Int) : pickE fr [] = ([], true) := by simp [pickE, axsE]

theorem chk_of {fr : List Int} {r : Int} {a : Ar} (h1 : (splitE a r).2 = 0) (h2 : fst1 (a, r) = [] ∨ fst1 (a, r) = fr) : chk1 fr (if (!(fst1 (a, r) == [])) = true then rng fr.length else []) r a = 0 := by
  have hc : checkE a.1 a.2.1 a.2.2 = 0 := by
    unfold splitE at h1
    split at h1
    · simp at h1
    · rename_i h; simpa using h
  have h6 := checkE_dims hc
  have hr : 0 ≤ r ∧ r ≤ (a.2.1.length : Int) := by
    unfold splitE at h1
    rw [if_neg (by simpa using hc)] at h1
    split at h1
    · simp at h1
    · omega
  have hf : fst1 (a, r) = a.2.1.take ((a.2.1.length : Int) - r).toNat := by
    simp only [fst1]
    unfold splitE
    rw [if_neg (by simpa using hc), if_neg (by omega)]
  have hl : (fst1 (a, r)).length = ((a.2.1.length : Int) - r).toNat := by
    rw [hf, List.length_take]
    omega
  have key : (pickE fr (if (!(fst1 (a, r) == [])) = true then rng fr.length else [])) = (fst1 (a, r), true) := by
    by_cases h0 : fst1 (a, r) = []
    · rw [h0, if_neg (by simp), pick_nil]
    · rw [if_pos (by simpa using h0), pick_rng, h2.resolve_left h0]
  unfold chk1
  rw [key, if_neg (by simp [hc]), if_neg, if_neg]
  · simp only
    rw [hl, hf]
    simp
  · simp only
    rw [hl, wrap_in (by omega) (by omega)]
    omega

theorem chkL_of {fr : List Int} : ∀ (l : List Ar) (rs : List Int), (∀ p ∈ l.zip rs, (splitE p.1 p.2).2 = 0 ∧ (fst1 p = [] ∨ fst1 p = fr)) → chkL fr (((l.zip rs).map fun p => !(fst1 p == [])).map fun b => if b = true then rng fr.length else []) rs l = 0
  | [], _, _ => by cases ‹List Int› <;> simp [chkL]
  | _ :: _, [], _ => by simp [chkL]
  | a :: l, r :: rs, h => by
    simp only [List.zip_cons_cons, List.forall_mem_cons] at h
    obtain ⟨⟨h1, h2⟩, h3⟩ := h
    rw [List.zip_cons_cons, List.map_cons, List.map_cons, chkL, if_neg]
    · exact chkL_of l rs h3
    · have := chk_of h1 h2
      simpa using this

theorem check_of {l : List Ar} {rs fr : List Int} {bs : List Bool} {n : Int} (hl : l.length = rs.length) (h : frameA l rs = ((fr, bs), 0)) (hs : sizeE fr = (n, 0)) : checkAll fr (axes fr.length bs) rs l = 0 ∧ bs.length = l.length ∧ (fr = [] → ∀ b ∈ bs, b = false) := by
  have e2 : frameA l rs = frameE l rs [] [] := by unfold frameA; rw [if_neg (by simp [hl])]
  rw [e2] at h
  obtain ⟨i1, i2, i3, i4⟩ := frameE_ok l rs [] [] hl (by rw [h])
  rw [h] at i1 i4
  simp only [List.nil_append] at i1 i4
  have hbl : bs.length = l.length := by rw [i4]; simp [hl]
  refine ⟨?_, hbl, fun h0 b hb => ?_⟩
  · unfold checkAll
    rw [if_neg (by simp [axes, hbl, hl]), hs, if_neg (by simp), if_neg (by simp), i4]
    exact chkL_of l rs i1
  · rw [i4, List.mem_map] at hb
    obtain ⟨p, hp, rfl⟩ := hb
    have := (i1 p hp).2
    rw [h0] at this
    simp at this
    simp [this]

theorem frame_facts {l : List Ar} {rs fr : List Int} {bs : List Bool} (hl : l.length = rs.length) (h : frameA l rs = ((fr, bs), 0)) : bs.length = l.length ∧ (fr = [] → ∀ b ∈ bs, b = false) := by
  have e2 : frameA l rs = frameE l rs [] [] := by unfold frameA; rw [if_neg (by simp [hl])]
  rw [e2] at h
  obtain ⟨i1, i2, i3, i4⟩ := frameE_ok l rs [] [] hl (by rw [h])
  rw [h] at i1 i4
  simp only [List.nil_append] at i1 i4
  refine ⟨by rw [i4]; simp [hl], fun h0 b hb => ?_⟩
  rw [i4, List.mem_map] at hb
  obtain ⟨p, hp, rfl⟩ := hb
  have := (i1 p hp).2
  rw [h0] at this
  simp at this
  simp [this]
end Go.Proofs.Ytoobaeebgnbpjaa.B18
