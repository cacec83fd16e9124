/- Slices of structs of integers that came in as parameters. -/
import Derived.Test.YtdhpmkaggojgbaaDoorFields
import Derived.Test.YtdhpmkaggojgbaaDoorTexts
namespace Go.Proofs.YtdhpmkaggojgbaaDoor
open Go.RowKit Go.WideShapes Go.ChangeShapes Go.ChangeMaps

/-- A slice of structs of n integers that lies below block B. -/
def LiesR (w : World) (k : IntKind) (n B : Nat) (A : Option Addr) (rows : List (List Int)) : Prop :=
  0 < rows.length → ∃ ad : Addr, A = some ad ∧ ad.block < B ∧ ∀ i, i < rows.length → ∀ j, j < n → w.cell? (ad.add (i * n + j)) = some (.int k ((rows.getD i []).getD j 0))

theorem LiesR.below {w w' : World} {k : IntKind} {n B : Nat} {A : Option Addr} {rows : List (List Int)} (h : LiesR w k n B A rows) (hb : Below B w w') : LiesR w' k n B A rows := fun h0 => by
  obtain ⟨ad, e, hlt, hc⟩ := h h0
  exact ⟨ad, e, hlt, fun i hi j hj => (hb.cell (by rw [block_add_of]; exact hlt)).trans (hc i hi j hj)⟩
theorem LiesR.more {w : World} {k : IntKind} {n B B' : Nat} {A : Option Addr} {rows : List (List Int)} (h : LiesR w k n B A rows) (hB : B ≤ B') : LiesR w k n B' A rows := fun h0 => by
  obtain ⟨ad, e, hlt, hc⟩ := h h0
  exact ⟨ad, e, Nat.lt_of_lt_of_le hlt hB, hc⟩
theorem LiesR.later {w w' : World} {k : IntKind} {n : Nat} {A : Option Addr} {rows : List (List Int)} (h : LiesR w k n w.heap.size A rows) (hb : Below w.heap.size w w') : LiesR w' k n w'.heap.size A rows := (h.below hb).more hb.size

section
variable {H : Type} {enc : TypeId × Value → H} {P : Program}

theorem fieldRow {e ei : TypeId} {n fuel : Nat} {fs : Array Field} {k : IntKind} {w : World} {cs : List Value} {x : DataW H × List MemPlace} (ht : P.underlying e = some (.struct fs)) (hfs : fs.size = n) (hff : ∀ i, i < n → ∃ f, fs[i]? = some f ∧ f.type = ei ∧ f.offset = i) (he : P.underlying ei = some (.int k)) (hc : P.cellsOf ei = 1) (hct : P.cellsOf e = n)
    (h : DataW.trod enc P w 0 (fun _ => true) true fuel e cs = some x) : ∃ zs : List Int, zs.length = n ∧ cs = zs.map (Value.int k) ∧ ∀ z ∈ zs, (Lit.int k z).wf = true := by
  obtain ⟨xs, m, _, hx, hs, hn, hi⟩ := DataW.trod_struct ht h
  rw [hfs] at hn
  rw [hct] at hs
  have one : ∀ i, i < n → ∃ b, cs[i]? = some (.int k b) ∧ (Lit.int k b).wf = true := fun i h => by
    obtain ⟨f, h1, h2, h3⟩ := hff i h
    have hx := hi i f h1
    rw [h2, h3, hc, List.getElem?_eq_getElem (by omega)] at hx
    obtain ⟨b, h1, h2, h3⟩ := DataW.trod_int he hx
    exact ⟨b, cell_of_take h1, h3⟩
  have all : ∀ v ∈ cs, ∃ b, v = Value.int k b ∧ (Lit.int k b).wf = true := fun v hv => by
    obtain ⟨i, hi, rfl⟩ := List.getElem_of_mem hv
    obtain ⟨b, hb, hw⟩ := one i (by omega)
    rw [List.getElem?_eq_getElem hi] at hb
    exact ⟨b, Option.some.inj hb, hw⟩
  have lift : ∀ l : List Value, (∀ v ∈ l, ∃ b, v = Value.int k b ∧ (Lit.int k b).wf = true) → ∃ zs : List Int, l = zs.map (Value.int k) ∧ ∀ z ∈ zs, (Lit.int k z).wf = true := by
    intro l
    induction l with
    | nil => exact fun _ => ⟨[], rfl, fun z hz => by cases hz⟩
    | cons a l ih =>
      intro h
      obtain ⟨b, rfl, hb⟩ := h a (by simp)
      obtain ⟨bs, rfl, hr⟩ := ih (fun v hv => h v (by simp [hv]))
      exact ⟨b :: bs, rfl, fun z hz => by
        rcases List.mem_cons.1 hz with rfl | hz
        · exact hb
        · exact hr z hz⟩
  obtain ⟨zs, rfl, hw⟩ := lift _ all
  exact ⟨zs, by simpa using hs, rfl, hw⟩

theorem pickRows {α : Type} {Q : Nat → α → Prop} : ∀ (n : Nat), (∀ i, i < n → ∃ x, Q i x) → ∃ l : List α, l.length = n ∧ ∀ (i : Nat) (h : i < l.length), Q i l[i]
  | 0, _ => ⟨[], rfl, fun i h => by simp at h⟩
  | n + 1, h => by
    obtain ⟨l, hl, hq⟩ := pickRows n (fun i hi => h i (by omega))
    obtain ⟨x, hx⟩ := h n (by omega)
    refine ⟨l ++ [x], by simp [hl], fun i hi => ?_⟩
    by_cases h1 : i < l.length
    · rw [List.getElem_append_left h1]; exact hq i h1
    · have h2 : i = l.length := by simp at hi; omega
      subst h2
      rw [List.getElem_append_right (Nat.le_refl _)]
      simp only [Nat.sub_self, List.getElem_cons_zero]
      rw [hl]; exact hx

theorem comesRows {t e ei : TypeId} {n : Nat} {fs : Array Field} {k : IntKind} {w : World} {r : Reach} {b0 : Nat} {v : Value} {d : DataW H} {ps : List MemPlace} (ht0 : P.underlying t = some (.slice e)) (ht : P.underlying e = some (.struct fs)) (hfs : fs.size = n) (hff : ∀ i, i < n → ∃ f, fs[i]? = some f ∧ f.type = ei ∧ f.offset = i) (he : P.underlying ei = some (.int k)) (hc : P.cellsOf ei = 1) (hct : P.cellsOf e = n) (hn : 0 < n)
    (hval : Value.okWide P w r b0 t v) (h : DataW.Trod enc P w 0 (fun _ => true) true t v d ps) :
    ∃ (A : Option Addr) (cap : Nat) (rows : List (List Int)), v = .slice A rows.length cap ∧ LiesR w k n w.heap.size A rows ∧ (∀ z ∈ rows, z.length = n ∧ ∀ x ∈ z, (Lit.int k x).wf = true) ∧ (rows.length ≤ cap ∧ cap ≤ maxLen) ∧ (A = none → cap = 0) := by
  obtain ⟨a0, len0, cap0, rfl⟩ := okWide_slice ht0 hval
  obtain ⟨fuel, hf⟩ := h
  rcases DataW.trod_slice ht0 hf with ⟨hcs, hx⟩ | ⟨a, len, cap, elems, rest, m, _, hcs, hx, hb, hl, hm, hlen, hel, hsp, hns⟩
  · have hv : (Value.slice a0 len0 cap0) = .slice none 0 0 := by simpa [Value.cells] using hcs
    rw [hv]
    exact ⟨none, 0, [], rfl, fun h => by simp at h, fun _ h => (by cases h), ⟨by simp, by simp⟩, fun _ => rfl⟩
  · have hv : (Value.slice a0 len0 cap0) = .slice (some a) len cap := by simpa [Value.cells] using hcs
    have one : ∀ i, i < len → ∃ zs : List Int, zs.length = n ∧ (∀ z ∈ zs, (Lit.int k z).wf = true) ∧ ∀ j, j < n → w.cell? (a.add (i * n + j)) = some (.int k (zs.getD j 0)) := fun i hi => by
      have hy := hel i hi
      rw [List.getElem?_eq_getElem (by omega), Option.bind_eq_some_iff] at hy
      obtain ⟨cs, h1, h2⟩ := hy
      obtain ⟨zs, z1, rfl, z2⟩ := fieldRow ht hfs hff he hc hct h2
      refine ⟨zs, z1, z2, fun j hj => ?_⟩
      rw [hct] at h1
      have h3 := (World.cells?_some h1).2.2 j hj
      rw [Addr.add_add] at h3
      rw [h3, List.getElem?_map, List.getElem?_eq_getElem (by omega), List.getD_eq_getElem?_getD, List.getElem?_eq_getElem (by omega)]
      rfl
    obtain ⟨rows, r1, r2⟩ := pickRows len one
    refine ⟨some a, cap, rows, by rw [r1]; exact hv, fun h0 => ⟨a, rfl, ?_, fun i hi j hj => ?_⟩, fun z hz => ?_, ⟨by omega, hm⟩, fun h => by cases h⟩
    · have := cell_lt ((r2 0 h0).2.2 0 hn)
      rw [block_add_of] at this
      exact this
    · rw [(r2 i hi).2.2 j hj]
      simp [List.getD, hi]
    · obtain ⟨i, hi, rfl⟩ := List.getElem_of_mem hz
      exact ⟨(r2 i hi).1, (r2 i hi).2.1⟩
end

end Go.Proofs.YtdhpmkaggojgbaaDoor
