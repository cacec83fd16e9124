/- Arrays of bools and of integers that came in as parameters. -/
import Derived.Test.YtdhpmkaggojgbaaDoorLaw
import Derived.ChangeArms
namespace Go.Proofs.YtdhpmkaggojgbaaDoor
open Go.RowKit Go.WideShapes Go.ChangeShapes

section
variable {H : Type} {enc : TypeId × Value → H} {P : Program}

theorem arrCells {t e : TypeId} {n : Nat} {w : World} {r : Reach} {b0 : Nat} {v : Value} {d : DataW H} {ps : List MemPlace} (ht : P.underlying t = some (.array n e)) (hc : P.cellsOf e = 1)
    (hval : Value.okWide P w r b0 t v) (h : DataW.Trod enc P w 0 (fun _ => true) true t v d ps) :
    ∃ (cs : Array Value) (xs : List (DataW H × List MemPlace)) (m : Nat), v = .agg cs ∧ xs.length = n ∧ cs.size = P.cellsOf t ∧ ps = xs.flatMap (·.2) ∧ ∀ (i : Nat), i < n → DataW.trod enc P w 0 (fun _ => true) true m e ((cs.toList.drop i).take 1) = xs[i]? := by
  have hv : ∃ cs : Array Value, v = .agg cs ∧ cs.size = P.cellsOf t := by
    simp only [Value.okWide, ht] at hval
    obtain ⟨cs, h1, h2, _⟩ := hval
    exact ⟨cs, h1, h2⟩
  obtain ⟨cs, rfl, hs⟩ := hv
  obtain ⟨fuel, hf⟩ := h
  obtain ⟨xs, m, _, hx, _, hn, hi⟩ := DataW.trod_array ht hf
  rw [hc] at hi
  refine ⟨cs, xs, m, rfl, hn, hs, congrArg Prod.snd hx, fun i h => ?_⟩
  have := hi i h
  rw [Nat.mul_one] at this
  simpa [Value.cells] using this

theorem cell_of_take {l : List Value} {i : Nat} {v : Value} (h : (l.drop i).take 1 = [v]) : l[i]? = some v := by
  have := congrArg (·[0]?) h
  simpa [List.getElem?_take, List.getElem?_drop] using this

theorem flat_none {xs : List (DataW H × List MemPlace)} (h : ∀ (i : Nat) (y : DataW H × List MemPlace), xs[i]? = some y → y.2 = []) : xs.flatMap (·.2) = [] := by
  rw [List.flatMap_eq_nil_iff]
  intro y hy
  obtain ⟨i, hi, rfl⟩ := List.getElem_of_mem hy
  exact h i _ (List.getElem?_eq_getElem hi)

theorem comesBools {t e : TypeId} {n : Nat} {w : World} {r : Reach} {b0 : Nat} {v : Value} {d : DataW H} {ps : List MemPlace} (ht : P.underlying t = some (.array n e)) (he : P.underlying e = some .bool) (hc : P.cellsOf e = 1) (hct : P.cellsOf t = n)
    (hval : Value.okWide P w r b0 t v) (h : DataW.Trod enc P w 0 (fun _ => true) true t v d ps) :
    ∃ bs : List Bool, bs.length = n ∧ v = .agg (bs.map Value.bool).toArray ∧ ps = [] := by
  obtain ⟨cs, xs, m, rfl, hn, hs, hp, hi⟩ := arrCells ht hc hval h
  have one : ∀ i, i < n → ∃ b, cs.toList[i]? = some (.bool b) ∧ ∃ y, xs[i]? = some y ∧ y.2 = [] := fun i h => by
    have hx := hi i h
    rw [List.getElem?_eq_getElem (by omega)] at hx
    obtain ⟨b, h1, h2⟩ := DataW.trod_bool he hx
    exact ⟨b, cell_of_take h1, _, List.getElem?_eq_getElem (by omega), by rw [h2]⟩
  have all : ∀ v ∈ cs.toList, ∃ b, v = Value.bool b := fun v hv => by
    obtain ⟨i, hi, rfl⟩ := List.getElem_of_mem hv
    obtain ⟨b, hb, _⟩ := one i (by simpa [hs, hct] using hi)
    rw [List.getElem?_eq_getElem hi] at hb
    exact ⟨b, Option.some.inj hb⟩
  have lift : ∀ l : List Value, (∀ v ∈ l, ∃ b, v = Value.bool b) → ∃ bs : List Bool, l = bs.map Value.bool := by
    intro l
    induction l with
    | nil => exact fun _ => ⟨[], rfl⟩
    | cons a l ih =>
      intro h
      obtain ⟨b, rfl⟩ := h a (by simp)
      obtain ⟨bs, rfl⟩ := ih (fun v hv => h v (by simp [hv]))
      exact ⟨b :: bs, rfl⟩
  obtain ⟨bs, hbs⟩ := lift _ all
  refine ⟨bs, ?_, by rw [← hbs], ?_⟩
  · have := congrArg List.length hbs
    simp at this
    omega
  · rw [hp]
    refine flat_none fun i y hy => ?_
    have hlt := (List.getElem?_eq_some_iff.1 hy).1
    obtain ⟨_, _, y', hy', he'⟩ := one i (by omega)
    rw [hy] at hy'
    cases hy'
    exact he'

theorem comesNums {t e : TypeId} {n : Nat} {k : IntKind} {w : World} {r : Reach} {b0 : Nat} {v : Value} {d : DataW H} {ps : List MemPlace} (ht : P.underlying t = some (.array n e)) (he : P.underlying e = some (.int k)) (hc : P.cellsOf e = 1) (hct : P.cellsOf t = n)
    (hval : Value.okWide P w r b0 t v) (h : DataW.Trod enc P w 0 (fun _ => true) true t v d ps) :
    ∃ zs : List Int, zs.length = n ∧ v = .agg (zs.map (Value.int k)).toArray ∧ ps = [] ∧ ∀ z ∈ zs, (Lit.int k z).wf = true := by
  obtain ⟨cs, xs, m, rfl, hn, hs, hp, hi⟩ := arrCells ht hc hval h
  have one : ∀ i, i < n → ∃ b, (cs.toList[i]? = some (.int k b) ∧ (Lit.int k b).wf = true) ∧ ∃ y, xs[i]? = some y ∧ y.2 = [] := fun i h => by
    have hx := hi i h
    rw [List.getElem?_eq_getElem (by omega)] at hx
    obtain ⟨b, h1, h2, h3⟩ := DataW.trod_int he hx
    exact ⟨b, ⟨cell_of_take h1, h3⟩, _, List.getElem?_eq_getElem (by omega), by rw [h2]⟩
  have all : ∀ v ∈ cs.toList, ∃ b, v = Value.int k b ∧ (Lit.int k b).wf = true := fun v hv => by
    obtain ⟨i, hi, rfl⟩ := List.getElem_of_mem hv
    obtain ⟨b, ⟨hb, hw⟩, _⟩ := one i (by simpa [hs, hct] using hi)
    rw [List.getElem?_eq_getElem hi] at hb
    exact ⟨b, Option.some.inj hb, hw⟩
  have lift : ∀ l : List Value, (∀ v ∈ l, ∃ b, v = Value.int k b ∧ (Lit.int k b).wf = true) → ∃ zs : List Int, l = zs.map (Value.int k) ∧ ∀ z ∈ zs, (Lit.int k z).wf = true := by
    intro l
    induction l with
    | nil => exact fun _ => ⟨[], rfl, fun z hz => by cases hz⟩
    | cons a l ih =>
      intro h
      obtain ⟨b, rfl, hb⟩ := h a (by simp)
      obtain ⟨bs, rfl, hr⟩ := ih (fun v hv => h v (by simp [hv]))
      exact ⟨b :: bs, rfl, fun z hz => by
        rcases List.mem_cons.1 hz with rfl | hz
        · exact hb
        · exact hr z hz⟩
  obtain ⟨zs, hzs, hw⟩ := lift _ all
  refine ⟨zs, ?_, by rw [← hzs], ?_, hw⟩
  · have := congrArg List.length hzs
    simp at this
    omega
  · rw [hp]
    refine flat_none fun i y hy => ?_
    have hlt := (List.getElem?_eq_some_iff.1 hy).1
    obtain ⟨_, _, y', hy', he'⟩ := one i (by omega)
    rw [hy] at hy'
    cases hy'
    exact he'
end
end Go.Proofs.YtdhpmkaggojgbaaDoor
