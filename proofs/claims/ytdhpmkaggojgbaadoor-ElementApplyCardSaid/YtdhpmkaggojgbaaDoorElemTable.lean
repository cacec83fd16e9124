/- The table of the scalar primitives, as the row lists it: its cells. -/
import Derived.Test.YtdhpmkaggojgbaaDoorRows
import Derived.OpenShut
import Derived.ChangeArms
import Derived.ChangeSame
import Derived.Lib.LaidTab
import Derived.Lib.Hide
namespace Go.Proofs.YtdhpmkaggojgbaaDoor.ElemTable
open Go

theorem cells9 : Tryd.prog.cellsOf 9 = 1 := by kernel_rfl
theorem cells47 : Tryd.prog.cellsOf 47 = 3 := by kernel_rfl
theorem cells49 : Tryd.prog.cellsOf 49 = 5 := by kernel_rfl
theorem gTab : Tryd.prog.globalNamed "framewise/element.table" = some 0 := by kernel_rfl
theorem gTabType : (Tryd.prog.globals[0]?).map (·.type) = some 57 := by kernel_rfl

section
variable {H : Type} {enc : TypeId × Value → H} {w : World} {base : Nat} {sp : Nat → Bool} {held : Bool} {fuel : Nat} {cs : List Value} {d : DataW H} {p : List MemPlace}

/-- One string. -/
theorem one (h : DataW.trod enc Tryd.prog w base sp held fuel 9 cs = some (d, p)) : ∃ s : ByteArray, cs = [.string s] ∧ d = .lit (.string s.data.toList) := by
  obtain ⟨s, h1, h2, _⟩ := DataW.trod_string Tryd.underlying9 h
  exact ⟨s, h1, congrArg Prod.fst h2⟩

theorem take_one {l : List Value} {i : Nat} {s : ByteArray} (h : (l.drop i).take 1 = [.string s]) : l[i]? = some (.string s) := by
  have := congrArg (·[0]?) h
  simpa [List.getElem?_take, List.getElem?_drop] using this

/-- Three strings. -/
theorem three (h : DataW.trod enc Tryd.prog w base sp held fuel 47 cs = some (d, p)) :
    ∃ a b c : ByteArray, cs[0]? = some (.string a) ∧ cs[1]? = some (.string b) ∧ cs[2]? = some (.string c) ∧ d = .agg [.lit (.string a.data.toList), .lit (.string b.data.toList), .lit (.string c.data.toList)] := by
  obtain ⟨xs, m, _, hx, hl, hn, hf⟩ := DataW.trod_array Tryd.underlying47 h
  match xs, hn with
  | [x0, x1, x2], _ =>
    have f0 := hf 0 (by omega)
    have f1 := hf 1 (by omega)
    have f2 := hf 2 (by omega)
    rw [cells9] at f0 f1 f2
    obtain ⟨a, ha, ha2⟩ := one (d := x0.1) (p := x0.2) f0
    obtain ⟨b, hb, hb2⟩ := one (d := x1.1) (p := x1.2) f1
    obtain ⟨c, hc, hc2⟩ := one (d := x2.1) (p := x2.2) f2
    refine ⟨a, b, c, take_one ha, take_one hb, take_one hc, ?_⟩
    have := congrArg Prod.fst hx
    simp only [List.map_cons, List.map_nil] at this
    rw [this, ha2, hb2, hc2]

/-- A row of the table. -/
theorem row (h : DataW.trod enc Tryd.prog w base sp held fuel 49 cs = some (d, p)) :
    ∃ n a b c r : ByteArray, cs[0]? = some (.string n) ∧ cs[1]? = some (.string a) ∧ cs[2]? = some (.string b) ∧ cs[3]? = some (.string c) ∧ cs[4]? = some (.string r) ∧
      d = .agg [.lit (.string n.data.toList), .agg [.lit (.string a.data.toList), .lit (.string b.data.toList), .lit (.string c.data.toList)], .lit (.string r.data.toList)] := by
  obtain ⟨xs, m, _, hx, hl, hn, hf⟩ := DataW.trod_struct Tryd.underlying49 h
  match xs, hn with
  | [x0, x1, x2], _ =>
    have f0 : DataW.trod enc Tryd.prog w base sp held m 9 ((cs.drop 0).take (Tryd.prog.cellsOf 9)) = some x0 := hf 0 _ rfl
    have f1 : DataW.trod enc Tryd.prog w base sp held m 47 ((cs.drop 1).take (Tryd.prog.cellsOf 47)) = some x1 := hf 1 _ rfl
    have f2 : DataW.trod enc Tryd.prog w base sp held m 9 ((cs.drop 4).take (Tryd.prog.cellsOf 9)) = some x2 := hf 2 _ rfl
    rw [cells9] at f0 f2
    rw [cells47] at f1
    obtain ⟨n, hn1, hn2⟩ := one (d := x0.1) (p := x0.2) f0
    obtain ⟨a, b, c, ha, hb, hc, h2⟩ := three (d := x1.1) (p := x1.2) f1
    obtain ⟨r, hr1, hr2⟩ := one (d := x2.1) (p := x2.2) f2
    refine ⟨n, a, b, c, r, take_one hn1, ?_, ?_, ?_, take_one hr1, ?_⟩
    · simpa [List.getElem?_take, List.getElem?_drop] using ha
    · simpa [List.getElem?_take, List.getElem?_drop] using hb
    · simpa [List.getElem?_take, List.getElem?_drop] using hc
    · have := congrArg Prod.fst hx
      simp only [List.map_cons, List.map_nil] at this
      rw [this, hn2, h2, hr2]
end

/-- The five strings of a row of a datum. -/
def strings {H : Type} : DataW H → List (List UInt8)
  | .agg [.lit (.string n), .agg [.lit (.string a), .lit (.string b), .lit (.string c)], .lit (.string r)] => [n, a, b, c, r]
  | _ => []
def rowsOf {H : Type} : DataW H → List (List (List UInt8))
  | .agg xs => xs.map strings
  | _ => []

/-- The rows of the table. -/
def tab : List (List (List UInt8)) := rowsOf (Rows.laid_framewise_element_table (H := Unit))

theorem tab_length : tab.length = 22 := by decide
theorem tab_rows : tab.all (fun r => r.length == 5) = true := by decide

/-- The cell at place j of row i. -/
def str (i j : Nat) : ByteArray := ⟨((tab.getD i []).getD j []).toArray⟩

/-- The table lies in memory. -/
def Tab (W : World) : Prop := ∀ i j, i < 22 → j < 5 → W.cell? ⟨0, 5 * i + j, none⟩ = some (.string (str i j))

theorem tab_laid {W : World} (h : laidMetH Tryd.prog [("framewise/element.table", Rows.laid_framewise_element_table)] W) : Tab W := by
  have h' : laidMet Tryd.prog [("framewise/element.table", Rows.laid_framewise_element_table)] W := h
  obtain ⟨ps, ⟨g', t', cs, fuel, p, q, hg', ht', hvar, hd, _, _⟩, _⟩ := h'
  obtain rfl := Option.some.inj (gTab.symm.trans hg')
  obtain rfl := Option.some.inj (gTabType.symm.trans ht')
  intro i j hi hj
  obtain ⟨xs, m, _, hx, hl, hn, hf⟩ := DataW.trod_array Tryd.underlying57 hd
  have hfi := hf i hi
  have hil : i < xs.length := by omega
  rw [cells49, List.getElem?_eq_getElem hil] at hfi
  obtain ⟨n, a, b, c, r, h0, h1, h2, h3, h4, hd2⟩ := row (d := xs[i].1) (p := xs[i].2) hfi
  have hrow : tab.getD i [] = [n.data.toList, a.data.toList, b.data.toList, c.data.toList, r.data.toList] := by
    have e := congrArg Prod.fst hx
    simp only at e
    unfold tab
    rw [e]
    simp only [rowsOf, List.map_map]
    rw [List.getD, List.getElem?_map, List.getElem?_eq_getElem hil]
    simp [hd2, strings]
  have hcell := World.var?_cell gTab hvar (5 * i + j)
  rw [hcell]
  have base : ∀ k, k < 5 → cs[5 * i + k]? = ((cs.toList.drop (i * 5)).take 5)[k]? := by
    intro k hk
    rw [List.getElem?_take, if_pos hk, List.getElem?_drop, Array.getElem?_toList, Nat.mul_comm]
  rw [base j hj]
  unfold str
  rw [hrow]
  match j, hj with
  | 0, _ => rw [h0]; simp
  | 1, _ => rw [h1]; simp
  | 2, _ => rw [h2]; simp
  | 3, _ => rw [h3]; simp
  | 4, _ => rw [h4]; simp

end Go.Proofs.YtdhpmkaggojgbaaDoor.ElemTable
