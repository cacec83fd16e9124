/- The program's tables, as the rows list them, lie in memory; and a world in which they do. -/
import Derived.Test.YtanhljpmknfabaaDoorLexTok
import Derived.Test.YtanhljpmknfabaaDoorRows
import Derived.LaidLaws
import Derived.Lib.LaidU8
import Derived.Lay
import Derived.MakeChecks
import Derived.OpenShut
import Derived.LaidMore
import Derived.Deep.DeepHandedRow
namespace Go.Proofs.YtanhljpmknfabaaDoor.LexLaid
set_option linter.unusedVariables false
open Go Go.RowKit Go.Proofs.YtanhljpmknfabaaDoor.LexModel Go.Proofs.YtanhljpmknfabaaDoor.LexSkip Go.Proofs.YtanhljpmknfabaaDoor.LexTok

theorem block_of_var {P : Program} {w : World} {n : String} {g : Nat} {cs : Array Value} (hg : P.globalNamed n = some g) (h : w.var? P n = some cs) : ∃ t fr, w.heap[g]? = some (.cells cs t fr) := by
  simp only [World.var?, hg, Option.bind_some] at h
  split at h
  · rename_i cs' t fr hh
    cases h
    exact ⟨t, fr, hh⟩
  · cases h

theorem lit_inj {a b : List UInt8} (h : (.lit (.string a) : DataW Unit) = .lit (.string b)) : a = b := by
  injection h with h
  injection h

theorem cells_string : Tryd.prog.cellsOf 9 = 1 := by kernel_rfl

theorem strings_of {w : World} {name : String} {g n : Nat} {t : TypeId} {l : List (List UInt8)} (hl : l.length = n) (hg : Tryd.prog.globalNamed name = some g) (ht : (Tryd.prog.globals[g]?).map (·.type) = some t) (hu : Tryd.prog.underlying t = some (.array n 9)) (hc : Tryd.prog.cellsOf t = n)
    (h : Lib.VarReads Tryd.prog w name (.agg (l.map fun s => .lit (.string s)))) : ∃ t fr, w.heap[g]? = some (.cells (strs l) t fr) := by
  obtain ⟨g', t', cs, fuel, p, hg', ht', hvar, hd⟩ := h
  obtain rfl := Option.some.inj (hg.symm.trans hg')
  obtain rfl := Option.some.inj (ht.symm.trans ht')
  obtain ⟨t2, fr, hb⟩ := block_of_var hg hvar
  refine ⟨t2, fr, ?_⟩
  rw [hb]
  obtain ⟨xs, m, _, hx, hlen, hn, hf⟩ := DataW.trod_array hu hd
  have hx1 : xs.map (·.1) = l.map fun s => (DataW.lit (.string s) : DataW Unit) := by
    have := congrArg Prod.fst hx
    simpa using this.symm
  have hcs : cs = strs l := by
    apply Array.ext_getElem?
    intro i
    by_cases hi : i < n
    · have hfi := hf i hi
      have hil : i < xs.length := by omega
      rw [cells_string, List.getElem?_eq_getElem hil, Nat.mul_one] at hfi
      obtain ⟨s, h1, h2⟩ := DataW.trod_string Tryd.underlying9 (x := xs[i]) hfi
      have h3 : cs.toList[i]? = some (.string s) := by
        have := congrArg (·[0]?) h1
        simpa [List.getElem?_take, List.getElem?_drop] using this
      have h4 : xs[i].1 = .lit (.string (l[i]'(by omega))) := by
        have := congrArg (·[i]?) hx1
        simp only [List.getElem?_map, List.getElem?_eq_getElem hil, List.getElem?_eq_getElem (show i < l.length by omega), Option.map_some, Option.some.injEq] at this
        exact this
      have h5 : (.lit (.string s.data.toList) : DataW Unit) = .lit (.string (l[i]'(by omega))) := by rw [← h4, h2.1]
      have h6 : s.data.toList = l[i]'(by omega) := lit_inj h5
      rw [strs_get l i (by omega), ← h6, sv_data, ← Array.getElem?_toList]
      exact h3
    · rw [Array.getElem?_eq_none (by rw [← Array.length_toList, hlen, hc]; omega), Array.getElem?_eq_none (by rw [strs_size]; omega)]
  rw [hcs]

theorem iface_of {w : World} {name : String} {g : Nat} {t : TypeId} {ms : Array (String × TypeId)} {nm : String} {d : DataW Unit} (hg : Tryd.prog.globalNamed name = some g) (ht : (Tryd.prog.globals[g]?).map (·.type) = some t) (hu : Tryd.prog.underlying t = some (.interface ms))
    (h : Lib.VarReads Tryd.prog w name (.iface nm d)) : ∃ te pe, w.cell? ⟨g, 0, none⟩ = some (.iface te pe) := by
  obtain ⟨g', t', cs, fuel, p, hg', ht', hvar, hd⟩ := h
  obtain rfl := Option.some.inj (hg.symm.trans hg')
  obtain rfl := Option.some.inj (ht.symm.trans ht')
  obtain ⟨_, u, v, hcs, _, _⟩ := iface_of_trod hu hd
  refine ⟨u, v, ?_⟩
  rw [World.var?_cell hg hvar 0, ← Array.getElem?_toList, hcs]
  rfl

/-- What the rows list. -/
abbrev laid : List (String × DataW Unit) := Rows.lexerLongestRow.laid

theorem plain : (laid.all fun x => x.2.handleName?.isNone) = true := by kernel_rfl

theorem in_laid {n : String} {d : DataW Unit} (i : Nat) (h : laid[i]? = some (n, d)) : (n, d) ∈ laid := List.mem_of_getElem? h

theorem tab_laid {W : World} (h : laidMetH Tryd.prog laid W) : Tab W := by
  rw [MakeChecks.laidMetH_plain _ _ _ plain] at h
  refine ⟨strings_of (n := 14) rfl (by kernel_rfl) (by kernel_rfl) Tryd.underlying60 (by kernel_rfl) (Lib.laidMet.reads (n := "framewise/lexer.reserved") h (in_laid 6 rfl)),
    strings_of (n := 28) rfl (by kernel_rfl) (by kernel_rfl) Tryd.underlying72 (by kernel_rfl) (Lib.laidMet.reads (n := "framewise/lexer.symbols") h (in_laid 7 rfl)),
    iface_of (by kernel_rfl) (by kernel_rfl) Tryd.underlying54 (Lib.laidMet.reads (n := "strconv.ErrRange") h (in_laid 4 rfl))⟩

theorem met (os : Os) (args : Array Value) : laidMetH Tryd.prog laid ((World.laidAll Tryd.prog os laid).forCall (fun _ _ => 0) ⟨#[], args, []⟩).memory := by
  rw [MakeChecks.laidMetH_plain _ _ _ plain]
  exact laidMet_laidAll _ (by kernel_rfl) (by kernel_rfl)

theorem shaped (os : Os) (args : Array Value) : ((World.laidAll Tryd.prog os laid).forCall (fun _ _ => 0) ⟨#[], args, []⟩).Shaped Tryd.prog :=
  World.shaped_of_ZipB (by kernel_rfl) (by kernel_rfl)

/-- A world that fits, for the rows' witness. -/
theorem witness {H : Type} {enc : TypeId × Value → H} {os : Os} {f : FuncId} {fn : Func} {s : OpenSpec} {conds : List PathCond} {apart : Bool} (args : Array Value)
    (hok : Input.okWideB Tryd.checked.prog ((World.laidAll Tryd.prog os laid).forCall (fun _ _ => 0) ⟨#[], args, []⟩) f ⟨#[], args, []⟩ = true)
    (hrow : s.preRow enc Tryd.checked.prog fn conds apart laid ((World.laidAll Tryd.prog os laid).forCall (fun _ _ => 0) ⟨#[], args, []⟩).memory args) :
    ∃ (w : World) (tape : Tape) (i : Input), w.os = os ∧ (w.forCall tape i).Shaped Tryd.checked.prog ∧ i.vars = [] ∧ Input.okWide Tryd.checked.prog (w.forCall tape i) .any w.heap.size f i ∧
      s.preRow enc Tryd.checked.prog fn conds apart laid (w.forCall tape i).memory i.args ∧ ({ modest := false } : Assume).holds Tryd.checked.prog (lone (Frame.enter Tryd.checked.prog f i.args .normal) [] (w.forCall tape i)) :=
  ⟨World.laidAll Tryd.prog os laid, fun _ _ => 0, ⟨#[], args, []⟩, World.laidAll_os _ _ _, shaped os args, (Input.okWide_of_okWideB (base := 0) hok).1, (Input.okWide_of_okWideB hok).2, hrow, by
    simp only [Assume.holds]
    exact ⟨by simp, fun h => (Bool.false_ne_true h).elim, fun h => (Bool.false_ne_true h).elim, fun _ h => by simp at h, fun _ h => by simp at h, fun h => (Bool.false_ne_true h).elim⟩⟩

end Go.Proofs.YtanhljpmknfabaaDoor.LexLaid
