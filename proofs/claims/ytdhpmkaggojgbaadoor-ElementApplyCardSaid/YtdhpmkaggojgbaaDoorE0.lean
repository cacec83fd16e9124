/- The table of the scalar primitives, as the walk over values knows it. -/
import Derived.Test.YtdhpmkaggojgbaaDoorEng
import Derived.Test.YtdhpmkaggojgbaaDoorTy
import Derived.Test.YtdhpmkaggojgbaaDoorBase
import Derived.Test.YtdhpmkaggojgbaaDoorElemAwake
import Derived.Laws.EntriesVeiled
namespace Go.Proofs.YtdhpmkaggojgbaaDoor.E0
open Go Go.Proofs.YtdhpmkaggojgbaaDoor.Eng Go.Proofs.YtdhpmkaggojgbaaDoor Go.RowKit Go.Proofs.YtdhpmkaggojgbaaDoor.ElemTable
set_option linter.unusedSimpArgs false
set_option linter.unusedVariables false
set_option linter.unusedSectionVars false
set_option maxRecDepth 100000

abbrev I (n : Int) : AV := .c (.int .i64 n)
abbrev B (b : Bool) : AV := .c (.bool b)
abbrev S (s : ByteArray) : AV := .c (.string s)
structure Rw where
  n : ByteArray
  a : ByteArray
  b : ByteArray
  c : ByteArray
  r : ByteArray
abbrev rwV (r : Rw) : List AV := [S r.n, S r.a, S r.b, S r.c, S r.r]
def rwOf : List ByteArray → Rw
  | [n, a, b, c, r] => ⟨n, a, b, c, r⟩
  | _ => ⟨⟨#[]⟩, ⟨#[]⟩, ⟨#[]⟩, ⟨#[]⟩, ⟨#[]⟩⟩
def rws : List Rw := elemRows.map rwOf
theorem rws_len : rws.length = 22 := by kernel_rfl
theorem chunk_is : chunk 22 5 elemTab = rws.map rwV := by kernel_rfl
theorem tab_len : elemTab.length = 110 := by kernel_rfl
theorem tab_v : tabV 0 = .dptr elemTab := by kernel_rfl
theorem elem_str : (List.range 110).all (fun k => decide (elemRows.flatten[k]? = some (str (k / 5) (k % 5)))) = true := by kernel_rfl
theorem elem_at {k : Nat} (h : k < 110) : elemRows.flatten[k]? = some (str (k / 5) (k % 5)) := of_decide_eq_true (List.all_eq_true.1 elem_str k (List.mem_range.2 h))
theorem elem_len : elemRows.flatten.length = 110 := by kernel_rfl
theorem repCs_strs {ok : Nat → Prop} {w : World} {b : Nat} : ∀ (l : List ByteArray) (o : Nat), (∀ j s, l[j]? = some s → w.cell? ⟨b, o + j, none⟩ = some (.string s)) → RepCs ok w b o (l.map fun s => AV.c (.string s))
  | [], _, _ => trivial
  | s :: l, o, h => ⟨⟨_, h 0 s rfl, rfl, rfl⟩, repCs_strs l (o + 1) fun j t hj => by
    rw [show o + 1 + j = o + (j + 1) by omega]
    exact h (j + 1) t (by simpa using hj)⟩
theorem repCs_get {ok : Nat → Prop} {w : World} {b : Nat} : ∀ (l : List ByteArray) (o : Nat), RepCs ok w b o (l.map fun s => AV.c (.string s)) → ∀ j s, l[j]? = some s → w.cell? ⟨b, o + j, none⟩ = some (.string s)
  | [], _, _, j, s, hj => by cases hj
  | u :: l, o, h, j, s, hj => by
    obtain ⟨⟨v, hv, _, hr⟩, hr2⟩ := h
    cases j with
    | zero =>
      cases hj
      have e : v = .string u := hr
      rw [← e]
      exact hv
    | succ j =>
      have := repCs_get l (o + 1) hr2 j s (by simpa using hj)
      rwa [show o + 1 + j = o + (j + 1) by omega] at this
theorem tabOk {W : World} (h : Tab W) : TabOk (fun k => k < W.heap.size) W := by
  intro g xs hm
  have e : (g, xs) = (0, elemTab) := by simpa [tabs] using hm
  cases e
  refine ⟨ElemFind.tab_lt h, repCs_strs _ 0 fun j s hj => ?_⟩
  have hl : j < 110 := by
    have := (List.getElem?_eq_some_iff.1 hj).1
    rwa [elem_len] at this
  rw [elem_at hl] at hj
  cases hj
  have := h (j / 5) (j % 5) (by omega) (by omega)
  rwa [show 5 * (j / 5) + j % 5 = 0 + j by omega] at this
theorem tab_of {ok : Nat → Prop} {w : World} (h : TabOk ok w) : Tab w := by
  intro i j hi hj
  obtain ⟨_, hr⟩ := h 0 elemTab (by simp [tabs])
  have := repCs_get _ 0 hr (5 * i + j) (str i j) (by rw [elem_at (by omega), show (5 * i + j) / 5 = i by omega, show (5 * i + j) % 5 = j by omega])
  rwa [Nat.zero_add] at this
theorem awake : Meets Tryd.prog 10 [] (B true) := by
  refine ⟨Proofs.enters_of Tryd.func10 (by kernel_rfl) rfl, fun ok w vs hok hd => ?_⟩
  obtain rfl : vs = [] := hd
  exact (ElemAwake.awake_any w (tab_of hok.2)).mono fun e w' ⟨he, hb⟩ => ⟨_, he, rfl, hb⟩

end Go.Proofs.YtdhpmkaggojgbaaDoor.E0
