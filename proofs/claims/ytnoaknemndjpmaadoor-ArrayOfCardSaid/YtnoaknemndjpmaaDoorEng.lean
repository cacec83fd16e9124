/- A walk over values in the place of memory: what a call knows of its slots and of its own blocks, how each operation turns it, and why the machine does as the walk says. No program is named here. -/
import Derived.Orders
import Derived.Below
import Derived.Maps.AppendAt
import Derived.Laws.IdiomCopy
import Derived.Laws.MakeOwn
import Derived.WalkKit
import Derived.Laws.Small
import Derived.Laws.Cover3
import Derived.Great.BuildSlice
import Derived.Lib.AppendStr
import Derived.Shelf.Abstract
namespace Go.Proofs.YtnoaknemndjpmaaDoor.Eng
set_option linter.unusedVariables false
set_option linter.unusedSimpArgs false
set_option linter.unusedSectionVars false

-- part 1
section
/-- What a slot holds, as far as a walk knows it. -/
inductive AV where
  | junk
  | c (v : Value)
  | nils
  | sl (nn : Bool) (st : Nat) (es : List (List AV))
  | dptr (xs : List AV)
  | ptr (L j : Nat)
  | rp (L i j : Nat)
  | own (L st n : Nat)
  | agg (xs : List AV)
  | tup (xs : List AV)
  | fn (f : FuncId) (cap : List AV)

inductive Blk where
  | var (t : TypeId) (cs : List AV)
  | row (e : TypeId) (st : Nat) (es : List (List AV))

abbrev Heap := List (Option Blk)

structure AS where
  n : Nat
  t : List (Nat × AV)
  h : Heap

mutual
/-- Data: a value that is as it is known, all in blocks that 'ok' lets by. -/
def RepD (ok : Nat → Prop) (w : World) : AV → Value → Prop
  | .junk, _ => True
  | .c u, v => v = u
  | .nils, v => v = .slice none 0 0
  | .sl nn st es, v => ∃ A cap, v = .slice A es.length cap ∧ ((nn = true → A ≠ none) ∧ (A = none → cap = 0)) ∧ (0 < es.length → ∃ b o, A = some ⟨b, o, none⟩ ∧ ok b ∧ RepEs ok w st b o es)
  | .dptr xs, v => ∃ b o, v = .pointer (some ⟨b, o, none⟩) ∧ ok b ∧ RepCs ok w b o xs
  | .ptr _ _, _ => False
  | .rp _ _ _, _ => False
  | .own _ _ _, _ => False
  | .agg xs, v => ∃ vs, v = .agg vs ∧ RepDL ok w xs vs.toList ∧ ∀ u ∈ vs.toList, u.oneCell' = true
  | .tup xs, v => ∃ vs, v = .tuple vs ∧ RepDL ok w xs vs.toList
  | .fn f cap, v => ∃ vs, v = .func (.func f) #[] vs ∧ RepDL ok w cap vs.toList
def RepDL (ok : Nat → Prop) (w : World) : List AV → List Value → Prop
  | [], l => l = []
  | x :: xs, l => ∃ u us, l = u :: us ∧ RepD ok w x u ∧ RepDL ok w xs us
def RepCs (ok : Nat → Prop) (w : World) (b o : Nat) : List AV → Prop
  | [] => True
  | x :: xs => (∃ u, w.cell? ⟨b, o, none⟩ = some u ∧ u.oneCell' = true ∧ RepD ok w x u) ∧ RepCs ok w b (o + 1) xs
def RepEs (ok : Nat → Prop) (w : World) (st b o : Nat) : List (List AV) → Prop
  | [] => True
  | e :: es => e.length = st ∧ RepCs ok w b o e ∧ RepEs ok w st b (o + st) es
end

/-- Where a slice of the call's own lies: nowhere (nil), or at the head of a block. -/
def OwnV (w : World) (st n : Nat) (v : Value) : Option Nat → Prop
  | none => n = 0 ∧ v = .slice none 0 0
  | some b => ∃ cap t, v = .slice (some ⟨b, 0, none⟩) n cap ∧ n ≤ cap ∧ cap ≤ maxLen ∧ w.shape? b = some (t, cap * st)

mutual
/-- A value that is as the walk knows it. -/
def RepV (m : List (Option Nat)) (ok : Nat → Prop) (w : World) : AV → Value → Prop
  | .ptr L j, v => ∃ b, m[L]? = some (some b) ∧ v = .pointer (some ⟨b, j, none⟩)
  | .rp L k j, v => ∃ b, m[L]? = some (some b) ∧ v = .pointer (some ⟨b, k + j, none⟩)
  | .own L st n, v => ∃ ob, m[L]? = some ob ∧ OwnV w st n v ob
  | .agg xs, v => ∃ vs, v = .agg vs ∧ RepL m ok w xs vs.toList ∧ ∀ u ∈ vs.toList, u.oneCell' = true
  | .tup xs, v => ∃ vs, v = .tuple vs ∧ RepL m ok w xs vs.toList
  | .fn f cap, v => ∃ vs, v = .func (.func f) #[] vs ∧ RepL m ok w cap vs.toList
  | .junk, _ => True
  | .c u, v => v = u
  | .nils, v => v = .slice none 0 0
  | .sl nn st es, v => RepD ok w (.sl nn st es) v
  | .dptr xs, v => RepD ok w (.dptr xs) v
def RepL (m : List (Option Nat)) (ok : Nat → Prop) (w : World) : List AV → List Value → Prop
  | [], l => l = []
  | x :: xs, l => ∃ u us, l = u :: us ∧ RepV m ok w x u ∧ RepL m ok w xs us
end

theorem cell_same {w w' : World} {b o : Nat} (h : w'.heap[b]? = w.heap[b]?) : w'.cell? ⟨b, o, none⟩ = w.cell? ⟨b, o, none⟩ := by
  unfold World.cell?
  simp only [h]

section
variable {ok ok' : Nat → Prop} {w w' : World}
mutual
theorem RepD.mono (g : ∀ b, ok b → ok' b) (c : ∀ b, ok b → w'.heap[b]? = w.heap[b]?) : ∀ (x : AV) {v : Value}, RepD ok w x v → RepD ok' w' x v
  | .junk, _, _ => trivial
  | .c _, _, h => h
  | .nils, _, h => h
  | .sl nn st es, _, ⟨A, cap, hv, hn, h⟩ => ⟨A, cap, hv, hn, fun h0 => by
      obtain ⟨b, o, hA, hb, he⟩ := h h0
      exact ⟨b, o, hA, g b hb, RepEs.mono g c es hb he⟩⟩
  | .dptr xs, _, ⟨b, o, hv, hb, h⟩ => ⟨b, o, hv, g b hb, RepCs.mono g c xs hb h⟩
  | .agg xs, _, ⟨vs, hv, h, h1⟩ => ⟨vs, hv, RepDL.mono g c xs h, h1⟩
  | .tup xs, _, ⟨vs, hv, h⟩ => ⟨vs, hv, RepDL.mono g c xs h⟩
  | .fn _ xs, _, ⟨vs, hv, h⟩ => ⟨vs, hv, RepDL.mono g c xs h⟩
  | .ptr _ _, _, h => h
  | .rp _ _ _, _, h => h
  | .own _ _ _, _, h => h
theorem RepDL.mono (g : ∀ b, ok b → ok' b) (c : ∀ b, ok b → w'.heap[b]? = w.heap[b]?) : ∀ (xs : List AV) {l : List Value}, RepDL ok w xs l → RepDL ok' w' xs l
  | [], _, h => h
  | x :: xs, _, ⟨u, us, hl, hx, hr⟩ => ⟨u, us, hl, RepD.mono g c x hx, RepDL.mono g c xs hr⟩
theorem RepCs.mono (g : ∀ b, ok b → ok' b) (c : ∀ b, ok b → w'.heap[b]? = w.heap[b]?) : ∀ (xs : List AV) {b o : Nat}, ok b → RepCs ok w b o xs → RepCs ok' w' b o xs
  | [], _, _, _, _ => trivial
  | x :: xs, b, o, hb, ⟨⟨u, hc, h1, hx⟩, hr⟩ => ⟨⟨u, (cell_same (c b hb)).trans hc, h1, RepD.mono g c x hx⟩, RepCs.mono g c xs hb hr⟩
theorem RepEs.mono (g : ∀ b, ok b → ok' b) (c : ∀ b, ok b → w'.heap[b]? = w.heap[b]?) : ∀ (es : List (List AV)) {st b o : Nat}, ok b → RepEs ok w st b o es → RepEs ok' w' st b o es
  | [], _, _, _, _, _ => trivial
  | e :: es, st, b, o, hb, ⟨hl, hc, hr⟩ => ⟨hl, RepCs.mono g c e hb hc, RepEs.mono g c es hb hr⟩
end
end

/-- The elements of a slice. -/
def elemsA (h : Heap) : AV → Option (Nat × List (List AV))
  | .sl _ st es => some (st, es)
  | .own L st n => match h[L]? with
    | some (some (.row _ st' es)) => if st' = st ∧ n ≤ es.length then some (st, es.take n) else none
    | _ => none
  | _ => none

mutual
/-- What is known of a value behind a step that may turn the blocks of ks; a slice in one of them is data from then on, if h tells its elements. -/
def killV (h : Heap) (ks : List Nat) : AV → AV
  | .ptr L j => if L ∈ ks then .junk else .ptr L j
  | .rp L i j => if L ∈ ks then .junk else .rp L i j
  | .own L st n => if L ∈ ks then (match elemsA h (.own L st n) with
    | some (st', es) => .sl false st' es
    | none => .junk) else .own L st n
  | .agg xs => .agg (killL h ks xs)
  | .tup xs => .tup (killL h ks xs)
  | .fn f xs => .fn f (killL h ks xs)
  | .junk => .junk
  | .c v => .c v
  | .nils => .nils
  | .sl nn st es => .sl nn st es
  | .dptr xs => .dptr xs
def killL (h : Heap) (ks : List Nat) : List AV → List AV
  | [] => []
  | x :: xs => killV h ks x :: killL h ks xs
end

/-- What a step may do to a world with all that is known of it but for the blocks ks. -/
structure Grow (h : Heap) (ks : List Nat) (m : List (Option Nat)) (ok : Nat → Prop) (w : World) (m' : List (Option Nat)) (ok' : Nat → Prop) (w' : World) : Prop where
  mm : ∀ (L : Nat) b, L ∉ ks → m[L]? = some b → m'[L]? = some b
  mo : ∀ b : Nat, ok b → ok' b
  cells : ∀ b : Nat, ok b → w'.heap[b]? = w.heap[b]?
  shape : ∀ (L b : Nat) s, L ∉ ks → m[L]? = some (some b) → w.shape? b = some s → w'.shape? b = some s
  fz : ∀ (L st n : Nat) v st' es, L ∈ ks → RepV m ok w (.own L st n) v → elemsA h (.own L st n) = some (st', es) → RepD ok' w' (.sl false st' es) v

theorem Grow.refl (h : Heap) (m : List (Option Nat)) (ok : Nat → Prop) (w : World) : Grow h [] m ok w m ok w := ⟨fun _ _ _ h => h, fun _ h => h, fun _ _ => rfl, fun _ _ _ _ _ h => h, fun _ _ _ _ _ _ h => by cases h⟩

section
variable {m m' : List (Option Nat)} {ok ok' : Nat → Prop} {w w' : World}
mutual
theorem RepV.mono {h : Heap} (g : Grow h [] m ok w m' ok' w') : ∀ (x : AV) {v : Value}, RepV m ok w x v → RepV m' ok' w' x v
  | .junk, _, _ => trivial
  | .c _, _, h => h
  | .nils, _, h => h
  | .sl nn st es, _, h => RepD.mono g.mo g.cells (.sl nn st es) h
  | .dptr xs, _, h => RepD.mono g.mo g.cells (.dptr xs) h
  | .ptr _ _, _, ⟨b, hm, hv⟩ => ⟨b, g.mm _ _ (by simp) hm, hv⟩
  | .rp _ _ _, _, ⟨b, hm, hv⟩ => ⟨b, g.mm _ _ (by simp) hm, hv⟩
  | .own _ st n, v, ⟨ob, hm, h⟩ => ⟨ob, g.mm _ _ (by simp) hm, by
      cases ob with
      | none => exact h
      | some b => obtain ⟨cap, t, hv, hn, hc, hs⟩ := h; exact ⟨cap, t, hv, hn, hc, g.shape _ _ _ (by simp) hm hs⟩⟩
  | .agg xs, _, ⟨vs, hv, h, h1⟩ => ⟨vs, hv, RepL.mono g xs h, h1⟩
  | .tup xs, _, ⟨vs, hv, h⟩ => ⟨vs, hv, RepL.mono g xs h⟩
  | .fn _ xs, _, ⟨vs, hv, h⟩ => ⟨vs, hv, RepL.mono g xs h⟩
theorem RepL.mono {h : Heap} (g : Grow h [] m ok w m' ok' w') : ∀ (xs : List AV) {l : List Value}, RepL m ok w xs l → RepL m' ok' w' xs l
  | [], _, h => h
  | x :: xs, _, ⟨u, us, hl, hx, hr⟩ => ⟨u, us, hl, RepV.mono g x hx, RepL.mono g xs hr⟩
end
mutual
theorem RepV.kill {h : Heap} {ks : List Nat} (g : Grow h ks m ok w m' ok' w') : ∀ (x : AV) {v : Value}, RepV m ok w x v → RepV m' ok' w' (killV h ks x) v
  | .junk, _, _ => trivial
  | .c _, _, h => h
  | .nils, _, h => h
  | .sl nn st es, _, h => RepD.mono g.mo g.cells (.sl nn st es) h
  | .dptr xs, _, h => RepD.mono g.mo g.cells (.dptr xs) h
  | .ptr L' _, _, ⟨b, hm, hv⟩ => by
    unfold killV
    split
    · trivial
    · exact ⟨b, g.mm _ _ ‹_› hm, hv⟩
  | .rp L' _ _, _, ⟨b, hm, hv⟩ => by
    unfold killV
    split
    · trivial
    · exact ⟨b, g.mm _ _ ‹_› hm, hv⟩
  | .own L' st n, v, ⟨ob, hm, h⟩ => by
    unfold killV
    split
    · rename_i hL
      split
      · rename_i st' es he
        exact g.fz L' st n v st' es hL ⟨ob, hm, h⟩ he
      · trivial
    · refine ⟨ob, g.mm _ _ ‹_› hm, ?_⟩
      cases ob with
      | none => exact h
      | some b => obtain ⟨cap, t, hv, hn, hc, hs⟩ := h; exact ⟨cap, t, hv, hn, hc, g.shape _ _ _ ‹_› hm hs⟩
  | .agg xs, _, ⟨vs, hv, h, h1⟩ => ⟨vs, hv, RepL.kill g xs h, h1⟩
  | .tup xs, _, ⟨vs, hv, h⟩ => ⟨vs, hv, RepL.kill g xs h⟩
  | .fn _ xs, _, ⟨vs, hv, h⟩ => ⟨vs, hv, RepL.kill g xs h⟩
theorem RepL.kill {h : Heap} {ks : List Nat} (g : Grow h ks m ok w m' ok' w') : ∀ (xs : List AV) {l : List Value}, RepL m ok w xs l → RepL m' ok' w' (killL h ks xs) l
  | [], _, h => h
  | x :: xs, _, ⟨u, us, hl, hx, hr⟩ => ⟨u, us, hl, RepV.kill g x hx, RepL.kill g xs hr⟩
end
mutual
/-- Data is known whatever the call's own blocks. -/
theorem RepD.up : ∀ (x : AV) {v : Value}, RepD ok w x v → RepV m ok w x v
  | .junk, _, _ => trivial
  | .c _, _, h => h
  | .nils, _, h => h
  | .sl _ _ _, _, h => h
  | .dptr _, _, h => h
  | .ptr _ _, _, h => h.elim
  | .rp _ _ _, _, h => h.elim
  | .own _ _ _, _, h => h.elim
  | .agg xs, _, ⟨vs, hv, h, h1⟩ => ⟨vs, hv, RepDL.up xs h, h1⟩
  | .tup xs, _, ⟨vs, hv, h⟩ => ⟨vs, hv, RepDL.up xs h⟩
  | .fn _ xs, _, ⟨vs, hv, h⟩ => ⟨vs, hv, RepDL.up xs h⟩
theorem RepDL.up : ∀ (xs : List AV) {l : List Value}, RepDL ok w xs l → RepL m ok w xs l
  | [], _, h => h
  | x :: xs, _, ⟨u, us, hl, hx, hr⟩ => ⟨u, us, hl, RepD.up x hx, RepDL.up xs hr⟩
end
end

/-- A mark behind all of k cells, or none. -/
def tailOk' (fz : Nat × Nat) (k : Nat) : Prop := fz = (0, 0) ∨ k ≤ fz.1

/-- A block with no mark on any of its cells. -/
def CellsT (w : World) (b : Nat) (cs : Array Value) (e : TypeId) : Prop := ∃ fz, w.heap[b]? = some (.cells cs e fz) ∧ tailOk' fz cs.size
theorem CellsT.plain {w : World} {b : Nat} {cs : Array Value} {e : TypeId} (h : w.heap[b]? = some (.cells cs e (0, 0))) : CellsT w b cs e := ⟨_, h, .inl rfl⟩
theorem CellsT.same {w w' : World} {b : Nat} {cs : Array Value} {e : TypeId} (k : w'.heap[b]? = w.heap[b]?) (h : CellsT w b cs e) : CellsT w' b cs e := by
  obtain ⟨fz, h1, h2⟩ := h
  exact ⟨fz, k.trans h1, h2⟩
theorem CellsT.shape {w : World} {b : Nat} {cs : Array Value} {e : TypeId} (h : CellsT w b cs e) : w.shape? b = some (e, cs.size) := by
  obtain ⟨fz, h1, h2⟩ := h
  simp [World.shape?, h1]
theorem CellsT.cell {w : World} {b : Nat} {cs : Array Value} {e : TypeId} (h : CellsT w b cs e) (j : Nat) : w.cell? ⟨b, j, none⟩ = cs[j]? := by
  obtain ⟨fz, h1, h2⟩ := h
  unfold World.cell?
  simp only [h1]
  rfl
theorem CellsT.lt {w : World} {b : Nat} {cs : Array Value} {e : TypeId} (h : CellsT w b cs e) : b < w.heap.size := by
  obtain ⟨fz, h1, h2⟩ := h
  exact (Array.getElem?_eq_some_iff.1 h1).1

/-- A block of the call's own. -/
def OwnB (m : List (Option Nat)) (ok : Nat → Prop) (w : World) (L : Nat) : Blk → Prop
  | .var t xs => ∃ b cs, m[L]? = some (some b) ∧ w.heap[b]? = some (.cells cs t (0, 0)) ∧ RepL m ok w xs cs.toList ∧ ∀ u ∈ cs.toList, u.oneCell' = true
  | .row e st es => ∃ ob, m[L]? = some ob ∧ match ob with
    | none => es = []
    | some b => ∃ cs, CellsT w b cs e ∧ es.length * st ≤ cs.size ∧
        ∀ i x, es[i]? = some x → x.length = st ∧ ∀ j y, x[j]? = some y → ∃ u, cs[i * st + j]? = some u ∧ u.oneCell' = true ∧ RepD ok w y u

abbrev HOwn (m : List (Option Nat)) (ok : Nat → Prop) (h : Heap) (w : World) : Prop := ∀ L blk, h[L]? = some (some blk) → OwnB m ok w L blk

/-- What is known of the memory. -/
structure HRel (w0 : World) (ok0 : Nat → Prop) (m : List (Option Nat)) (ok : Nat → Prop) (h : Heap) (w : World) : Prop where
  len : m.length = h.length
  own : HOwn m ok h w
  inj : ∀ (L L' b : Nat), m[L]? = some (some b) → m[L']? = some (some b) → L = L'
  nok : ∀ (L b : Nat) blk, h[L]? = some (some blk) → m[L]? = some (some b) → ¬ ok b
  new : ∀ L b : Nat, m[L]? = some (some b) → w0.heap.size ≤ b ∧ b < w.heap.size
  okb : ∀ b : Nat, ok b → b < w.heap.size
  oko : ∀ b : Nat, ok b → ok0 b ∨ w0.heap.size ≤ b
  bel : RowKit.Below w0.heap.size w0 w

theorem OwnB.mono {hh : Heap} {m m' : List (Option Nat)} {ok ok' : Nat → Prop} {w w' : World} (g : Grow hh [] m ok w m' ok' w') {L : Nat} {blk : Blk} (hs : ∀ b, m[L]? = some (some b) → w'.heap[b]? = w.heap[b]?) (h : OwnB m ok w L blk) : OwnB m' ok' w' L blk := by
  cases blk with
  | var t xs =>
    obtain ⟨b, cs, hm, hb, hr, h1⟩ := h
    exact ⟨b, cs, g.mm _ _ (by simp) hm, (hs b hm).trans hb, RepL.mono g xs hr, h1⟩
  | row e st es =>
    obtain ⟨ob, hm, h⟩ := h
    refine ⟨ob, g.mm _ _ (by simp) hm, ?_⟩
    cases ob with
    | none => exact h
    | some b =>
      obtain ⟨cs, hb, hl, hr⟩ := h
      refine ⟨cs, hb.same (hs b hm), hl, fun i x hx => ⟨(hr i x hx).1, fun j y hy => ?_⟩⟩
      obtain ⟨u, hu, h1, hd⟩ := (hr i x hx).2 j y hy
      exact ⟨u, hu, h1, RepD.mono g.mo g.cells y hd⟩
end

-- part 2
section
/-- A type as the walk asks for it. -/
structure TD where
  agg : Bool
  size : Nat
  elem : Option TypeId
  fields : List (Nat × TypeId)
  arr : Option (Nat × TypeId)
  zero : Option (List Value)
  bytes : Nat
  bool : Bool
  str : Bool
  ik : Option IntKind

def isAggD : TypeDesc → Bool
  | .struct _ => true
  | .array _ _ => true
  | _ => false
def elemD : TypeDesc → Option TypeId
  | .slice e => some e
  | _ => none
def fieldsD : TypeDesc → List (Nat × TypeId)
  | .struct fs => fs.toList.map fun f => (f.offset, f.type)
  | _ => []
def arrD : TypeDesc → Option (Nat × TypeId)
  | .array n e => some (n, e)
  | _ => none
def boolD : TypeDesc → Bool
  | .bool => true
  | _ => false
def strD : TypeDesc → Bool
  | .string => true
  | _ => false
def ikD : TypeDesc → Option IntKind
  | .int k => some k
  | _ => none
def td (P : Program) (t : TypeId) : Option TD :=
  match P.underlying t, P.info? t with
  | some u, some i => some ⟨isAggD u, i.size, elemD u, fieldsD u, arrD u, i.zero.map (·.cells.toList), i.bytes, boolD u, strD u, ikD u⟩
  | _, _ => none

theorem td_some {P : Program} {t : TypeId} {D : TD} (h : td P t = some D) : ∃ u i, P.underlying t = some u ∧ P.info? t = some i ∧ D = ⟨isAggD u, i.size, elemD u, fieldsD u, arrD u, i.zero.map (·.cells.toList), i.bytes, boolD u, strD u, ikD u⟩ := by
  unfold td at h
  split at h
  · rename_i u i hu hi
    exact ⟨u, i, hu, hi, (Option.some.inj h).symm⟩
  · cases h

theorem elemD_some {u : TypeDesc} {e : TypeId} (h : elemD u = some e) : u = .slice e := by
  cases u <;> simp_all [elemD]
theorem arrD_some {u : TypeDesc} {x : Nat × TypeId} (h : arrD u = some x) : u = .array x.1 x.2 := by
  cases u <;> simp_all [arrD]
  obtain ⟨rfl, rfl⟩ := h; exact ⟨rfl, rfl⟩
theorem strD_true {u : TypeDesc} (h : strD u = true) : u = .string := by
  cases u <;> simp_all [strD]
theorem boolD_true {u : TypeDesc} (h : boolD u = true) : u = .bool := by
  cases u <;> simp_all [boolD]
theorem ikD_some {u : TypeDesc} {k : IntKind} (h : ikD u = some k) : u = .int k := by
  cases u <;> simp_all [ikD]
theorem fieldsD_some {u : TypeDesc} {f : Nat} {x : Nat × TypeId} (h : (fieldsD u)[f]? = some x) : ∃ fs fd, u = .struct fs ∧ fs[f]? = some fd ∧ fd.offset = x.1 ∧ fd.type = x.2 := by
  cases u <;> simp_all [fieldsD]
  obtain ⟨fd, h1, rfl⟩ := h
  exact ⟨fd, h1, rfl, rfl⟩

theorem isAgg_run {P : Program} {t : TypeId} {D : TD} (h : td P t = some D) (w : World) : (isAgg t).run P w = .ok D.agg w := by
  obtain ⟨u, i, hu, hi, rfl⟩ := td_some h
  unfold isAgg
  rw [Sem.run_bind, run_underlying hu]
  simp only [Result.andThen_ok]
  cases u <;> rfl

theorem sizeOf_run {P : Program} {t : TypeId} {D : TD} (h : td P t = some D) (w : World) : (sizeOf t).run P w = .ok D.size w := by
  obtain ⟨u, i, hu, hi, rfl⟩ := td_some h
  simp [sizeOf, typeInfo, program, Sem.run, hi]

theorem zeroValue_run {P : Program} {t : TypeId} {D : TD} (h : td P t = some D) {z : List Value} (hz : D.zero = some z) (w : World) : ∃ v, (zeroValue t).run P w = .ok v w ∧ v.cells.toList = z := by
  obtain ⟨u, i, hu, hi, rfl⟩ := td_some h
  simp only [Option.map_eq_some_iff] at hz
  obtain ⟨v, hv, rfl⟩ := hz
  exact ⟨v, by simp [zeroValue, typeInfo, program, Sem.run, hi, hv], rfl⟩

def slot : List (Nat × AV) → Nat → AV
  | [], _ => .junk
  | (j, v) :: r, i => if j = i then v else slot r i

def AS.put (σ : AS) (dst : Option Tmp) (v : AV) : AS :=
  match dst with
  | none => σ
  | some d => ⟨σ.n, (d, v) :: σ.t, σ.h⟩

def cvc : Value → AV
  | .slice none 0 0 => .nils
  | v => .c v
def cv : Value → AV
  | .slice none 0 0 => .nils
  | .agg cs => if cs.all (·.oneCell') then .agg (cs.toList.map cvc) else .junk
  | .func (.func f) a b => if a.size = 0 ∧ b.size = 0 then .fn f [] else .junk
  | v => .c v

def aev (σ : AS) : Operand → AV
  | .tmp t => slot σ.t t
  | .const v => cv v
  | .global _ => .junk
  | .func f => .fn f []

theorem cvc_rep (m : List (Option Nat)) (ok : Nat → Prop) (w : World) (v : Value) : RepV m ok w (cvc v) v := by
  unfold cvc
  split <;> simp [RepV]

theorem cvcs_rep (m : List (Option Nat)) (ok : Nat → Prop) (w : World) : ∀ l : List Value, RepL m ok w (l.map cvc) l
  | [] => by simp [RepL]
  | v :: l => by
    simp only [List.map_cons, RepL]
    exact ⟨v, l, rfl, cvc_rep m ok w v, cvcs_rep m ok w l⟩

theorem cv_rep (m : List (Option Nat)) (ok : Nat → Prop) (w : World) (v : Value) : RepV m ok w (cv v) v := by
  unfold cv
  split
  · simp [RepV]
  · rename_i cs
    by_cases h : cs.all (·.oneCell') = true
    · rw [if_pos h]
      simp only [RepV]
      exact ⟨_, rfl, cvcs_rep m ok w _, fun u hu => Array.all_eq_true_iff_forall_mem.1 h u (by simpa using hu)⟩
    · rw [if_neg h]; simp [RepV]
  · rename_i f a b
    by_cases h : a.size = 0 ∧ b.size = 0
    · rw [if_pos h]
      obtain ⟨h1, h2⟩ := h
      obtain rfl := Array.eq_empty_of_size_eq_zero h1
      obtain rfl := Array.eq_empty_of_size_eq_zero h2
      simp [RepV, RepL]
    · rw [if_neg h]; simp [RepV]
  · simp [RepV]

/-- Lists that are known side by side. -/
theorem RepL.get {m : List (Option Nat)} {ok : Nat → Prop} {w : World} : ∀ {xs : List AV} {l : List Value} {i : Nat} {x : AV}, RepL m ok w xs l → xs[i]? = some x → ∃ u, l[i]? = some u ∧ RepV m ok w x u
  | [], _, _, _, _, h => by simp at h
  | y :: ys, _, 0, x, ⟨u, us, rfl, hx, hr⟩, h => by
    simp only [List.getElem?_cons_zero, Option.some.injEq] at h
    subst h
    exact ⟨u, rfl, hx⟩
  | y :: ys, _, i + 1, x, ⟨u, us, rfl, hx, hr⟩, h => by
    simp only [List.getElem?_cons_succ] at h ⊢
    exact RepL.get hr h
theorem RepL.length {m : List (Option Nat)} {ok : Nat → Prop} {w : World} : ∀ {xs : List AV} {l : List Value}, RepL m ok w xs l → l.length = xs.length
  | [], _, h => by cases h; rfl
  | y :: ys, _, ⟨u, us, h, hx, hr⟩ => by subst h; simp [RepL.length hr]
theorem RepL.of {m : List (Option Nat)} {ok : Nat → Prop} {w : World} : ∀ {xs : List AV} {l : List Value}, l.length = xs.length → (∀ (i : Nat) x u, xs[i]? = some x → l[i]? = some u → RepV m ok w x u) → RepL m ok w xs l
  | [], l, h, _ => by
    cases l with
    | nil => rfl
    | cons a l => simp at h
  | x :: xs, l, h, k => by
    cases l with
    | nil => simp at h
    | cons u us => exact ⟨u, us, rfl, k 0 x u rfl rfl, RepL.of (by simpa using h) fun i x u h1 h2 => k (i + 1) x u (by simpa using h1) (by simpa using h2)⟩

theorem RepL.take {m : List (Option Nat)} {ok : Nat → Prop} {w : World} {xs : List AV} {l : List Value} (h : RepL m ok w xs l) (n : Nat) : RepL m ok w (xs.take n) (l.take n) := by
  refine RepL.of (by simp [h.length]) fun i x u h1 h2 => ?_
  rw [List.getElem?_take] at h1 h2
  split at h1
  · rw [if_pos (by assumption)] at h2
    obtain ⟨u', hu, hx⟩ := h.get h1
    rw [h2] at hu; cases hu; exact hx
  · cases h1
theorem RepL.drop {m : List (Option Nat)} {ok : Nat → Prop} {w : World} {xs : List AV} {l : List Value} (h : RepL m ok w xs l) (n : Nat) : RepL m ok w (xs.drop n) (l.drop n) := by
  refine RepL.of (by simp [h.length]) fun i x u h1 h2 => ?_
  rw [List.getElem?_drop] at h1 h2
  obtain ⟨u', hu, hx⟩ := h.get h1
  rw [h2] at hu; cases hu; exact hx
theorem RepL.set {m : List (Option Nat)} {ok : Nat → Prop} {w : World} {xs : List AV} {l : List Value} (h : RepL m ok w xs l) (n : Nat) {x : AV} {u : Value} (hx : RepV m ok w x u) : RepL m ok w (xs.set n x) (l.set n u) := by
  refine RepL.of (by simp [h.length]) fun i x' u' h1 h2 => ?_
  rw [List.getElem?_set] at h1 h2
  have hl := h.length
  split at h1
  · rename_i e
    rw [if_pos e] at h2
    split at h1
    · rw [if_pos (by omega)] at h2
      cases h1; cases h2; exact hx
    · cases h1
  · rename_i e
    rw [if_neg e] at h2
    obtain ⟨u'', hu, hx'⟩ := h.get h1
    rw [h2] at hu; cases hu; exact hx'
theorem RepL.append {m : List (Option Nat)} {ok : Nat → Prop} {w : World} : ∀ {xs ys : List AV} {l k : List Value}, RepL m ok w xs l → RepL m ok w ys k → RepL m ok w (xs ++ ys) (l ++ k)
  | [], _, _, _, h, h2 => by cases h; exact h2
  | x :: xs, _, _, _, ⟨u, us, h, hx, hr⟩, h2 => by subst h; exact ⟨u, us ++ _, rfl, hx, hr.append h2⟩

theorem RepCs.get {ok : Nat → Prop} {w : World} {b : Nat} : ∀ {xs : List AV} {o i : Nat} {x : AV}, RepCs ok w b o xs → xs[i]? = some x → ∃ u, w.cell? ⟨b, o + i, none⟩ = some u ∧ u.oneCell' = true ∧ RepD ok w x u
  | [], _, _, _, _, h => by simp at h
  | y :: ys, o, 0, x, ⟨⟨u, hc, h1, hx⟩, hr⟩, h => by
    simp only [List.getElem?_cons_zero, Option.some.injEq] at h
    subst h
    exact ⟨u, hc, h1, hx⟩
  | y :: ys, o, i + 1, x, ⟨_, hr⟩, h => by
    simp only [List.getElem?_cons_succ] at h
    have := RepCs.get hr h
    rwa [Nat.add_assoc, Nat.add_comm 1 i] at this
theorem RepCs.drop {ok : Nat → Prop} {w : World} {b : Nat} : ∀ (n : Nat) {xs : List AV} {o : Nat}, RepCs ok w b o xs → RepCs ok w b (o + n) (xs.drop n)
  | 0, _, _, h => by simpa using h
  | n + 1, [], _, _ => by simp [RepCs]
  | n + 1, y :: ys, o, ⟨_, hr⟩ => by
    have := RepCs.drop n hr
    rw [List.drop_succ_cons]
    rwa [Nat.add_assoc, Nat.add_comm 1 n] at this
theorem RepEs.get {ok : Nat → Prop} {w : World} {st b : Nat} : ∀ {es : List (List AV)} {o i : Nat} {e : List AV}, RepEs ok w st b o es → es[i]? = some e → e.length = st ∧ RepCs ok w b (o + i * st) e
  | [], _, _, _, _, h => by simp at h
  | y :: ys, o, 0, x, ⟨hl, hc, hr⟩, h => by
    simp only [List.getElem?_cons_zero, Option.some.injEq] at h
    subst h
    exact ⟨hl, by simpa using hc⟩
  | y :: ys, o, i + 1, x, ⟨_, _, hr⟩, h => by
    simp only [List.getElem?_cons_succ] at h
    have := RepEs.get hr h
    have e : (i + 1) * st = st + i * st := by rw [Nat.add_mul, Nat.one_mul, Nat.add_comm]
    rwa [Nat.add_assoc, ← e] at this

theorem add_plain (b o i : Nat) : (⟨b, o, none⟩ : Addr).add i = ⟨b, o + i, none⟩ := by unfold Addr.add; split <;> simp_all
end

-- part 3
section
def elO {α : Type} (o : Option α) (K : α → Prop) : Prop := match o with | some a => K a | none => False
theorem elO_some {α : Type} (a : α) (K : α → Prop) : elO (some a) K = K a := rfl
theorem elO_none {α : Type} (K : α → Prop) : elO none K = False := rfl
theorem elO_ex {α : Type} {o : Option α} {K : α → Prop} (h : elO o K) : ∃ a, o = some a ∧ K a := by
  cases o with
  | none => exact h.elim
  | some a => exact ⟨a, rfl, h⟩

/-- What a binary operation comes to. -/
def binK (P : Program) (op : BinOp) (t : TypeId) (x y : AV) (K : AV → Prop) : Prop :=
  match x, y with
  | .c (.int k a), .c (.int k' b) =>
    match op with
    | .shl => 0 ≤ b ∧ K (.c (.int k (k.wrap (a * 2 ^ min b.toNat k.bits))))
    | .shr => 0 ≤ b ∧ K (.c (.int k (a.fdiv (2 ^ min b.toNat k.bits))))
    | .add => k = k' ∧ K (.c (.int k (k.wrap (a + b))))
    | .sub => k = k' ∧ K (.c (.int k (k.wrap (a - b))))
    | .mul => k = k' ∧ K (.c (.int k (k.wrap (a * b))))
    | .quo => k = k' ∧ b ≠ 0 ∧ K (.c (.int k (k.wrap (a.tdiv b))))
    | .rem => k = k' ∧ b ≠ 0 ∧ K (.c (.int k (a.tmod b)))
    | .and => k = k' ∧ K (.c (.int k (bits .and k a b)))
    | .or => k = k' ∧ K (.c (.int k (bits .or k a b)))
    | .xor => k = k' ∧ K (.c (.int k (bits .xor k a b)))
    | .andNot => k = k' ∧ K (.c (.int k (bits .andNot k a b)))
    | .eql => k = k' ∧ K (.c (.bool (a == b)))
    | .neq => k = k' ∧ K (.c (.bool (a != b)))
    | .lss => k = k' ∧ K (.c (.bool (decide (a < b))))
    | .leq => k = k' ∧ K (.c (.bool (decide (a ≤ b))))
    | .gtr => k = k' ∧ K (.c (.bool (decide (b < a))))
    | .geq => k = k' ∧ K (.c (.bool (decide (b ≤ a))))
  | .c (.string a), .c (.string b) =>
    match op with
    | .add => ((a.size + b.size : Nat) : Int) ≤ 9223372036854775807 ∧ K (.c (.string (a ++ b)))
    | .eql => K (.c (.bool (a.toList == b.toList)))
    | .neq => K (.c (.bool (!(a.toList == b.toList))))
    | .lss => K (.c (.bool (Op.bytesLess a.toList b.toList)))
    | .leq => K (.c (.bool (Op.bytesLess a.toList b.toList || a.toList == b.toList)))
    | .gtr => K (.c (.bool (!(Op.bytesLess a.toList b.toList || a.toList == b.toList))))
    | .geq => K (.c (.bool (!(Op.bytesLess a.toList b.toList))))
    | _ => False
  | .c (.bool a), .c (.bool b) =>
    elO (td P t) fun D => D.bool = true ∧ match op with
    | .eql => K (.c (.bool (a == b)))
    | .neq => K (.c (.bool (!(a == b))))
    | _ => False
  | .sl true _ _, .nils =>
    elO (td P t) fun D => D.elem.isSome = true ∧ match op with
    | .eql => K (.c (.bool false))
    | .neq => K (.c (.bool true))
    | _ => False
  | .nils, .nils =>
    elO (td P t) fun D => D.elem.isSome = true ∧ match op with
    | .eql => K (.c (.bool true))
    | .neq => K (.c (.bool false))
    | _ => False
  | _, _ => False

def lenA : AV → Option Int
  | .c (.string s) => some s.size
  | .nils => some 0
  | .sl _ _ es => some es.length
  | .own _ _ n => some n
  | _ => none

/-- The value of a variable at a place. -/
def loadA (h : Heap) (agg : Bool) (size : Nat) : AV → (AV → Prop) → Prop
  | .dptr xs, K => if agg then size ≤ xs.length ∧ K (.agg (xs.take size)) else elO xs[0]? K
  | .ptr L j, K => match h[L]? with
    | some (some (.var _ cs)) => if agg then j + size ≤ cs.length ∧ K (.agg ((cs.drop j).take size)) else elO cs[j]? K
    | _ => False
  | .rp L i j, K => match h[L]? with
    | some (some (.row _ st es)) => st ≠ 0 ∧ i % st = 0 ∧ elO es[i / st]? fun e => if agg then j + size ≤ e.length ∧ K (.agg ((e.drop j).take size)) else elO e[j]? K
    | _ => False
  | _, _ => False

def cellsA : AV → List AV
  | .agg xs => xs
  | v => [v]
/-- The value fills one cell, or is a struct. -/
def cellOk : AV → Bool
  | .c u => u.oneCell'
  | .junk => false
  | .tup _ => false
  | _ => true

def setAll (cs : List AV) : Nat → List AV → List AV
  | _, [] => cs
  | i, x :: xs => setAll (cs.set i x) (i + 1) xs

def fillA (place : Nat → Option (Nat × Nat)) (cs : List AV) : List (Nat × AV) → Option (List AV)
  | [] => some cs
  | (i, x) :: r => match place i with
    | none => none
    | some (off, size) => if cellOk x = true ∧ (cellsA x).length = size ∧ off + size ≤ cs.length then fillA place (setAll cs off (cellsA x)) r else none

def placesA (P : Program) : List (Nat × TypeId) → List (Nat × Nat)
  | [] => []
  | f :: r => match td P f.2 with
    | some F => (f.1, F.size) :: placesA P r
    | none => []
/-- Where the parts of a struct or an array lie. -/
def placeT (P : Program) (D : TD) (K : (Nat → Option (Nat × Nat)) → Prop) : Prop :=
  match D.arr with
  | some (_, e) => elO (td P e) fun E => K fun i => some (i * E.size, E.size)
  | none => D.fields ≠ [] ∧ (placesA P D.fields).length = D.fields.length ∧ K fun i => (placesA P D.fields)[i]?
def lenK (D : TD) : AV → Bool
  | .c _ => D.str
  | _ => D.elem.isSome

def pickA (c a b : AV) (K : AV → Prop) : Prop :=
  match c with
  | .c (.bool t) => (t = true → K a) ∧ (t = false → K b)
  | _ => False
theorem pickA_t (a b : AV) (K : AV → Prop) : pickA (.c (.bool true)) a b K = K a := by simp [pickA]
theorem pickA_f (a b : AV) (K : AV → Prop) : pickA (.c (.bool false)) a b K = K b := by simp [pickA]
theorem pickA_split {t : Bool} {a b : AV} {K : AV → Prop} (h1 : t = true → K a) (h2 : t = false → K b) : pickA (.c (.bool t)) a b K := ⟨h1, h2⟩

/-- Operations that leave the memory. -/
def apureO (P : Program) (σ : AS) (op : Op) (K : AV → Prop) : Prop :=
  match op with
  | .move x => K (aev σ x)
  | .assign x => K (aev σ x)
  | .pick c a b => pickA (aev σ c) (aev σ a) (aev σ b) K
  | .extract x k => match aev σ x with
    | .tup xs => elO xs[k]? K
    | _ => False
  | .binOp op t x y _ => binK P op t (aev σ x) (aev σ y) K
  | .unOp .not _ x => match aev σ x with
    | .c (.bool b) => K (.c (.bool (!b)))
    | _ => False
  | .unOp .neg _ x => match aev σ x with
    | .c (.int k n) => K (.c (.int k (k.wrap (0 - n))))
    | _ => False
  | .slice t x lo hi none => match aev σ x with
    | .c (.string s) => elO (td P t) fun D => D.str = true ∧ (match lo.map (aev σ), hi.map (aev σ) with
      | some (.c (.int _ a)), some (.c (.int _ b)) => 0 ≤ a ∧ a ≤ b ∧ b ≤ (s.size : Int) ∧ K (.c (.string (s.extract a.toNat b.toNat)))
      | none, some (.c (.int _ b)) => 0 ≤ b ∧ b ≤ (s.size : Int) ∧ K (.c (.string (s.extract 0 b.toNat)))
      | some (.c (.int _ a)), none => 0 ≤ a ∧ a ≤ (s.size : Int) ∧ K (.c (.string (s.extract a.toNat s.size)))
      | _, _ => False)
    | _ => False
  | .convert s d x => match aev σ x with
    | .c (.int _ n) => elO (td P s) fun _ => elO (td P d) fun D => elO D.ik fun k => K (.c (.int k (k.wrap n)))
    | _ => False
  | .fieldAddr s x f => elO (td P s) fun D => elO D.fields[f]? fun p => elO (td P p.2) fun F => F.size ≠ 0 ∧ match aev σ x with
    | .ptr L j => K (.ptr L (j + p.1))
    | .rp L i j => K (.rp L i (j + p.1))
    | .dptr xs => K (.dptr (xs.drop p.1))
    | _ => False
  | .indexAddr t x i => elO (td P t) fun D => match aev σ i with
    | .c (.int _ n) => 0 ≤ n ∧ (match aev σ x with
      | .sl _ st es => elO D.elem fun e => elO (td P e) fun E => E.size = st ∧ elO es[n.toNat]? fun x => K (.dptr x)
      | .own L st k => elO D.elem fun e => elO (td P e) fun E => E.size = st ∧ n.toNat < k ∧ K (.rp L (n.toNat * st) 0)
      | .ptr L j => elO D.arr fun a => elO (td P a.2) fun E => n.toNat < a.1 ∧ K (.ptr L (j + n.toNat * E.size))
      | .dptr xs => elO D.arr fun a => elO (td P a.2) fun E => n.toNat < a.1 ∧ K (.dptr (xs.drop (n.toNat * E.size)))
      | _ => False)
    | _ => False
  | .index t x i => match aev σ x, aev σ i with
    | .c (.string s), .c (.int _ n) => elO (td P t) fun D => D.str = true ∧ 0 ≤ n ∧ elO s[n.toNat]? fun b => K (.c (.int .u8 b.toNat))
    | _, _ => False
  | .load t p => elO (td P t) fun D => loadA σ.h D.agg D.size (aev σ p) K
  | .makeFunc (.func f) first cap => first.size = 0 ∧ K (.fn f (cap.toList.map (aev σ)))
  | .build t parts => elO (td P t) fun D => elO D.zero fun z => z.all (·.oneCell') = true ∧ placeT P D fun pl => elO (fillA pl (z.map cvc) (parts.toList.map fun p => (p.1, aev σ p.2))) fun cs => K (.agg cs)
  | .call ⟨.builtin .len, args, ats⟩ => match args.toList, ats.toList with
    | [x], [t] => elO (td P t) fun D => lenK D (aev σ x) = true ∧ elO (lenA (aev σ x)) fun n => K (.c (.int .i64 n))
    | _, _ => False
  | _ => False

def apure (P : Program) (σ : AS) (o : Oper) (K : AV → Prop) : Prop := apureO P σ o.op K

/-- An operation that leaves the world. -/
def OpOkP (P : Program) (σ : AS) (o : Oper) (v : AV) : Prop :=
  ∀ m ok ρ w, (∀ x ∈ o.op.operands, RepV m ok w (aev σ x) (ρ x)) → HOwn m ok σ.h w → ∃ u, (execOp ρ o).run P w = .ok (.value u) w ∧ RepV m ok w v u

theorem run_value {P : Program} {s : Sem Value} {u : Value} {w : World} (h : s.run P w = .ok u w) : (do pure (Next.value (← s)) : Sem Next).run P w = .ok (.value u) w := by
  simp [h]

theorem binK_ok {P : Program} {op : BinOp} {t : TypeId} {x y : Operand} {a b : AV} {K : AV → Prop} (h : binK P op t a b K) : ∃ v, K v ∧ ∀ (m : List (Option Nat)) (ok : Nat → Prop) (w : World) (p q : Value), RepV m ok w a p → RepV m ok w b q →
    ∃ u, (do eqGuard op t x y p q; binOp op t p q : Sem Value).run P w = .ok u w ∧ RepV m ok w v u := by
  unfold binK at h
  split at h
  · rename_i k n k' n'
    have key : ∀ r, K (.c r) → (∀ w : World, (do eqGuard op t x y (.int k n) (.int k' n'); binOp op t (.int k n) (.int k' n') : Sem Value).run P w = .ok r w) → ∃ v, K v ∧ ∀ (m : List (Option Nat)) (ok : Nat → Prop) (w : World) (p q : Value), RepV m ok w (.c (.int k n)) p → RepV m ok w (.c (.int k' n')) q →
        ∃ u, (do eqGuard op t x y p q; binOp op t p q : Sem Value).run P w = .ok u w ∧ RepV m ok w v u := fun r hK hr => by
      refine ⟨_, hK, fun m ok w p q hp hq => ⟨r, ?_, by simp [RepV]⟩⟩
      simp only [RepV] at hp hq
      subst hp hq
      exact hr w
    cases op <;> simp only [] at h <;> first
      | exact h.elim
      | (obtain ⟨rfl, h0, h⟩ := h
         refine key _ h fun w => ?_
         simp [eqGuard, binOp, Op.intArith, Op.intDiv, Op.intBits, Op.intCmp, h0])
      | (obtain ⟨rfl, h⟩ := h
         refine key _ h fun w => ?_
         simp [eqGuard, binOp, Op.intArith, Op.intDiv, Op.intBits, Op.intCmp, bits])
      | (obtain ⟨h0, h⟩ := h
         refine key _ h fun w => ?_
         simp [eqGuard, binOp, Op.shift, show ¬ n' < 0 by omega])
  · rename_i a b
    have key : ∀ r, K (.c r) → (∀ w : World, (do eqGuard op t x y (.string a) (.string b); binOp op t (.string a) (.string b) : Sem Value).run P w = .ok r w) → ∃ v, K v ∧ ∀ (m : List (Option Nat)) (ok : Nat → Prop) (w : World) (p q : Value), RepV m ok w (.c (.string a)) p → RepV m ok w (.c (.string b)) q →
        ∃ u, (do eqGuard op t x y p q; binOp op t p q : Sem Value).run P w = .ok u w ∧ RepV m ok w v u := fun r hK hr => by
      refine ⟨_, hK, fun m ok w p q hp hq => ⟨r, ?_, by simp [RepV]⟩⟩
      simp only [RepV] at hp hq
      subst hp hq
      exact hr w
    cases op <;> simp only [] at h <;> first
      | exact h.elim
      | (obtain ⟨h0, h⟩ := h
         refine key _ h fun w => ?_
         have h1 : ¬ (IntKind.i64.max < ((a.size + b.size : Nat) : Int)) := by show ¬ (9223372036854775807 < _); omega
         simp only [eqGuard, binOp, Op.stringOp]
         simp only [Int.natCast_add] at h1
         simp
         omega)
      | (refine key _ h fun w => ?_
         simp [eqGuard, binOp, Op.stringOp])
  · rename_i a b
    obtain ⟨D, hD, hb, h⟩ := elO_ex h
    obtain ⟨u, i, hu, hi, rfl⟩ := td_some hD
    obtain rfl := boolD_true hb
    have key : ∀ r, K (.c r) → (∀ w : World, (do eqGuard op t x y (.bool a) (.bool b); binOp op t (.bool a) (.bool b) : Sem Value).run P w = .ok r w) → ∃ v, K v ∧ ∀ (m : List (Option Nat)) (ok : Nat → Prop) (w : World) (p q : Value), RepV m ok w (.c (.bool a)) p → RepV m ok w (.c (.bool b)) q →
        ∃ u, (do eqGuard op t x y p q; binOp op t p q : Sem Value).run P w = .ok u w ∧ RepV m ok w v u := fun r hK hr => by
      refine ⟨_, hK, fun m ok w p q hp hq => ⟨r, ?_, by simp [RepV]⟩⟩
      simp only [RepV] at hp hq
      subst hp hq
      exact hr w
    cases op <;> simp only [] at h <;> first
      | exact h.elim
      | (refine key _ h fun w => ?_
         simp [eqGuard, binOp, run_equal_bool w t a b hu])
  · rename_i st es
    obtain ⟨D, hD, hb, h⟩ := elO_ex h
    obtain ⟨u, i, hu, hi, rfl⟩ := td_some hD
    obtain ⟨e, he⟩ := Option.isSome_iff_exists.1 hb
    obtain rfl := elemD_some he
    have run : ∀ (A : Option Addr) (n c : Nat) (w : World), A ≠ none → (Op.equal t (.slice A n c) (.slice none 0 0)).run P w = .ok false w := fun A n c w hA => by
      rw [run_equal_slice_nil w t e A n c hu]
      cases A with
      | none => exact absurd rfl hA
      | some a => rfl
    cases op <;> simp only [] at h <;> first
      | exact h.elim
      | (refine ⟨_, h, fun m ok w p q hp hq => ?_⟩
         obtain ⟨A, cap, rfl, hn, _⟩ := hp
         simp only [RepV] at hq
         subst hq
         exact ⟨_, by simp [eqGuard, binOp, run A _ cap w (hn.1 rfl)], rfl⟩)
  · obtain ⟨D, hD, hb, h⟩ := elO_ex h
    obtain ⟨u, i, hu, hi, rfl⟩ := td_some hD
    obtain ⟨e, he⟩ := Option.isSome_iff_exists.1 hb
    obtain rfl := elemD_some he
    cases op <;> simp only [] at h <;> first
      | exact h.elim
      | (refine ⟨_, h, fun m ok w p q hp hq => ?_⟩
         simp only [RepV] at hp hq
         subst hp hq
         exact ⟨_, by simp [eqGuard, binOp, run_equal_slice_nil w t e none 0 0 hu], rfl⟩)
  · exact h.elim
end

-- part 4
section
theorem cell_of_block {w : World} {b o : Nat} {cs : Array Value} {t : TypeId} {f : Nat × Nat} (h : w.heap[b]? = some (.cells cs t f)) : w.cell? ⟨b, o, none⟩ = cs[o]? := by
  unfold World.cell?
  simp [h]

theorem RepCs.vals {ok : Nat → Prop} {w : World} {b : Nat} : ∀ {xs : List AV} {o : Nat}, RepCs ok w b o xs → ∃ vs, RepDL ok w xs vs ∧ (∀ (j : Nat) v, vs[j]? = some v → w.cell? ⟨b, o + j, none⟩ = some v) ∧ ∀ u ∈ vs, u.oneCell' = true
  | [], _, _ => ⟨[], by simp [RepDL], by simp, by simp⟩
  | x :: xs, o, ⟨⟨u, hc, h1, hx⟩, hr⟩ => by
    obtain ⟨vs, a, b', c⟩ := RepCs.vals hr
    refine ⟨u :: vs, ⟨u, vs, rfl, hx, a⟩, fun j v hj => ?_, fun v hv => ?_⟩
    · cases j with
      | zero => simp at hj; subst hj; exact hc
      | succ j =>
        have := b' j v (by simpa using hj)
        rwa [Nat.add_assoc, Nat.add_comm 1 j] at this
    · rcases List.mem_cons.1 hv with rfl | h
      · exact h1
      · exact c v h

theorem run_loadVar_cell {P : Program} {t : TypeId} {D : TD} (h : td P t = some D) (ha : D.agg = false) {w : World} {a : Addr} {v : Value} (hc : w.cell? a = some v) : (loadVar t a).run P w = .ok v w := by
  unfold loadVar
  rw [Sem.run_bind, isAgg_run h, Result.andThen_ok, ha]
  simp [hc]

theorem run_loadVar_list {P : Program} {t : TypeId} {D : TD} (h : td P t = some D) (ha : D.agg = true) {w : World} {a : Addr} {vs : List Value} (hl : vs.length = D.size) (hc : ∀ (j : Nat) v, vs[j]? = some v → w.cell? (a.add j) = some v) : (loadVar t a).run P w = .ok (.agg vs.toArray) w := by
  unfold loadVar
  rw [Sem.run_bind, isAgg_run h, Result.andThen_ok, ha]
  simp only [if_true, Sem.run_bind, sizeOf_run h, Result.andThen_ok, ← hl]
  rw [run_loadCells_list (P := P) w a vs hc]
  rfl

theorem loadA_ok {P : Program} {t : TypeId} {D : TD} (hD : td P t = some D) {h : Heap} {a : AV} {K : AV → Prop} (hK : loadA h D.agg D.size a K) :
    ∃ v, K v ∧ ∀ (m : List (Option Nat)) (ok : Nat → Prop) (w : World) (p : Value), RepV m ok w a p → HOwn m ok h w → ∃ u, (Instr.loadAt t p).run P w = .ok u w ∧ RepV m ok w v u := by
  unfold loadA at hK
  split at hK
  · rename_i xs
    cases hag : D.agg with
    | true =>
      rw [hag, if_pos rfl] at hK
      obtain ⟨hlen, hK⟩ := hK
      refine ⟨_, hK, fun m ok w p hp _ => ?_⟩
      obtain ⟨b, o, rfl, hb, hc⟩ := hp
      obtain ⟨vs, h1, h2, h3⟩ := hc.vals
      have h1' : RepL m ok w xs vs := RepDL.up xs h1
      have hl := h1'.length
      refine ⟨.agg (vs.take D.size).toArray, ?_, ⟨_, rfl, by simpa using h1'.take D.size, fun u hu => h3 u (List.mem_of_mem_take (by simpa using hu))⟩⟩
      show (loadVar t ⟨b, o, none⟩).run P w = _
      refine run_loadVar_list hD hag (by simp; omega) fun j v hj => ?_
      rw [add_plain]
      rw [List.getElem?_take] at hj
      split at hj
      · exact h2 j v hj
      · cases hj
    | false =>
      rw [hag, if_neg (by simp)] at hK
      obtain ⟨x, hx, hK⟩ := elO_ex hK
      refine ⟨_, hK, fun m ok w p hp _ => ?_⟩
      obtain ⟨b, o, rfl, hb, hc⟩ := hp
      obtain ⟨u, h1, _, h2⟩ := hc.get hx
      exact ⟨u, run_loadVar_cell hD hag h1, RepD.up _ h2⟩
  · rename_i L j
    split at hK
    · rename_i t' cs hL
      cases hag : D.agg with
      | true =>
        rw [hag, if_pos rfl] at hK
        obtain ⟨hlen, hK⟩ := hK
        refine ⟨_, hK, fun m ok w p hp ho => ?_⟩
        obtain ⟨b, hm, rfl⟩ := hp
        obtain ⟨b', vs, hm', hb, hr, h1⟩ := ho L _ hL
        rw [hm] at hm'; cases hm'
        have hl := hr.length
        refine ⟨.agg ((vs.toList.drop j).take D.size).toArray, ?_, ⟨_, rfl, by simpa using (hr.drop j).take D.size, fun u hu => h1 u (List.mem_of_mem_drop (List.mem_of_mem_take (by simpa using hu)))⟩⟩
        show (loadVar t ⟨b, j, none⟩).run P w = _
        refine run_loadVar_list hD hag (by simp at hl ⊢; omega) fun k v hk => ?_
        rw [add_plain, cell_of_block hb]
        rw [List.getElem?_take] at hk
        split at hk
        · rw [List.getElem?_drop] at hk
          simpa using hk
        · cases hk
      | false =>
        rw [hag, if_neg (by simp)] at hK
        obtain ⟨x, hx, hK⟩ := elO_ex hK
        refine ⟨_, hK, fun m ok w p hp ho => ?_⟩
        obtain ⟨b, hm, rfl⟩ := hp
        obtain ⟨b', vs, hm', hb, hr, h1⟩ := ho L _ hL
        rw [hm] at hm'; cases hm'
        obtain ⟨u, hu, hv⟩ := hr.get hx
        exact ⟨u, run_loadVar_cell hD hag (by rw [cell_of_block hb]; simpa using hu), hv⟩
    · exact hK.elim
  · rename_i L i j
    split at hK
    · rename_i t' st es hL
      obtain ⟨hst, him, hK⟩ := hK
      obtain ⟨e, he, hK⟩ := elO_ex hK
      have hii : i / st * st = i := by have := Nat.div_add_mod i st; rw [Nat.mul_comm] at this; omega
      cases hag : D.agg with
      | true =>
        rw [hag, if_pos rfl] at hK
        obtain ⟨hlen, hK⟩ := hK
        refine ⟨_, hK, fun m ok w p hp ho => ?_⟩
        obtain ⟨b, hm, rfl⟩ := hp
        obtain ⟨ob, hm', hr⟩ := ho L _ hL
        rw [hm] at hm'; cases hm'
        obtain ⟨cs, hb, _, hr⟩ := hr
        have hr := (hr _ e he).2
        rw [hii] at hr
        have hq : ∀ k, k < e.length → ∃ u, cs[i + k]? = some u ∧ u.oneCell' = true ∧ RepD ok w (e[k]?.getD .junk) u := fun k hk => by
          obtain ⟨u, h1, h2, h3⟩ := hr k e[k] (by simp [hk])
          exact ⟨u, h1, h2, by simpa [hk] using h3⟩
        have hsz : ∀ k, k < e.length → i + k < cs.size := fun k hk => by
          obtain ⟨u, h1, _⟩ := hq k hk
          exact (Array.getElem?_eq_some_iff.1 h1).1
        have hend : i + (j + D.size) ≤ cs.size := by
          rcases Nat.eq_zero_or_pos (j + D.size) with h0 | h0
          · have : es.length * st ≤ cs.size := by assumption
            have hlt : i / st < es.length := (List.getElem?_eq_some_iff.1 he).1
            have : i / st * st ≤ es.length * st := Nat.mul_le_mul_right _ (by omega)
            omega
          · have := hsz (j + D.size - 1) (by omega)
            omega
        refine ⟨.agg ((cs.toList.drop (i + j)).take D.size).toArray, ?_, ⟨_, rfl, ?_, fun u hu => ?_⟩⟩
        · show (loadVar t ⟨b, i + j, none⟩).run P w = _
          refine run_loadVar_list hD hag (by simp; omega) fun k v hk => ?_
          rw [add_plain, hb.cell]
          rw [List.getElem?_take] at hk
          split at hk
          · rw [List.getElem?_drop] at hk
            simpa using hk
          · cases hk
        · refine RepL.of (by simp; omega) fun k x u h1 h2 => ?_
          simp only [List.getElem?_take, List.getElem?_drop, Array.getElem?_toList] at h1 h2
          split at h1
          · rw [if_pos (by assumption)] at h2
            obtain ⟨u', a1, _, a2⟩ := hr (j + k) x h1
            rw [← Nat.add_assoc] at a1
            rw [a1] at h2; cases h2
            exact RepD.up _ a2
          · cases h1
        · obtain ⟨k, hk, rfl⟩ := List.getElem_of_mem hu
          simp at hk
          obtain ⟨u', a1, a2, _⟩ := hq (j + k) (by omega)
          have : cs[i + j + k] = u' := by
            have := a1
            rw [← Nat.add_assoc] at this
            exact (Array.getElem?_eq_some_iff.1 this).2
          simp [this, a2]
      | false =>
        rw [hag, if_neg (by simp)] at hK
        obtain ⟨x, hx, hK⟩ := elO_ex hK
        refine ⟨_, hK, fun m ok w p hp ho => ?_⟩
        obtain ⟨b, hm, rfl⟩ := hp
        obtain ⟨ob, hm', hr⟩ := ho L _ hL
        rw [hm] at hm'; cases hm'
        obtain ⟨cs, hb, _, hr⟩ := hr
        obtain ⟨u, h1, _, h2⟩ := (hr _ e he).2 j x hx
        rw [hii] at h1
        exact ⟨u, run_loadVar_cell hD hag (by rw [hb.cell]; exact h1), RepD.up _ h2⟩
    · exact hK.elim
  · exact hK.elim

/-- One or more cells of a value. -/
theorem cells_ok {m : List (Option Nat)} {ok : Nat → Prop} {w : World} {x : AV} {v : Value} (h : cellOk x = true) (hr : RepV m ok w x v) : RepL m ok w (cellsA x) v.cells.toList ∧ ∀ u ∈ v.cells.toList, u.oneCell' = true := by
  have one : ∀ {y : AV} {u : Value}, RepV m ok w y u → u.cells = #[u] → u.oneCell' = true → RepL m ok w [y] u.cells.toList ∧ ∀ q ∈ u.cells.toList, q.oneCell' = true := fun hy hu h1 => by
    rw [hu]
    exact ⟨⟨_, [], rfl, hy, rfl⟩, fun q hq => by simp at hq; subst hq; exact h1⟩
  cases x with
  | junk => simp [cellOk] at h
  | tup xs => simp [cellOk] at h
  | c u =>
    have hr' := hr
    simp only [RepV] at hr
    subst hr
    refine one hr' ?_ h
    cases v <;> simp_all [cellOk, Value.cells, Value.oneCell']
  | nils =>
    have hr' := hr
    simp only [RepV] at hr
    subst hr
    exact one hr' rfl rfl
  | sl nn st es =>
    have hr' := hr
    obtain ⟨A, cap, rfl, _⟩ := hr
    exact one hr' rfl rfl
  | dptr xs =>
    have hr' := hr
    obtain ⟨b, o, rfl, _⟩ := hr
    exact one hr' rfl rfl
  | ptr L j =>
    have hr' := hr
    obtain ⟨b, _, rfl⟩ := hr
    exact one hr' rfl rfl
  | rp L i j =>
    have hr' := hr
    obtain ⟨b, _, rfl⟩ := hr
    exact one hr' rfl rfl
  | own L st n =>
    have hr' := hr
    obtain ⟨ob, _, ho⟩ := hr
    cases ob with
    | none => obtain ⟨_, rfl⟩ := ho; exact one hr' rfl rfl
    | some b => obtain ⟨cap, t, rfl, _⟩ := ho; exact one hr' rfl rfl
  | agg xs =>
    obtain ⟨vs, rfl, hl, h1⟩ := hr
    exact ⟨hl, h1⟩
  | fn f cap =>
    have hr' := hr
    obtain ⟨vs, rfl, _⟩ := hr
    exact one hr' rfl rfl

theorem setAll_length : ∀ (xs cs : List AV) (i : Nat), (setAll cs i xs).length = cs.length
  | [], _, _ => rfl
  | x :: xs, cs, i => by rw [setAll, setAll_length xs]; simp

theorem setAll_fold {m : List (Option Nat)} {ok : Nat → Prop} {w : World} (off : Nat) : ∀ (xs : List AV) (us : List Value) (k : Nat) (cs : List AV) (vs : Array Value), RepL m ok w xs us → RepL m ok w cs vs.toList → (∀ u ∈ us, u.oneCell' = true) → (∀ u ∈ vs.toList, u.oneCell' = true) →
    RepL m ok w (setAll cs (off + k) xs) ((us.zipIdx k).foldl (fun cs (c, j) => cs.setIfInBounds (off + j) c) vs).toList ∧ (∀ u ∈ ((us.zipIdx k).foldl (fun cs (c, j) => cs.setIfInBounds (off + j) c) vs).toList, u.oneCell' = true)
  | [], _, _, _, _, h, hc, _, h1 => by cases h; exact ⟨hc, h1⟩
  | x :: xs, _, k, cs, vs, ⟨u, us, rfl, hx, hr⟩, hc, h1, h2 => by
    rw [setAll, List.zipIdx_cons, List.foldl_cons]
    refine setAll_fold off xs us (k + 1) _ _ hr ?_ (fun q hq => h1 q (by simp [hq])) fun q hq => ?_
    · have := hc.set (off + k) hx
      simpa using this
    · simp only [Array.toList_setIfInBounds] at hq
      rcases List.mem_or_eq_of_mem_set hq with h | h
      · exact h2 q h
      · subst h; exact h1 _ (by simp)

theorem fillA_ok {m : List (Option Nat)} {ok : Nat → Prop} {w : World} (place : Nat → Option (Nat × Nat)) : ∀ (ps : List (Nat × AV)) (qs : List (Nat × Value)) (cs : List AV) (vs : Array Value) (out : List AV), fillA place cs ps = some out → RepL m ok w cs vs.toList → (∀ u ∈ vs.toList, u.oneCell' = true) →
    qs.length = ps.length → (∀ (i : Nat) (p : Nat × AV) (q : Nat × Value), ps[i]? = some p → qs[i]? = some q → p.1 = q.1 ∧ RepV m ok w p.2 q.2) → ∃ vs', Instr.fill place vs qs = some vs' ∧ RepL m ok w out vs'.toList ∧ ∀ u ∈ vs'.toList, u.oneCell' = true
  | [], qs, cs, vs, out, h, hc, h1, hl, _ => by
    simp [fillA] at h
    subst h
    obtain rfl := List.eq_nil_of_length_eq_zero hl
    exact ⟨vs, rfl, hc, h1⟩
  | (i, x) :: ps, [], _, _, _, _, _, _, hl, _ => by simp at hl
  | (i, x) :: ps, (k, v) :: qs, cs, vs, out, h, hc, h1, hl, hp => by
    obtain ⟨h0, hx⟩ := hp 0 _ _ rfl rfl
    simp only at h0 hx
    subst h0
    unfold fillA at h
    split at h
    · cases h
    · rename_i off size hpl
      split at h
      · rename_i hcond
        obtain ⟨hco, hsz, hle⟩ := hcond
        obtain ⟨hr, hone⟩ := cells_ok hco hx
        have hlen := hr.length
        have hlv := hc.length
        unfold Instr.fill
        rw [hpl]
        simp only
        rw [if_neg (by simp at hlen hlv ⊢; omega)]
        have key := setAll_fold off (cellsA x) v.cells.toList 0 cs vs hr hc hone h1
        rw [Nat.add_zero] at key
        have e : (Array.foldl (fun cs (x : Value × Nat) => cs.setIfInBounds (off + x.2) x.1) vs v.cells.zipIdx) = (v.cells.toList.zipIdx 0).foldl (fun cs (c, j) => cs.setIfInBounds (off + j) c) vs := by
          rw [← Array.foldl_toList, Array.toList_zipIdx]
        refine fillA_ok place ps qs _ _ out h ?_ ?_ (by simpa using hl) fun i p q a b => hp (i + 1) p q (by simpa using a) (by simpa using b)
        · exact e ▸ key.1
        · exact e ▸ key.2
      · cases h
end

-- part 5
section
theorem lenA_ok {P : Program} {t : TypeId} {D : TD} (hD : td P t = some D) {x : AV} {n : Int} (hn : lenA x = some n) (hk : lenK D x = true) {m : List (Option Nat)} {ok : Nat → Prop} {w : World} {v : Value} (hr : RepV m ok w x v) (ty : TypeId) :
    (Builtin.len_ #[t] ty #[v]).run P w = .ok (.int .i64 n) w := by
  obtain ⟨u, i, hu, hi, rfl⟩ := td_some hD
  have sl : ∀ (A : Option Addr) (k cap : Nat), (elemD u).isSome = true → (Builtin.len_ #[t] ty #[.slice A k cap]).run P w = .ok (.int .i64 k) w := fun A k cap he => by
    obtain ⟨e, he⟩ := Option.isSome_iff_exists.1 he
    obtain rfl := elemD_some he
    simp [Builtin.len_, run_underlying hu, goInt]
  unfold lenA at hn
  split at hn <;> simp only [lenK] at hk
  · cases hn
    simp only [RepV] at hr
    subst hr
    obtain rfl := strD_true hk
    simp [Builtin.len_, run_underlying hu, goInt]
  · cases hn
    simp only [RepV] at hr
    subst hr
    exact sl none 0 0 hk
  · cases hn
    obtain ⟨A, cap, rfl, _⟩ := hr
    exact sl A _ cap hk
  · cases hn
    obtain ⟨ob, _, ho⟩ := hr
    cases ob with
    | none => obtain ⟨rfl, rfl⟩ := ho; exact sl none 0 0 hk
    | some b => obtain ⟨cap, t, rfl, _⟩ := ho; exact sl _ _ cap hk
  · cases hn

theorem run_indexAt {P : Program} {t e : TypeId} {E : TD} (hu : P.underlying t = some (.slice e)) (hE : td P e = some E) {b o len cap : Nat} {k : IntKind} {n : Int} (h0 : 0 ≤ n) (hn : n.toNat < len) (w : World) :
    (Instr.indexAt t (.slice (some ⟨b, o, none⟩) len cap) (.int k n)).run P w = .ok (.pointer (some ⟨b, o + n.toNat * E.size, none⟩)) w := by
  have h1 : n < len := by omega
  simp [Instr.indexAt, asIntOf, run_underlying hu, h0, h1, sizeOf_run hE, add_plain]

theorem run_indexAt_arr {P : Program} {t e : TypeId} {E : TD} {len : Nat} (hu : P.underlying t = some (.array len e)) (hE : td P e = some E) {b o : Nat} {k : IntKind} {n : Int} (h0 : 0 ≤ n) (hn : n.toNat < len) (w : World) :
    (Instr.indexAt t (.pointer (some ⟨b, o, none⟩)) (.int k n)).run P w = .ok (.pointer (some ⟨b, o + n.toNat * E.size, none⟩)) w := by
  have h1 : n < len := by omega
  simp [Instr.indexAt, asIntOf, run_underlying hu, h0, h1, sizeOf_run hE, add_plain, Instr.sureAddr]

theorem run_fieldAt {P : Program} {s : TypeId} {fs : Array Field} {fd : Field} {f : Nat} {F : TD} (hu : P.underlying s = some (.struct fs)) (hf : fs[f]? = some fd) (hF : td P fd.type = some F) (h0 : F.size ≠ 0) (b o : Nat) (w : World) :
    (Instr.fieldAt s (.pointer (some ⟨b, o, none⟩)) f).run P w = .ok (.pointer (some ⟨b, o + fd.offset, none⟩)) w := by
  unfold Instr.fieldAt
  simp only [Sem.run_bind, run_underlying hu, Result.andThen_ok, hf]
  simp [Instr.sureAddr, fieldPlace, sizeOf_run hF, h0, add_plain]

theorem placesA_ok {P : Program} : ∀ (fs : List Field), (placesA P (fs.map fun f => (f.offset, f.type))).length = fs.length → fs.mapM (fun f => (P.info? f.type).map fun i => (f.offset, i.size)) = some (placesA P (fs.map fun f => (f.offset, f.type)))
  | [], _ => rfl
  | f :: fs, h => by
    rw [List.map_cons, placesA] at h ⊢
    split at h
    · rename_i F hF
      obtain ⟨u, i, hu, hi, rfl⟩ := td_some hF
      have := placesA_ok fs (by simpa using h)
      simp [List.mapM_cons, hi, this, hF]
    · simp at h

theorem build_ok {P : Program} {σ : AS} {dst : Option Tmp} {t : TypeId} {parts : Array (Nat × Operand)} {type : TypeId} {pos : String} {after : Array Edge} {guard : Option (Nat × Bool)} {K : AV → Prop} {D : TD} (hD : td P t = some D) {z : List Value} (hz : D.zero = some z) (hz1 : z.all (·.oneCell') = true)
    (h : placeT P D fun pl => elO (fillA pl (z.map cvc) (parts.toList.map fun p => (p.1, aev σ p.2))) fun cs => K (.agg cs)) : ∃ v, K v ∧ OpOkP P σ ⟨dst, .build t parts, type, pos, after, guard⟩ v := by
  have key : ∀ (pl : Nat → Option (Nat × Nat)) (cs : List AV), (∀ (zv : Value) (ps : List (Nat × Value)) vs', zv.cells.toList = z → (P.info? t).bind (·.zero) = some zv → Instr.fill pl zv.cells ps = some vs' → P.built t ps = some vs') →
      fillA pl (z.map cvc) (parts.toList.map fun p => (p.1, aev σ p.2)) = some cs → OpOkP P σ ⟨dst, .build t parts, type, pos, after, guard⟩ (.agg cs) := fun pl cs hb hcs m ok ρ w hx _ => by
    obtain ⟨u, inf, hu, hi, rfl⟩ := td_some hD
    simp only [Option.map_eq_some_iff] at hz
    obtain ⟨zv, hzv, hzl⟩ := hz
    obtain ⟨vs', hf, hl, h1⟩ := fillA_ok (m := m) (ok := ok) (w := w) pl _ ((parts.map fun (i, x) => (i, ρ x)).toList) (z.map cvc) zv.cells cs hcs (by rw [hzl]; exact cvcs_rep m ok w z) (fun q hq => by rw [hzl] at hq; exact List.all_eq_true.1 hz1 q hq) (by simp) (fun i p q hp hq => by
      simp only [Array.toList_map, List.getElem?_map, Option.map_eq_some_iff] at hp hq
      obtain ⟨a, ha, rfl⟩ := hp
      obtain ⟨b, hb, rfl⟩ := hq
      rw [ha] at hb; cases hb
      exact ⟨rfl, hx _ (by simp [Op.operands]; exact ⟨_, by simpa using List.mem_of_getElem? ha⟩)⟩)
    exact ⟨.agg vs', run_value (run_build w t _ vs' (hb zv _ vs' hzl (by rw [hi]; simpa using hzv) hf)), ⟨_, rfl, hl, h1⟩⟩
  unfold placeT at h
  obtain ⟨u, inf, hu, hi, rfl⟩ := td_some hD
  split at h
  · rename_i n e ha
    have q_ := elO_ex h
    clear h
    obtain ⟨E, hE, h⟩ := q_
    have q_ := elO_ex h
    clear h
    obtain ⟨cs, hcs, h⟩ := q_
    obtain ⟨u', inf', hu', hi', rfl⟩ := td_some hE
    refine ⟨_, h, key _ cs (fun zv ps vs' hzl hzv hf => ?_) hcs⟩
    have := arrD_some ha
    simp only at this
    subst this
    rw [hi] at hzv
    simp only [Option.bind_some] at hzv
    simp [Program.built, hi, hu, hzv, hi', hf]
  · rename_i ha
    obtain ⟨hne, hlen, h⟩ := h
    have q_ := elO_ex h
    clear h
    obtain ⟨cs, hcs, h⟩ := q_
    refine ⟨_, h, key _ cs (fun zv ps vs' hzl hzv hf => ?_) hcs⟩
    cases u <;> try (simp [fieldsD] at hne; done)
    rename_i fs
    have hp := placesA_ok (P := P) fs.toList (by simpa [fieldsD] using hlen)
    rw [hi] at hzv
    simp only [Option.bind_some] at hzv
    simp only [fieldsD] at hf
    simp [Program.built, hi, hu, hzv, hp, hf]

theorem mem_ops1 {x : Operand} : x ∈ #[x] := by simp

theorem apure_ok {P : Program} {σ : AS} {o : Oper} {K : AV → Prop} (h : apure P σ o K) : ∃ v, K v ∧ OpOkP P σ o v := by
  obtain ⟨dst, op, type, pos, after, guard⟩ := o
  unfold apure apureO at h
  simp only at h
  split at h
  -- move
  · rename_i x
    exact ⟨_, h, fun m ok ρ w hx _ => ⟨ρ x, rfl, hx x (by simp [Op.operands])⟩⟩
  -- assign
  · rename_i x
    exact ⟨_, h, fun m ok ρ w hx _ => ⟨ρ x, rfl, hx x (by simp [Op.operands])⟩⟩
  -- pick
  · rename_i c a b
    unfold pickA at h
    split at h
    · rename_i t ht
      have hc : ∀ (m : List (Option Nat)) (ok : Nat → Prop) (ρ : Operand → Value) (w : World), (∀ x ∈ (Op.pick c a b).operands, RepV m ok w (aev σ x) (ρ x)) → ρ c = .bool t := fun m ok ρ w hx => by
        have := hx c (by simp [Op.operands])
        rw [ht] at this
        exact this
      cases t with
      | true => exact ⟨_, h.1 rfl, fun m ok ρ w hx _ => ⟨ρ a, by simp [execOp, hc m ok ρ w hx, asBool], hx a (by simp [Op.operands])⟩⟩
      | false => exact ⟨_, h.2 rfl, fun m ok ρ w hx _ => ⟨ρ b, by simp [execOp, hc m ok ρ w hx, asBool], hx b (by simp [Op.operands])⟩⟩
    · exact h.elim
  -- extract
  · rename_i x k
    split at h
    · rename_i xs hxs
      have q_ := elO_ex h
      clear h
      obtain ⟨y, hy, h⟩ := q_
      refine ⟨_, h, fun m ok ρ w hx _ => ?_⟩
      have := hx x (by simp [Op.operands])
      rw [hxs] at this
      obtain ⟨vs, hv, hl⟩ := this
      obtain ⟨u, hu, hr⟩ := hl.get hy
      have hu' : vs[k]? = some u := by simpa using hu
      exact ⟨u, by simp [execOp, Instr.extract, hv, hu'], hr⟩
    · exact h.elim
  -- binOp
  · rename_i op t x y yt
    obtain ⟨v, hK, hv⟩ := binK_ok (x := x) (y := y) h
    refine ⟨v, hK, fun m ok ρ w hx _ => ?_⟩
    obtain ⟨u, hr, hu⟩ := hv m ok w (ρ x) (ρ y) (hx x (by simp [Op.operands])) (hx y (by simp [Op.operands]))
    exact ⟨u, run_value hr, hu⟩
  -- not
  · rename_i t x
    split at h
    · rename_i b hb
      refine ⟨_, h, fun m ok ρ w hx _ => ⟨.bool (!b), ?_, by simp [RepV]⟩⟩
      have := hx x (by simp [Op.operands])
      rw [hb] at this
      simp only [RepV] at this
      simp [execOp, Op.unary, this]
    · exact h.elim
  -- neg
  · rename_i t x
    split at h
    · rename_i k n hb
      refine ⟨_, h, fun m ok ρ w hx _ => ⟨.int k (k.wrap (0 - n)), ?_, by simp [RepV]⟩⟩
      have := hx x (by simp [Op.operands])
      rw [hb] at this
      simp only [RepV] at this
      simp [execOp, Op.unary, Op.intArith, this]
    · exact h.elim
  -- slice of a string
  · rename_i t x lo hi
    split at h
    · rename_i s hs
      have q_ := elO_ex h
      clear h
      obtain ⟨D, hD, hstr, h⟩ := q_
      obtain ⟨u, inf, hu, hi', rfl⟩ := td_some hD
      obtain rfl := strD_true hstr
      split at h
      · rename_i k a k' b ha hb
        obtain ⟨h0, h1, h2, h⟩ := h
        rw [Option.map_eq_some_iff] at ha hb
        obtain ⟨lo, rfl, ha⟩ := ha
        obtain ⟨hi, rfl, hb⟩ := hb
        refine ⟨_, h, fun m ok ρ w hx _ => ⟨_, ?_, rfl⟩⟩
        have q1 := hx x (by simp [Op.operands])
        have q2 := hx lo (by simp [Op.operands])
        have q3 := hx hi (by simp [Op.operands])
        rw [hs] at q1
        rw [ha] at q2
        rw [hb] at q3
        simp only [RepV] at q1 q2 q3
        refine run_value ?_
        have eb : (b.toNat : Int) = b := Int.toNat_of_nonneg (by omega)
        simp [Instr.sliceAt, Instr.slice, run_underlying hu, Instr.sliceBounds, Instr.sliceBound, asIntOf, q1, q2, q3, eb, h0, h1, h2, show 0 ≤ b by omega]
      · rename_i k' b ha hb
        obtain ⟨h0, h2, h⟩ := h
        rw [Option.map_eq_some_iff] at hb
        rw [Option.map_eq_none_iff] at ha
        subst ha
        obtain ⟨hi, rfl, hb⟩ := hb
        refine ⟨_, h, fun m ok ρ w hx _ => ⟨_, ?_, rfl⟩⟩
        have q1 := hx x (by simp [Op.operands])
        have q3 := hx hi (by simp [Op.operands])
        rw [hs] at q1
        rw [hb] at q3
        simp only [RepV] at q1 q3
        refine run_value ?_
        simp [Instr.sliceAt, Instr.slice, run_underlying hu, Instr.sliceBounds, Instr.sliceBound, asIntOf, q1, q3, h0, h2]
      · rename_i k a ha hb
        obtain ⟨h0, h2, h⟩ := h
        rw [Option.map_eq_some_iff] at ha
        rw [Option.map_eq_none_iff] at hb
        subst hb
        obtain ⟨lo, rfl, ha⟩ := ha
        refine ⟨_, h, fun m ok ρ w hx _ => ⟨_, ?_, rfl⟩⟩
        have q1 := hx x (by simp [Op.operands])
        have q2 := hx lo (by simp [Op.operands])
        rw [hs] at q1
        rw [ha] at q2
        simp only [RepV] at q1 q2
        refine run_value ?_
        simp [Instr.sliceAt, Instr.slice, run_underlying hu, Instr.sliceBounds, Instr.sliceBound, asIntOf, q1, q2, h0, h2]
      · exact h.elim
    · exact h.elim
  -- convert
  · rename_i s d x
    split at h
    · rename_i k n hn
      have q_ := elO_ex h
      clear h
      obtain ⟨S, hS, h⟩ := q_
      have q_ := elO_ex h
      clear h
      obtain ⟨D, hD, h⟩ := q_
      have q_ := elO_ex h
      clear h
      obtain ⟨q, hq, h⟩ := q_
      obtain ⟨u, i, hu, hi, rfl⟩ := td_some hD
      obtain ⟨u', i', hu', hi', rfl⟩ := td_some hS
      obtain rfl := ikD_some hq
      refine ⟨_, h, fun m ok ρ w hx _ => ⟨.int q (q.wrap n), ?_, by simp [RepV]⟩⟩
      have := hx x (by simp [Op.operands])
      rw [hn] at this
      simp only [RepV] at this
      simp only [execOp, this]
      refine run_value ?_
      simp [convert, run_underlying hu, run_underlying hu', Conv.intToInt]
    · exact h.elim
  -- fieldAddr
  · rename_i s x f
    have q_ := elO_ex h
    clear h
    obtain ⟨D, hD, h⟩ := q_
    have q_ := elO_ex h
    clear h
    obtain ⟨p, hp, h⟩ := q_
    have q_ := elO_ex h
    clear h
    obtain ⟨F, hF, h0, h⟩ := q_
    obtain ⟨u, i, hu, hi, rfl⟩ := td_some hD
    obtain ⟨fs, fd, rfl, hfd, ho, ht⟩ := fieldsD_some hp
    rw [← ht] at hF
    have run : ∀ (b o : Nat) (w : World), (Instr.fieldAt s (.pointer (some ⟨b, o, none⟩)) f).run P w = .ok (.pointer (some ⟨b, o + p.1, none⟩)) w := fun b o w => by
      rw [run_fieldAt hu hfd hF h0 b o w, ho]
    split at h
    · rename_i L j hx'
      refine ⟨_, h, fun m ok ρ w hx _ => ?_⟩
      have := hx x (by simp [Op.operands])
      rw [hx'] at this
      obtain ⟨b, hm, hv⟩ := this
      exact ⟨_, by simp only [execOp, hv]; exact run_value (run b j w), ⟨b, hm, rfl⟩⟩
    · rename_i L i j hx'
      refine ⟨_, h, fun m ok ρ w hx _ => ?_⟩
      have := hx x (by simp [Op.operands])
      rw [hx'] at this
      obtain ⟨b, hm, hv⟩ := this
      exact ⟨_, by simp only [execOp, hv]; exact run_value (run b _ w), ⟨b, hm, by rw [Nat.add_assoc]⟩⟩
    · rename_i xs hx'
      refine ⟨_, h, fun m ok ρ w hx _ => ?_⟩
      have := hx x (by simp [Op.operands])
      rw [hx'] at this
      obtain ⟨b, o, hv, hb, hc⟩ := this
      exact ⟨_, by simp only [execOp, hv]; exact run_value (run b o w), ⟨b, o + p.1, rfl, hb, hc.drop p.1⟩⟩
    · exact h.elim
  -- indexAddr
  · rename_i t x i
    have q_ := elO_ex h
    clear h
    obtain ⟨D, hD, h⟩ := q_
    obtain ⟨u, inf, hu, hi, rfl⟩ := td_some hD
    split at h
    · rename_i k n hn
      obtain ⟨h0, h⟩ := h
      have hidx : ∀ (m : List (Option Nat)) (ok : Nat → Prop) (ρ : Operand → Value) (w : World), (∀ y ∈ (Op.indexAddr t x i).operands, RepV m ok w (aev σ y) (ρ y)) → ρ i = .int k n := fun m ok ρ w hx => by
        have := hx i (by simp [Op.operands])
        rw [hn] at this
        exact this
      split at h
      · rename_i nn st es hx'
        have q_ := elO_ex h
        clear h
        obtain ⟨e, he, h⟩ := q_
        have q_ := elO_ex h
        clear h
        obtain ⟨E, hE, hst, h⟩ := q_
        have q_ := elO_ex h
        clear h
        obtain ⟨y, hy, h⟩ := q_
        obtain rfl := elemD_some he
        have hlt : n.toNat < es.length := (List.getElem?_eq_some_iff.1 hy).1
        refine ⟨_, h, fun m ok ρ w hx _ => ?_⟩
        have := hx x (by simp [Op.operands])
        rw [hx'] at this
        obtain ⟨A, cap, hv, _, hr⟩ := this
        obtain ⟨b, o, rfl, hb, hes⟩ := hr (by omega)
        obtain ⟨hl, hc⟩ := hes.get hy
        exact ⟨_, by simp only [execOp, hv, hidx m ok ρ w hx]; exact run_value (run_indexAt hu hE h0 hlt w), ⟨b, o + n.toNat * E.size, rfl, hb, by rw [hst]; exact hc⟩⟩
      · rename_i L st kk hx'
        have q_ := elO_ex h
        clear h
        obtain ⟨e, he, h⟩ := q_
        have q_ := elO_ex h
        clear h
        obtain ⟨E, hE, hst, hlt, h⟩ := q_
        obtain rfl := elemD_some he
        refine ⟨_, h, fun m ok ρ w hx _ => ?_⟩
        have := hx x (by simp [Op.operands])
        rw [hx'] at this
        obtain ⟨ob, hm, ho⟩ := this
        cases ob with
        | none => obtain ⟨rfl, _⟩ := ho; omega
        | some b =>
          obtain ⟨cap, ty, hv, _⟩ := ho
          exact ⟨_, by simp only [execOp, hv, hidx m ok ρ w hx]; exact run_value (run_indexAt hu hE h0 hlt w), ⟨b, hm, by rw [hst]; simp⟩⟩
      · rename_i L j hx'
        have q_ := elO_ex h
        clear h
        obtain ⟨a, ha, h⟩ := q_
        have q_ := elO_ex h
        clear h
        obtain ⟨E, hE, hlt, h⟩ := q_
        obtain rfl := arrD_some ha
        refine ⟨_, h, fun m ok ρ w hx _ => ?_⟩
        have := hx x (by simp [Op.operands])
        rw [hx'] at this
        obtain ⟨b, hm, hv⟩ := this
        exact ⟨_, by simp only [execOp, hv, hidx m ok ρ w hx]; exact run_value (run_indexAt_arr hu hE h0 hlt w), ⟨b, hm, rfl⟩⟩
      · rename_i xs hx'
        have q_ := elO_ex h
        clear h
        obtain ⟨a, ha, h⟩ := q_
        have q_ := elO_ex h
        clear h
        obtain ⟨E, hE, hlt, h⟩ := q_
        obtain rfl := arrD_some ha
        refine ⟨_, h, fun m ok ρ w hx _ => ?_⟩
        have := hx x (by simp [Op.operands])
        rw [hx'] at this
        obtain ⟨b, o, hv, hb, hc⟩ := this
        exact ⟨_, by simp only [execOp, hv, hidx m ok ρ w hx]; exact run_value (run_indexAt_arr hu hE h0 hlt w), ⟨b, _, rfl, hb, hc.drop _⟩⟩
      · exact h.elim
    · exact h.elim
  -- index
  · rename_i t x i
    split at h
    · rename_i s k n hs hn
      have q_ := elO_ex h
      clear h
      obtain ⟨D, hD, hstr, h0, h⟩ := q_
      have q_ := elO_ex h
      clear h
      obtain ⟨y, hy, h⟩ := q_
      obtain ⟨u, inf, hu, hi, rfl⟩ := td_some hD
      obtain rfl := strD_true hstr
      refine ⟨_, h, fun m ok ρ w hx _ => ⟨.int .u8 y.toNat, ?_, by simp [RepV]⟩⟩
      have h1 := hx x (by simp [Op.operands])
      have h2 := hx i (by simp [Op.operands])
      rw [hs] at h1
      rw [hn] at h2
      simp only [RepV] at h1 h2
      simp only [execOp, h1, h2]
      refine run_value ?_
      simp [Instr.index, asIntOf, run_underlying hu, h0, hy]
    · exact h.elim
  -- load
  · rename_i t p
    have q_ := elO_ex h
    clear h
    obtain ⟨D, hD, h⟩ := q_
    obtain ⟨v, hK, hv⟩ := loadA_ok hD h
    refine ⟨v, hK, fun m ok ρ w hx ho => ?_⟩
    obtain ⟨u, hr, hu⟩ := hv m ok w (ρ p) (hx p (by simp [Op.operands])) ho
    exact ⟨u, run_value hr, hu⟩
  -- makeFunc
  · rename_i f first cap
    obtain ⟨h0, h⟩ := h
    refine ⟨_, h, fun m ok ρ w hx _ => ⟨.func (.func f) #[] (cap.map ρ), ?_, ⟨_, rfl, ?_⟩⟩⟩
    · obtain rfl := Array.eq_empty_of_size_eq_zero h0
      simp [execOp, Instr.makeFunc]
    · refine RepL.of (by simp) fun i a b h1 h2 => ?_
      simp only [List.getElem?_map, Array.toList_map, Option.map_eq_some_iff] at h1 h2
      obtain ⟨q, h1, rfl⟩ := h1
      obtain ⟨q', h2, rfl⟩ := h2
      rw [h1] at h2; cases h2
      exact hx q (by simp [Op.operands]; exact Or.inr (by simpa using List.mem_of_getElem? h1))
  -- build
  · rename_i t parts
    have q_ := elO_ex h
    clear h
    obtain ⟨D, hD, h⟩ := q_
    have q_ := elO_ex h
    clear h
    obtain ⟨z, hz, hz1, h⟩ := q_
    exact build_ok hD hz hz1 h
  -- len
  · rename_i args ats
    split at h
    · rename_i x t hargs hats
      have q_ := elO_ex h
      clear h
      obtain ⟨D, hD, hk, h⟩ := q_
      have q_ := elO_ex h
      clear h
      obtain ⟨n, hn, h⟩ := q_
      refine ⟨_, h, fun m ok ρ w hx _ => ⟨.int .i64 n, ?_, by simp [RepV]⟩⟩
      obtain rfl : args = #[x] := by cases args; simpa using hargs
      obtain rfl : ats = #[t] := by cases ats; simpa using hats
      have := lenA_ok hD hn hk (hx x (by simp [Op.operands, Call.operands])) type
      simp only [execOp, resolve, Sem.run_bind]
      simp [invoke, builtin, this]
    · exact h.elim
  · exact h.elim
end

-- part 6
section
open RowKit
def killT (h : Heap) (ks : List Nat) (t : List (Nat × AV)) : List (Nat × AV) :=
  match ks with
  | [] => t
  | k :: r => t.map fun p => (p.1, killV h (k :: r) p.2)

theorem killT_look {m m' : List (Option Nat)} {ok ok' : Nat → Prop} {w w' : World} {h : Heap} {ks : List Nat} (g : Grow h ks m ok w m' ok' w') : ∀ (t : List (Nat × AV)) (i : Nat) {v : Value}, RepV m ok w (slot t i) v → RepV m' ok' w' (slot (killT h ks t) i) v := by
  cases ks with
  | nil => exact fun t i v hv => RepV.mono g _ hv
  | cons k r =>
    intro t
    induction t with
    | nil => intro i v hv; trivial
    | cons p t ih =>
      intro i v hv
      obtain ⟨j, x⟩ := p
      simp only [killT, List.map_cons, slot] at hv ⊢
      split
      · rename_i e
        rw [if_pos e] at hv
        exact RepV.kill g _ hv
      · rename_i e
        rw [if_neg e] at hv
        exact ih i hv

section
variable {w0 : World} {ok0 : Nat → Prop} {m : List (Option Nat)} {ok : Nat → Prop} {h : Heap} {w : World}

theorem HRel.mlt (r : HRel w0 ok0 m ok h w) {L : Nat} {b : Option Nat} (hb : m[L]? = some b) : L < h.length := by
  rw [← r.len]
  exact (List.getElem?_eq_some_iff.1 hb).1

/-- A world that differs in no old block. -/
theorem HRel.grown (r : HRel w0 ok0 m ok h w) {w' : World} (hw : Below w.heap.size w w') {ok' : Nat → Prop} (ho : ∀ b, ok b → ok' b) (hn : ∀ b, ok' b → ok b ∨ (w.heap.size ≤ b ∧ b < w'.heap.size)) :
    Grow [] [] m ok w m ok' w' ∧ HRel w0 ok0 m ok' h w' := by
  have hz : w0.heap.size ≤ w.heap.size := r.bel.size
  have g : Grow [] [] m ok w m ok' w' := ⟨fun _ _ _ h => h, ho, fun b hb => hw.block b (r.okb b hb), fun L b s _ hm hs => by
    unfold World.shape? at *
    rw [hw.block b (r.new L b hm).2]
    exact hs, fun _ _ _ _ _ _ h => by cases h⟩
  refine ⟨g, r.len, fun L blk hL => OwnB.mono g (fun b hb => hw.block b (r.new L b hb).2) (r.own L blk hL), r.inj, fun L b blk hL hm hk => ?_, fun L b hm => ⟨(r.new L b hm).1, Nat.lt_of_lt_of_le (r.new L b hm).2 hw.size⟩, fun b hb => ?_, fun b hb => ?_, r.bel.trans (hw.mono hz)⟩
  · rcases hn b hk with h1 | h1
    · exact r.nok L b blk hL hm h1
    · have := (r.new L b hm).2; omega
  · rcases hn b hb with h1 | h1
    · exact Nat.lt_of_lt_of_le (r.okb b h1) hw.size
    · exact h1.2
  · rcases hn b hb with h1 | h1
    · exact r.oko b h1
    · exact Or.inr (by omega)

theorem Grow.heap {h h' : Heap} {m m' : List (Option Nat)} {ok ok' : Nat → Prop} {w w' : World} (g : Grow h [] m ok w m' ok' w') : Grow h' [] m ok w m' ok' w' := ⟨g.mm, g.mo, g.cells, g.shape, fun _ _ _ _ _ _ h => by cases h⟩

theorem grow_new (r : HRel w0 ok0 m ok h w) {w' : World} (hw : Below w.heap.size w w') (ob : Option Nat) : Grow [] [] m ok w (m ++ [ob]) ok w' :=
  ⟨fun L b _ hm => by rw [List.getElem?_append_left (List.getElem?_eq_some_iff.1 hm).1]; exact hm, fun _ h => h, fun b hb => hw.block b (r.okb b hb), fun L b s _ hm hs => by
    unfold World.shape? at *
    rw [hw.block b (r.new L b hm).2]
    exact hs, fun _ _ _ _ _ _ h => by cases h⟩

/-- A new block, or a nil slice that may get one. -/
theorem HRel.fresh (r : HRel w0 ok0 m ok h w) {w' : World} (hw : Below w.heap.size w w') (ob : Option Nat) (hob : ∀ b, ob = some b → w.heap.size ≤ b ∧ b < w'.heap.size) {blk : Blk} (hb : OwnB (m ++ [ob]) ok w' h.length blk) :
    HRel w0 ok0 (m ++ [ob]) ok (h ++ [some blk]) w' := by
  have hz : w0.heap.size ≤ w.heap.size := r.bel.size
  have g := grow_new r hw ob
  have old : ∀ (L b : Nat), (m ++ [ob])[L]? = some (some b) → (m[L]? = some (some b)) ∨ (L = h.length ∧ ob = some b) := fun L b hm => by
    rw [List.getElem?_append] at hm
    split at hm
    · exact Or.inl hm
    · rename_i hlt
      have : L - m.length = 0 := by
        rcases Nat.eq_zero_or_pos (L - m.length) with h0 | h0
        · exact h0
        · rw [List.getElem?_eq_none (by simp; omega)] at hm; cases hm
      rw [this] at hm
      simp at hm
      exact Or.inr ⟨by rw [← r.len]; omega, hm⟩
  refine ⟨by simp [r.len], fun L blk' hL => ?_, fun L L' b h1 h2 => ?_, fun L b blk' hL hm hk => ?_, fun L b hm => ?_, fun b hb => Nat.lt_of_lt_of_le (r.okb b hb) hw.size, r.oko, r.bel.trans (hw.mono hz)⟩
  · rw [List.getElem?_append] at hL
    split at hL
    · exact OwnB.mono g (fun b hb => hw.block b (r.new L b hb).2) (r.own L blk' hL)
    · have : L = h.length := by
        rename_i hlt
        rcases Nat.eq_zero_or_pos (L - h.length) with h0 | h0
        · omega
        · rw [List.getElem?_eq_none (by simp; omega)] at hL; cases hL
      subst this
      simp at hL
      subst hL
      exact hb
  · rcases old L b h1 with h1 | ⟨rfl, e1⟩ <;> rcases old L' _ h2 with h2 | ⟨h3, h4⟩
    · exact r.inj L L' b h1 h2
    · have := hob b h4; have := (r.new L _ h1).2; omega
    · have := hob b e1; have := (r.new L' _ h2).2; omega
    · rw [h3]
  · rcases old L b hm with h1 | ⟨rfl, e1⟩
    · have hlt := r.mlt h1
      rw [List.getElem?_append_left hlt] at hL
      exact r.nok L b blk' hL h1 hk
    · have := r.okb _ hk; have := hob b e1; omega
  · rcases old L b hm with h1 | ⟨rfl, e1⟩
    · exact ⟨(r.new L b h1).1, Nat.lt_of_lt_of_le (r.new L b h1).2 hw.size⟩
    · have := hob b e1; exact ⟨by omega, this.2⟩

theorem HRel.alloc (r : HRel w0 ok0 m ok h w) (cs : Array Value) (t : TypeId) {blk : Blk} (hb : OwnB (m ++ [some w.heap.size]) ok (w.alloc (.cells cs t)) h.length blk) :
    Grow [] [] m ok w (m ++ [some w.heap.size]) ok (w.alloc (.cells cs t)) ∧ HRel w0 ok0 (m ++ [some w.heap.size]) ok (h ++ [some blk]) (w.alloc (.cells cs t)) :=
  have hw : Below w.heap.size w (w.alloc (.cells cs t)) := (Below.refl _ _).alloc (Nat.le_refl _) _
  ⟨grow_new r hw _, r.fresh hw _ (fun b e => by cases e; exact ⟨Nat.le_refl _, by simp⟩) hb⟩

/-- A block of the call's own has turned, and no other one. -/
theorem HRel.write' (r : HRel w0 ok0 m ok h w) {L b : Nat} {blk blk' : Blk} (hL : h[L]? = some (some blk)) (hm : m[L]? = some (some b)) {cs cs' : Array Value} {t : TypeId} {fz fz' : Nat × Nat} (hc : w.heap[b]? = some (.cells cs t fz)) (hs : cs'.size = cs.size)
    {w1 : World} (other : ∀ k, k ≠ b → w1.heap[k]? = w.heap[k]?) (here : w1.heap[b]? = some (.cells cs' t fz')) (hsize : w1.heap.size = w.heap.size) (hos : w1.os = w.os) (htape : w1.tape = w.tape) (hout : w1.output = w.output)
    (hb : ∀ w', Grow [] [] m ok w m ok w' → w'.heap[b]? = some (.cells cs' t fz') → OwnB m ok w' L blk') :
    Grow [] [] m ok w m ok w1 ∧ HRel w0 ok0 m ok (h.set L (some blk')) w1 := by
  have hnb := r.new L b hm
  have hok : ∀ k, ok k → k ≠ b := fun k hk e => r.nok L b blk hL hm (e ▸ hk)
  have g : Grow [] [] m ok w m ok w1 := ⟨fun _ _ _ h => h, fun _ h => h, fun k hk => other k (hok k hk), fun L' k s _ _ h1 => by
    unfold World.shape? at *
    by_cases e : k = b
    · subst e
      rw [here]
      rw [hc] at h1
      simp only at h1 ⊢
      rw [← h1, hs]
    · rw [other k e]; exact h1, fun _ _ _ _ _ _ h => by cases h⟩
  have hbel : Below w0.heap.size w w1 := ⟨hos, htape, hout, by rw [hsize]; exact Nat.le_refl _, fun k hk => other k (by omega)⟩
  refine ⟨g, by simp [r.len], fun L' blk2 hL' => ?_, r.inj, fun L' k blk2 hL' hm' hk => ?_, fun L' k hm' => by rw [hsize]; exact r.new L' k hm', fun k hk => by rw [hsize]; exact r.okb k hk, r.oko, r.bel.trans hbel⟩
  · rw [List.getElem?_set] at hL'
    split at hL'
    · rename_i e
      subst e
      split at hL'
      · cases hL'; exact hb _ g here
      · cases hL'
    · rename_i hne
      exact OwnB.mono g (fun k hk => other k (fun e => hne (r.inj L L' b hm (e ▸ hk)))) (r.own L' blk2 hL')
  · rw [List.getElem?_set] at hL'
    split at hL'
    · rename_i e
      subst e
      rw [hm] at hm'; cases hm'
      exact r.nok L b blk hL hm hk
    · exact r.nok L' k blk2 hL' hm' hk

/-- A write to a block of the call's own. -/
theorem HRel.write (r : HRel w0 ok0 m ok h w) {L b : Nat} {blk blk' : Blk} (hL : h[L]? = some (some blk)) (hm : m[L]? = some (some b)) {cs cs' : Array Value} {t : TypeId} {fz : Nat × Nat} (hc : w.heap[b]? = some (.cells cs t fz)) (hs : cs'.size = cs.size)
    (hb : ∀ w', Grow [] [] m ok w m ok w' → w'.heap[b]? = some (.cells cs' t fz) → OwnB m ok w' L blk') :
    Grow [] [] m ok w m ok (w.setRow b cs') ∧ HRel w0 ok0 m ok (h.set L (some blk')) (w.setRow b cs') :=
  r.write' hL hm hc hs (fun k hk => setRow_other w b k _ hk) (setRow_heap w b cs cs' t fz hc) (by simp [World.setRow]) rfl rfl rfl hb
end

def OpOk (P : Program) (σ : AS) (o : Oper) (v : AV) (ks : List Nat) (h' : Heap) : Prop :=
  ∀ w0 ok0 m ok ρ w, (∀ x ∈ o.op.operands, RepV m ok w (aev σ x) (ρ x)) → HRel w0 ok0 m ok σ.h w →
    ExecOk P ρ o w (fun u w' => ∃ m' ok', Grow σ.h ks m ok w m' ok' w' ∧ HRel w0 ok0 m' ok' h' w' ∧ RepV m' ok' w' v u)
where
  ExecOk (P : Program) (ρ : Operand → Value) (o : Oper) (w : World) (Post : Value → World → Prop) : Prop :=
    match (execOp ρ o).run P w with
    | .ok (.value u) w' => Post u w'
    | .ok .skip w' => Post undef w'
    | .ok (.enter f args) w' => Calls P f args w' (fun e w'' => ∃ v, e = .returned v ∧ Post v w'')
    | _ => False

theorem OpOkP.full {P : Program} {σ : AS} {o : Oper} {v : AV} (h : OpOkP P σ o v) : OpOk P σ o v [] σ.h := by
  intro w0 ok0 m ok ρ w hx hr
  obtain ⟨u, hu, hv⟩ := h m ok ρ w hx hr.own
  unfold OpOk.ExecOk
  rw [hu]
  exact ⟨m, ok, Grow.refl _ _ _ _, hr, hv⟩

theorem mget_new {m : List (Option Nat)} {b : Option Nat} {n : Nat} (h : m.length = n) : (m ++ [b])[n]? = some b := by
  subst h; simp

theorem boxed_ok {t : TypeId} {w0 : World} {ok0 : Nat → Prop} {m : List (Option Nat)} {ok : Nat → Prop} {h : Heap} {w : World} (r : HRel w0 ok0 m ok h w) {xs : List AV} {v : Value} (hx : RepL m ok w xs v.cells.toList) (h1 : ∀ u ∈ v.cells.toList, u.oneCell' = true) :
    ∃ m' ok', Grow [] [] m ok w m' ok' (w.alloc (.cells v.cells t)) ∧ HRel w0 ok0 m' ok' (h ++ [some (.var t xs)]) (w.alloc (.cells v.cells t)) ∧ RepV m' ok' (w.alloc (.cells v.cells t)) (.ptr h.length 0) (.pointer (some ⟨w.heap.size, 0, none⟩)) := by
  have key : OwnB (m ++ [some w.heap.size]) ok (w.alloc (.cells v.cells t)) h.length (.var t xs) := by
    refine ⟨w.heap.size, v.cells, mget_new r.len, heap_alloc_new w _, ?_, h1⟩
    exact RepL.mono (grow_new r ((Below.refl _ _).alloc (Nat.le_refl _) _) _) xs hx
  obtain ⟨g, r'⟩ := r.alloc v.cells t key
  exact ⟨_, ok, g, r', ⟨w.heap.size, mget_new r.len, rfl⟩⟩

theorem setAll_eq : ∀ (xs cs : List AV) (i : Nat), i + xs.length ≤ cs.length → setAll cs i xs = cs.take i ++ xs ++ cs.drop (i + xs.length)
  | [], cs, i, _ => by simp [setAll]
  | x :: xs, cs, i, h => by
    have hi : i < cs.length := by simp at h; omega
    rw [setAll, setAll_eq xs _ _ (by simp at h ⊢; omega)]
    apply List.ext_getElem?
    intro k
    simp only [List.getElem?_append, List.length_append, List.length_take, List.length_set, List.length_cons, List.getElem?_take, List.getElem?_drop, List.getElem?_set, List.getElem?_cons]
    grind
end

-- part 7
section
open RowKit
/-- The cells of some elements, one behind the other. -/
def IdxR (ok : Nat → Prop) (w : World) (st : Nat) (es : List (List AV)) (l : List Value) : Prop :=
  l.length = es.length * st ∧ (∀ u ∈ l, u.oneCell' = true) ∧ ∀ (i : Nat) e, es[i]? = some e → e.length = st ∧ ∀ (j : Nat) y, e[j]? = some y → ∃ u, l[i * st + j]? = some u ∧ RepD ok w y u

theorem IdxR.nil (ok : Nat → Prop) (w : World) (st : Nat) : IdxR ok w st [] [] := ⟨by simp, by simp, by simp⟩

theorem idx_lt {i j n st : Nat} (hi : i < n) (hj : j < st) : i * st + j < n * st := by
  have : (i + 1) * st ≤ n * st := Nat.mul_le_mul_right _ hi
  rw [Nat.add_mul, Nat.one_mul] at this
  omega

theorem IdxR.append {ok : Nat → Prop} {w : World} {st : Nat} {es es' : List (List AV)} {l l' : List Value} (h : IdxR ok w st es l) (k : IdxR ok w st es' l') : IdxR ok w st (es ++ es') (l ++ l') := by
  refine ⟨by rw [List.length_append, h.1, k.1, List.length_append, Nat.add_mul], fun u hu => (List.mem_append.1 hu).elim (h.2.1 u) (k.2.1 u), fun i e he => ?_⟩
  rw [List.getElem?_append] at he
  split at he
  · rename_i hlt
    obtain ⟨h1, h2⟩ := h.2.2 i e he
    refine ⟨h1, fun j y hy => ?_⟩
    obtain ⟨u, hu, hr⟩ := h2 j y hy
    exact ⟨u, by rw [List.getElem?_append_left (List.getElem?_eq_some_iff.1 hu).1]; exact hu, hr⟩
  · rename_i hlt
    obtain ⟨h1, h2⟩ := k.2.2 _ e he
    refine ⟨h1, fun j y hy => ?_⟩
    obtain ⟨u, hu, hr⟩ := h2 j y hy
    refine ⟨u, ?_, hr⟩
    have e1 : i * st = es.length * st + (i - es.length) * st := by rw [← Nat.add_mul]; congr 1; omega
    rw [List.getElem?_append_right (by rw [h.1]; omega), h.1]
    rw [show i * st + j - es.length * st = (i - es.length) * st + j by omega]
    exact hu

theorem IdxR.mono {ok ok' : Nat → Prop} {w w' : World} {st : Nat} {es : List (List AV)} {l : List Value} (h : IdxR ok w st es l) (g : ∀ b, ok b → ok' b) (c : ∀ b, ok b → w'.heap[b]? = w.heap[b]?) : IdxR ok' w' st es l :=
  ⟨h.1, h.2.1, fun i e he => ⟨(h.2.2 i e he).1, fun j y hy => by
    obtain ⟨u, hu, hr⟩ := (h.2.2 i e he).2 j y hy
    exact ⟨u, hu, RepD.mono g c y hr⟩⟩⟩

theorem RepDL.get {ok : Nat → Prop} {w : World} {xs : List AV} {l : List Value} {i : Nat} {x : AV} (h : RepDL ok w xs l) (hx : xs[i]? = some x) : ∃ u, l[i]? = some u ∧ RepD ok w x u := by
  induction xs generalizing l i with
  | nil => simp at hx
  | cons y ys ih =>
    obtain ⟨u, us, rfl, h1, h2⟩ := h
    cases i with
    | zero => simp at hx; subst hx; exact ⟨u, rfl, h1⟩
    | succ i => simpa using ih h2 (by simpa using hx)
theorem RepDL.length {ok : Nat → Prop} {w : World} : ∀ {xs : List AV} {l : List Value}, RepDL ok w xs l → l.length = xs.length
  | [], _, h => by cases h; rfl
  | y :: ys, _, ⟨u, us, h, hx, hr⟩ => by subst h; simp [RepDL.length hr]

theorem RepEs.idx {ok : Nat → Prop} {w : World} {st b : Nat} : ∀ {es : List (List AV)} {o : Nat}, RepEs ok w st b o es → ∃ l, IdxR ok w st es l ∧ ∀ (j : Nat) u, l[j]? = some u → w.cell? ⟨b, o + j, none⟩ = some u
  | [], _, _ => ⟨[], IdxR.nil _ _ _, by simp⟩
  | e :: es, o, ⟨hl, hc, hr⟩ => by
    obtain ⟨vs, a1, a2, a3⟩ := hc.vals
    obtain ⟨l, b1, b2⟩ := RepEs.idx hr
    have hvl : vs.length = st := by rw [a1.length, hl]
    refine ⟨vs ++ l, IdxR.append (es := [e]) ⟨by simp [hvl], a3, fun i e' he => ?_⟩ b1, fun j u hj => ?_⟩
    · cases i with
      | zero =>
        simp at he; subst he
        exact ⟨hl, fun j y hy => by simpa using a1.get hy⟩
      | succ i => simp at he
    · rw [List.getElem?_append] at hj
      split at hj
      · exact a2 j u hj
      · have := b2 _ u hj
        rwa [show o + st + (j - vs.length) = o + j by omega] at this

theorem RepEs.of_idx {ok : Nat → Prop} {w : World} {st b : Nat} : ∀ (es : List (List AV)) (o : Nat) (l : List Value), IdxR ok w st es l → (∀ (j : Nat) u, l[j]? = some u → w.cell? ⟨b, o + j, none⟩ = some u) → RepEs ok w st b o es
  | [], _, _, _, _ => trivial
  | e :: es, o, l, h, hc => by
    have h0 := h.2.2 0 e rfl
    refine ⟨h0.1, ?_, RepEs.of_idx es (o + st) (l.drop st) ⟨by rw [List.length_drop, h.1, List.length_cons, Nat.add_mul, Nat.one_mul, Nat.add_sub_cancel], fun u hu => h.2.1 u (List.mem_of_mem_drop hu), fun i e' he => ?_⟩ fun j u hj => ?_⟩
    · have key : ∀ (xs : List AV) (k : Nat), (∀ (j : Nat) y, xs[j]? = some y → ∃ u, l[k + j]? = some u ∧ RepD ok w y u) → RepCs ok w b (o + k) xs := by
        intro xs
        induction xs with
        | nil => intro k _; trivial
        | cons x xs ih =>
          intro k hk
          obtain ⟨u, hu, hr⟩ := hk 0 x rfl
          refine ⟨⟨u, hc _ _ hu, h.2.1 u (List.mem_of_getElem? hu), hr⟩, ?_⟩
          rw [Nat.add_assoc]
          exact ih (k + 1) fun j y hy => by
            obtain ⟨u, hu, hr⟩ := hk (j + 1) y (by simpa using hy)
            exact ⟨u, by rwa [Nat.add_assoc, Nat.add_comm 1 j], hr⟩
      have := key e 0 (by simpa using h0.2)
      simpa using this
    · obtain ⟨h1, h2⟩ := h.2.2 (i + 1) e' (by simpa using he)
      refine ⟨h1, fun j y hy => ?_⟩
      obtain ⟨u, hu, hr⟩ := h2 j y hy
      refine ⟨u, ?_, hr⟩
      rw [List.getElem?_drop]
      rwa [show st + (i * st + j) = (i + 1) * st + j by rw [Nat.add_mul, Nat.one_mul]; omega]
    · rw [List.getElem?_drop] at hj
      have := hc _ u hj
      rwa [show o + st + j = o + (st + j) by omega]

/-- A row of the call's own, as far as a slice of it goes. -/
theorem OwnB.idx {m : List (Option Nat)} {ok : Nat → Prop} {w : World} {L b : Nat} {e : TypeId} {st : Nat} {es : List (List AV)} (h : OwnB m ok w L (.row e st es)) (hm : m[L]? = some (some b)) {n : Nat} (hn : n ≤ es.length) :
    ∃ cs, CellsT w b cs e ∧ IdxR ok w st (es.take n) (cs.toList.take (n * st)) := by
  obtain ⟨ob, hm', h⟩ := h
  rw [hm] at hm'; cases hm'
  obtain ⟨cs, hb, hl, hr⟩ := h
  have hnl : n * st ≤ es.length * st := Nat.mul_le_mul_right _ hn
  refine ⟨cs, hb, by rw [List.length_take, List.length_take, Array.length_toList, Nat.min_eq_left hn, Nat.min_eq_left (by omega)], fun u hu => ?_, fun i x hx => ?_⟩
  · obtain ⟨k, hk, rfl⟩ := List.getElem_of_mem hu
    have hk2 : k < n * st := by simp at hk; omega
    have hst : 0 < st := by rcases Nat.eq_zero_or_pos st with h0 | h0; (· subst h0; simp at hk2); exact h0
    have hi : k / st < es.length := by
      rw [Nat.div_lt_iff_lt_mul hst]; omega
    obtain ⟨a1, a2⟩ := hr (k / st) es[k / st] (by simp [hi])
    have hlt : k % st < es[k / st].length := by rw [a1]; exact Nat.mod_lt _ hst
    obtain ⟨u, b1, b2, _⟩ := a2 (k % st) (es[k / st][k % st]'hlt) (List.getElem?_eq_getElem hlt)
    have e1 : k / st * st + k % st = k := by rw [Nat.mul_comm]; exact Nat.div_add_mod k st
    rw [e1] at b1
    have : cs[k] = u := (Array.getElem?_eq_some_iff.1 b1).2
    simp [this, b2]
  · rw [List.getElem?_take] at hx
    split at hx
    · rename_i hlt
      obtain ⟨a1, a2⟩ := hr i x hx
      refine ⟨a1, fun j y hy => ?_⟩
      obtain ⟨u, b1, _, b3⟩ := a2 j y hy
      have hj : j < st := by rw [← a1]; exact (List.getElem?_eq_some_iff.1 hy).1
      have := idx_lt hlt hj
      exact ⟨u, by rw [List.getElem?_take, if_pos this]; simpa using b1, b3⟩
    · cases hx

theorem OwnB.of_idx {m : List (Option Nat)} {ok : Nat → Prop} {w : World} {L b : Nat} {e : TypeId} {st : Nat} {es : List (List AV)} {cs : Array Value} (hm : m[L]? = some (some b)) (hb : CellsT w b cs e) (h : IdxR ok w st es (cs.toList.take (es.length * st))) : OwnB m ok w L (.row e st es) := by
  refine ⟨some b, hm, cs, hb, ?_, fun i x hx => ⟨(h.2.2 i x hx).1, fun j y hy => ?_⟩⟩
  · have := h.1
    rw [List.length_take, Array.length_toList (xs := cs)] at this
    omega
  · obtain ⟨u, hu, hr⟩ := (h.2.2 i x hx).2 j y hy
    have h1 := h.2.1 u (List.mem_of_getElem? hu)
    rw [List.getElem?_take] at hu
    split at hu
    · exact ⟨u, by simpa using hu, h1, hr⟩
    · cases hu

theorem RepD.elems {ok : Nat → Prop} {w : World} {nn : Bool} {st : Nat} {es : List (List AV)} {v : Value} (h : RepD ok w (.sl nn st es) v) : ∃ A cap l, v = .slice A es.length cap ∧ IdxR ok w st es l ∧ (∀ a, A = some a → ∀ (j : Nat) u, l[j]? = some u → w.cell? (a.add j) = some u) ∧ (A = none → es = []) := by
  obtain ⟨A, cap, rfl, _, h⟩ := h
  rcases Nat.eq_zero_or_pos es.length with h0 | h0
  · obtain rfl := List.eq_nil_of_length_eq_zero h0
    exact ⟨A, cap, [], rfl, IdxR.nil _ _ _, fun a _ j u hj => by simp at hj, fun _ => rfl⟩
  · obtain ⟨b, o, rfl, hb, he⟩ := h h0
    obtain ⟨l, h1, h2⟩ := he.idx
    exact ⟨_, cap, l, rfl, h1, fun a ha j u hj => by cases ha; rw [add_plain]; exact h2 j u hj, fun h => by cases h⟩

/-- What a slice holds, wherever it lies. -/
theorem elems_ok {m : List (Option Nat)} {ok : Nat → Prop} {h : Heap} {w : World} (ho : HOwn m ok h w) {x : AV} {st : Nat} {es : List (List AV)} (he : elemsA h x = some (st, es)) {v : Value} (hr : RepV m ok w x v) :
    ∃ A cap l, v = .slice A es.length cap ∧ IdxR ok w st es l ∧ (∀ a, A = some a → ∀ (j : Nat) u, l[j]? = some u → w.cell? (a.add j) = some u) ∧ (A = none → es = []) := by
  unfold elemsA at he
  split at he
  · cases he
    exact RepD.elems hr
  · rename_i L st' n
    split at he
    · rename_i ty st2 es2 hL
      split at he
      · rename_i hc
        obtain ⟨rfl, hn⟩ := hc
        cases he
        obtain ⟨ob, hm, hv⟩ := hr
        cases ob with
        | none =>
          obtain ⟨rfl, rfl⟩ := hv
          rw [List.take_zero]
          exact ⟨none, 0, [], rfl, IdxR.nil _ _ _, fun a ha => (by cases ha), fun _ => rfl⟩
        | some b =>
          obtain ⟨cap, t, rfl, hnc, hcm, hs⟩ := hv
          obtain ⟨cs, hb, hi⟩ := (ho L _ hL).idx hm hn
          refine ⟨_, cap, _, by rw [List.length_take, Nat.min_eq_left hn], hi, fun a ha j u hj => ?_, fun h => by cases h⟩
          cases ha
          rw [add_plain, hb.cell]
          rw [List.getElem?_take] at hj
          split at hj
          · simpa using hj
          · cases hj
      · cases he
    · cases he
  · cases he

theorem run_app_nil {P : Program} {t ty e : TypeId} {i : TypeInfo} (ht : P.underlying t = some (.slice e)) (hi : P.info? e = some i) (w : World) (v : Value) (n cap c : Nat) (A : Option Addr) (hv : v = .slice A n cap) (hn : n ≤ cap) :
    (Builtin.append_ #[t, t] ty #[v, .slice none 0 c]).run P w = .ok v w := by
  subst hv
  cases A with
  | none => simp [Builtin.append_, run_underlying ht, sizeOf, typeInfo, hi, Builtin.lenOf, Builtin.firstCells, hn]
  | some a => simp [Builtin.append_, run_underlying ht, sizeOf, typeInfo, hi, Builtin.lenOf, Builtin.firstCells, hn, storeCells]

theorem frozen_tail {w : World} {g o : Nat} {cur : Array Value} {t : TypeId} {fz : Nat × Nat} (hg : w.heap[g]? = some (.cells cur t fz)) (hfz : tailOk' fz cur.size) (ho : o < cur.size) : w.frozen? ⟨g, o, none⟩ = false := by
  obtain ⟨lo, hi⟩ := fz
  simp only [World.frozen?, hg, Bool.and_eq_false_iff, decide_eq_false_iff_not]
  rcases hfz with h | h
  · cases h
    right
    omega
  · left
    simp only at h
    omega

theorem run_storeCells_atT (P : Program) (g o : Nat) (t : TypeId) (fz : Nat × Nat) : ∀ (vs : List Value) (i : Nat) (cur : Array Value) (w : World), w.heap[g]? = some (.cells cur t fz) → tailOk' fz cur.size → o + i + vs.length ≤ cur.size → (∀ v ∈ vs, v.oneCell' = true) →
    (storeCells ⟨g, o, none⟩ vs i).run P w = .ok () (w.setRow g (cur.toList.take (o + i) ++ vs ++ cur.toList.drop (o + i + vs.length)).toArray)
  | [], i, cur, w, hg, _, _, _ => by
    simp only [storeCells, List.append_nil, List.length_nil, Nat.add_zero, List.take_append_drop, Array.toArray_toList]
    rw [setRow_self w g cur t fz hg]
    rfl
  | v :: rest, i, cur, w, hg, hfz, hl, h1 => by
    have hi : o + i < cur.size := by simp at hl; omega
    have hadd : (⟨g, o, none⟩ : Addr).add i = ⟨g, o + i, none⟩ := by unfold Addr.add; split <;> simp_all
    have hcell : w.cell? ⟨g, o + i, none⟩ = some cur[o + i] := by simp [World.cell?, hg, hi]
    have hfro : w.frozen? ⟨g, o + i, none⟩ = false := frozen_tail hg hfz hi
    have hst : (store ((⟨g, o, none⟩ : Addr).add i) v).run P w = .ok () (w.setRow g (cur.setIfInBounds (o + i) v)) := by
      rw [hadd, run_store P w _ v _ (h1 v (by simp)), hcell]
      simp [hfro, setCell_eq_setRow w g (o + i) cur t fz v hg]
    have ih := run_storeCells_atT P g o t fz rest (i + 1) (cur.setIfInBounds (o + i) v) (w.setRow g (cur.setIfInBounds (o + i) v)) (setRow_heap w g cur _ t _ hg) (by simpa using hfz) (by simp at hl ⊢; omega) (fun x hx => h1 x (by simp [hx]))
    simp only [storeCells, Sem.run_bind, hst, Result.andThen_ok, ih, setRow_setRow]
    congr 3
    have e := list_seg_step cur.toList (o + i) v rest (by simp at hl ⊢; omega)
    simpa [Array.toList_setIfInBounds, Nat.add_assoc] using e

/-- What the conversion does: the block is marked at its end. -/
theorem freeze_tail {w : World} {g : Nat} {cur : Array Value} {t : TypeId} {fz : Nat × Nat} (hg : w.heap[g]? = some (.cells cur t fz)) (hfz : tailOk' fz cur.size) :
    ∃ fz', (w.freeze ⟨g, cur.size, none⟩ 1).heap[g]? = some (.cells cur t fz') ∧ (fz' = (0, 0) ∨ cur.size ≤ fz'.1) ∧ (∀ k, k ≠ g → (w.freeze ⟨g, cur.size, none⟩ 1).heap[k]? = w.heap[k]?) ∧ (w.freeze ⟨g, cur.size, none⟩ 1).heap.size = w.heap.size := by
  obtain ⟨lo, hi⟩ := fz
  refine ⟨if lo == hi then (cur.size, cur.size + 1) else (min lo cur.size, max hi (cur.size + 1)), ?_, ?_, fun k hk => ?_, ?_⟩
  · simp [World.freeze, Array.getElem?_modify, hg]
  · right
    split
    · exact Nat.le_refl _
    · rename_i hne
      rcases hfz with h | h
      · cases h; simp at hne
      · simp only at h ⊢
        omega
  · simp [World.freeze, Array.getElem?_modify, Ne.symm hk]
  · simp [World.freeze]

theorem run_conv_mark {P : Program} {s e : TypeId} (hs : P.underlying s = some (.slice e)) (he : P.underlying e = some (.int .u8)) {w : World} {g len cap : Nat} {cur : Array Value} {t : TypeId} {fz : Nat × Nat} (hg : w.heap[g]? = some (.cells cur t fz)) :
    (convert s s (.slice (some ⟨g, 0, none⟩) len cap)).run P w = .ok (.slice (some ⟨g, 0, none⟩) len cap) (w.freeze ⟨g, cur.size, none⟩ 1) := by
  have hsh : w.shape? g = some (t, cur.size) := by simp [World.shape?, hg]
  have hsr : (shape g).run P w = .ok (some (t, cur.size)) w := by
    unfold shape
    rw [Sem.run, hsh]
    exact Sem.run_pure ..
  have hfr : (freeze ⟨g, cur.size, none⟩ 1).run P w = .ok () (w.freeze ⟨g, cur.size, none⟩ 1) := by
    unfold freeze
    rw [Sem.run]
    exact Sem.run_pure ..
  simp [convert, run_underlying hs, run_underlying he, markStringish, hsr, hfr]

theorem run_append_room_stringT {P : Program} (w : World) {t u ty e : TypeId} {i : TypeInfo} (ht : P.underlying t = some (.slice e)) (hu : P.underlying u = some .string) (hi : P.info? e = some i) (hs1 : i.size = 1)
    (g sLen sCap : Nat) (cur : Array Value) (fz : Nat × Nat) (hg : w.heap[g]? = some (.cells cur e fz)) (hfz : tailOk' fz cur.size) (s : ByteArray)
    (hroom : sLen + s.size ≤ sCap) (hfit : sLen + s.size ≤ cur.size) :
    (Builtin.append_ #[t, u] ty #[.slice (some ⟨g, 0, none⟩) sLen sCap, .string s]).run P w =
      .ok (.slice (some ⟨g, 0, none⟩) (sLen + s.size) sCap) (w.setRow g (cur.toList.take sLen ++ Lib.strCells s ++ cur.toList.drop (sLen + s.size)).toArray) := by
  have hf := Lib.run_firstCells_string (P := P) w 1 s
  have hst := run_storeCells_atT P g sLen e fz (Lib.strCells s) 0 cur w hg hfz (by simpa [Lib.strCells_length] using hfit) (Lib.strCells_oneCell s)
  simp only [Nat.add_zero, Lib.strCells_length] at hst
  simp [Builtin.append_, run_underlying ht, run_underlying hu, sizeOf, typeInfo, hi, hs1, Builtin.lenOf, hroom, hf, Addr.add_lit, hst]


theorem run_append_roomT {P : Program} (w : World) (t ty e : TypeId) (i : TypeInfo) (ht : P.underlying t = some (.slice e)) (hi : P.info? e = some i)
    (g sLen sCap : Nat) (cur : Array Value) (fz : Nat × Nat) (hg : w.heap[g]? = some (.cells cur e fz)) (hfz : tailOk' fz cur.size) (a : Addr) (n c : Nat) (news : List Value) (hlen : news.length = n * i.size) (hnews : ∀ j v, news[j]? = some v → w.cell? (a.add j) = some v) (h1 : ∀ v ∈ news, v.oneCell' = true)
    (hroom : sLen + n ≤ sCap) (hfit : sLen * i.size + news.length ≤ cur.size) :
    (Builtin.append_ #[t, t] ty #[.slice (some ⟨g, 0, none⟩) sLen sCap, .slice (some a) n c]).run P w = .ok (.slice (some ⟨g, 0, none⟩) (sLen + n) sCap) (w.setRow g (cur.toList.take (sLen * i.size) ++ news ++ cur.toList.drop (sLen * i.size + news.length)).toArray) := by
  have hf := run_firstCells_some (P := P) w i.size n a n c news hlen hnews
  have hst := run_storeCells_atT P g (sLen * i.size) e fz news 0 cur w hg hfz (by simpa using hfit) h1
  simp only [Nat.add_zero] at hst
  simp [Builtin.append_, run_underlying ht, sizeOf, typeInfo, hi, Builtin.lenOf, hroom, hf, Addr.add_lit, hst]

/-- A slice that is nil or a row of the call's own, whose block may be marked behind its cells. -/
def OwnsT (w : World) (base : Nat) (t : TypeId) (size : Nat) (v : Value) (n : Nat) (xs : List Value) : Prop :=
  xs.length = n * size ∧ (v = .slice none 0 0 ∧ n = 0 ∨ ∃ g cap cur, v = .slice (some ⟨g, 0, none⟩) n cap ∧ base ≤ g ∧ CellsT w g cur t ∧ n ≤ cap ∧ cap ≤ maxLen ∧ cur.size = cap * size ∧ cur.toList.take (n * size) = xs)

theorem OwnsT.nil (w : World) (base : Nat) (t : TypeId) (size : Nat) : OwnsT w base t size (.slice none 0 0) 0 [] := ⟨by simp, .inl ⟨rfl, rfl⟩⟩
theorem OwnsT.of {w : World} {base : Nat} {t : TypeId} {size : Nat} {v : Value} {n : Nat} {xs : List Value} (h : w.ownsRow base t size v n xs) : OwnsT w base t size v n xs := by
  refine ⟨h.1, ?_⟩
  rcases h.2 with h | ⟨g, cap, cur, h1, h2, h3, h4⟩
  · exact .inl h
  · exact .inr ⟨g, cap, cur, h1, h2, .plain h3, h4⟩

/-- Appending onto a slice that is nil or a row of the call's own. -/
theorem run_app {P : Program} {t ty e : TypeId} {E : TD} (ht : P.underlying t = some (.slice e)) (hE : td P e = some E) {z : List Value} (hz : E.zero = some z) (hzl : z.length = E.size) (hsz : 0 < E.size)
    {w : World} {base : Nat} (hbase : base ≤ w.heap.size) {v : Value} {n : Nat} {xs : List Value} (hown : OwnsT w base e E.size v n xs)
    {A : Option Addr} {k c : Nat} {news : List Value} (hl : news.length = k * E.size) (hc : ∀ a, A = some a → ∀ (j : Nat) u, news[j]? = some u → w.cell? (a.add j) = some u) (h0 : A = none → k = 0) (h1 : ∀ u ∈ news, u.oneCell' = true)
    (h63 : n + k ≤ maxLen) (hb : (n + k) * E.bytes ≤ 140737488355328) :
    ∃ v' w', (Builtin.append_ #[t, t] ty #[v, .slice A k c]).run P w = .ok v' w' ∧ OwnsT w' base e E.size v' (n + k) (xs ++ news) ∧ w.grownBy w' v.ownBlock ∧ (v'.ownBlock = v.ownBlock ∨ v'.ownBlock = some w.heap.size) := by
  obtain ⟨u, i, hu, hi, rfl⟩ := td_some hE
  simp only [Option.map_eq_some_iff] at hz
  obtain ⟨zv, hzv, rfl⟩ := hz
  cases A with
  | none =>
    obtain rfl := h0 rfl
    obtain rfl : news = [] := List.eq_nil_of_length_eq_zero (by simpa using hl)
    refine ⟨v, w, ?_, by simpa using hown, ⟨rfl, rfl, rfl, Nat.le_refl _, fun _ _ _ => rfl⟩, Or.inl rfl⟩
    rcases hown.2 with ⟨rfl, rfl⟩ | ⟨g, cap, cur, rfl, _, _, hnc, _⟩
    · exact run_app_nil ht hi w _ 0 0 c none rfl (Nat.le_refl _)
    · exact run_app_nil ht hi w _ n cap c _ rfl hnc
  | some a =>
    rcases hown.2 with ⟨hv, hn⟩ | ⟨g, cap, cur, rfl, hbg, hg, hnc, hcm, hcs, htake⟩
    · have hown' : w.ownsRow base e i.size v n xs := ⟨hown.1, .inl ⟨hv, hn⟩⟩
      obtain ⟨v', w', a1, a2, a3, _, a5⟩ := run_append_own_at (P := P) w base t ty e i zv i.size i.bytes ht hi hzv rfl rfl (by simpa using hzl) hsz v n xs hown' a k c news hl (hc a rfl) h1 h63 hb hbase
      exact ⟨v', w', a1, .of a2, a3, a5⟩
    · have hlen : (xs ++ news).length = (n + k) * i.size := by rw [List.length_append, hown.1, hl, Nat.add_mul]
      by_cases hroom : n + k ≤ cap
      · obtain ⟨fz, hg1, hfz⟩ := hg
        have hfit : n * i.size + news.length ≤ cur.size := by rw [hl, hcs, ← Nat.add_mul]; exact Nat.mul_le_mul_right _ hroom
        have hr := run_append_roomT (P := P) w t ty e i ht hi g n cap cur fz hg1 hfz a k c news hl (hc a rfl) h1 hroom hfit
        have hz2 : (cur.toList.take (n * i.size) ++ news ++ cur.toList.drop (n * i.size + news.length)).toArray.size = cur.size := by
          simp only [List.size_toArray, List.length_append, List.length_take, List.length_drop, Array.length_toList]
          omega
        refine ⟨_, _, hr, ⟨hlen, .inr ⟨g, cap, _, rfl, hbg, ⟨fz, setRow_heap w g cur _ e _ hg1, by rw [hz2]; exact hfz⟩, hroom, hcm, ?_, ?_⟩⟩, ⟨rfl, rfl, rfl, by simp, fun k _ hk => setRow_other w g k _ (fun e => hk (by simp [Value.ownBlock, e]))⟩, Or.inl rfl⟩
        · rw [hz2]; exact hcs
        · rw [htake, ← hlen]
          exact List.take_left
      · have hsmall : n + k ≤ 9223372036854775807 := by simp only [maxLen] at h63; omega
        have holds : ∀ j u, xs[j]? = some u → w.cell? ((⟨g, 0, none⟩ : Addr).add j) = some u := fun j u hj => by
          rw [add_plain, Nat.zero_add, hg.cell]
          rw [← htake, List.getElem?_take] at hj
          split at hj
          · simpa using hj
          · cases hj
        have hr := run_append_grow (P := P) w t ty e i zv ht hi hzv ⟨g, 0, none⟩ n cap xs hown.1 holds a k c news hl (hc a rfl) (by omega) (by omega) (growslice_fits (by omega) hb)
        have hge := grownCap_ge w (n + k) cap e
        have hcm' : grownCap w (n + k) cap e ≤ maxLen := grownCap_le_maxLen w (n + k) cap e h63
        refine ⟨_, _, hr, ⟨hlen, .inr ⟨w.heap.size, _, _, rfl, hbase, .plain (heap_alloc_new w.drew _), hge, hcm', ?_, ?_⟩⟩, ⟨rfl, rfl, rfl, by simp, fun k hk _ => heap_alloc_old w.drew _ hk⟩, Or.inr rfl⟩
        · have hzs : zv.cells.size = i.size := by simpa using hzl
          simp only [Array.size_append, List.size_toArray, size_zeroCells, hzs, hown.1, hl, ← Nat.add_mul]
          congr 1
          omega
        · simp only [Array.toList_append, List.append_assoc]
          rw [← List.append_assoc, ← hlen]
          exact List.take_left
end

-- part 8
section
open RowKit
def killB (hk : Heap) (ks : List Nat) : Blk → Blk
  | .var t cs => .var t (killL hk ks cs)
  | .row e st es => .row e st es
def killH (hk : Heap) (ks : List Nat) (h : Heap) : Heap := h.map (Option.map (killB hk ks))

theorem OwnB.kill {hk : Heap} {ks : List Nat} {m m' : List (Option Nat)} {ok ok' : Nat → Prop} {w w' : World} (g : Grow hk ks m ok w m' ok' w') {L : Nat} (hL : L ∉ ks) {blk : Blk} (hs : ∀ b, m[L]? = some (some b) → w'.heap[b]? = w.heap[b]?) (h : OwnB m ok w L blk) : OwnB m' ok' w' L (killB hk ks blk) := by
  cases blk with
  | var t xs =>
    obtain ⟨b, cs, hm, hb, hr, h1⟩ := h
    exact ⟨b, cs, g.mm _ _ hL hm, (hs b hm).trans hb, RepL.kill g xs hr, h1⟩
  | row e st es =>
    obtain ⟨ob, hm, h⟩ := h
    refine ⟨ob, g.mm _ _ hL hm, ?_⟩
    cases ob with
    | none => exact h
    | some b =>
      obtain ⟨cs, hb, hl, hr⟩ := h
      refine ⟨cs, hb.same (hs b hm), hl, fun i x hx => ⟨(hr i x hx).1, fun j y hy => ?_⟩⟩
      obtain ⟨u, hu, h1, hd⟩ := (hr i x hx).2 j y hy
      exact ⟨u, hu, h1, RepD.mono g.mo g.cells y hd⟩

theorem killH_get {hk : Heap} {ks : List Nat} {h : Heap} {L : Nat} {blk : Blk} (hL : (killH hk ks h)[L]? = some (some blk)) : ∃ b0, h[L]? = some (some b0) ∧ blk = killB hk ks b0 := by
  unfold killH at hL
  rw [List.getElem?_map, Option.map_eq_some_iff] at hL
  obtain ⟨o, h1, h2⟩ := hL
  rw [Option.map_eq_some_iff] at h2
  obtain ⟨b0, rfl, rfl⟩ := h2
  exact ⟨b0, h1, rfl⟩

section
variable {w0 : World} {ok0 : Nat → Prop} {m : List (Option Nat)} {ok : Nat → Prop} {h : Heap} {w : World}

/-- A row that has turned: appended to in place, or laid anew. -/
theorem HRel.turn (r : HRel w0 ok0 m ok h w) {L : Nat} {blk blk' : Blk} (hL : h[L]? = some (some blk)) {ob ob' : Option Nat} (hm : m[L]? = some ob) {w' : World} (hg : w.grownBy w' ob)
    (hob : ∀ b, ob' = some b → (ob = some b ∨ w.heap.size ≤ b) ∧ b < w'.heap.size) (hb : Grow [] [L] m ok w (m.set L ob') ok w' → OwnB (m.set L ob') ok w' L blk') :
    Grow [] [L] m ok w (m.set L ob') ok w' ∧ HRel w0 ok0 (m.set L ob') ok ((killH [] [L] h).set L (some blk')) w' := by
  have hz : w0.heap.size ≤ w.heap.size := r.bel.size
  have hLm : L < m.length := (List.getElem?_eq_some_iff.1 hm).1
  have sameOk : ∀ b, ok b → w'.heap[b]? = w.heap[b]? := fun b hk => hg.block b (r.okb b hk) fun e => by
    rw [← e] at hm
    exact r.nok L b blk hL hm hk
  have other : ∀ L' b, L' ≠ L → m[L']? = some (some b) → w'.heap[b]? = w.heap[b]? := fun L' b hne hm' => hg.block b (r.new L' b hm').2 fun e => by
    rw [← e] at hm
    exact hne (r.inj L' L b hm' hm)
  have old : ∀ L' b, (m.set L ob')[L']? = some (some b) → (L' ≠ L ∧ m[L']? = some (some b)) ∨ (L' = L ∧ ob' = some b) := fun L' b hm' => by
    rw [List.getElem?_set] at hm'
    split at hm'
    · rename_i e
      exact Or.inr ⟨e.symm, by simpa using hm'⟩
    · rename_i e
      exact Or.inl ⟨fun e' => e e'.symm, hm'⟩
  have g : Grow [] [L] m ok w (m.set L ob') ok w' := ⟨fun L' b hn hm' => by
      rw [List.getElem?_set, if_neg (fun e => hn (by simp [e]))]; exact hm', fun _ h => h, sameOk, fun L' b s hn hm' hs => by
      unfold World.shape? at *
      rw [other L' b (by simpa using hn) hm']
      exact hs, fun L' st n v st' es _ _ he => by simp [elemsA] at he⟩
  refine ⟨g, by simp [r.len, killH], fun L' blk2 hL' => ?_, fun L' L2 b h1 h2 => ?_, fun L' b blk2 hL' hm' hk => ?_, fun L' b hm' => ?_, fun b hk => Nat.lt_of_lt_of_le (r.okb b hk) hg.size, r.oko, ?_⟩
  · rw [List.getElem?_set] at hL'
    split at hL'
    · rename_i e
      subst e
      split at hL'
      · cases hL'; exact hb g
      · cases hL'
    · rename_i e
      obtain ⟨b0, h1, rfl⟩ := killH_get hL'
      exact OwnB.kill g (by simpa using fun e' => e e'.symm) (fun b hm' => other L' b (fun e' => e e'.symm) hm') (r.own L' b0 h1)
  · rcases old L' b h1 with ⟨n1, a1⟩ | ⟨e1, a1⟩ <;> rcases old L2 b h2 with ⟨n2, a2⟩ | ⟨e2, a2⟩
    · exact r.inj L' L2 b a1 a2
    · rcases (hob b a2).1 with h3 | h3
      · rw [h3] at hm; exact absurd (r.inj L' L b a1 hm) n1
      · have := (r.new L' b a1).2; omega
    · rcases (hob b a1).1 with h3 | h3
      · rw [h3] at hm; exact absurd (r.inj L2 L b a2 hm) n2
      · have := (r.new L2 b a2).2; omega
    · rw [e1, e2]
  · rcases old L' b hm' with ⟨n1, a1⟩ | ⟨e1, a1⟩
    · rw [List.getElem?_set, if_neg (fun e => n1 e.symm)] at hL'
      obtain ⟨b0, h1, rfl⟩ := killH_get hL'
      exact r.nok L' b b0 h1 a1 hk
    · rcases (hob b a1).1 with h3 | h3
      · rw [h3] at hm; exact r.nok L b blk hL hm hk
      · have := r.okb b hk; omega
  · rcases old L' b hm' with ⟨n1, a1⟩ | ⟨e1, a1⟩
    · exact ⟨(r.new L' b a1).1, Nat.lt_of_lt_of_le (r.new L' b a1).2 hg.size⟩
    · obtain ⟨h3, h4⟩ := hob b a1
      refine ⟨?_, h4⟩
      rcases h3 with h3 | h3
      · rw [h3] at hm; exact (r.new L b hm).1
      · omega
  · refine r.bel.trans ⟨hg.os, hg.tape, hg.output, hg.size, fun k hk => hg.block k (by omega) fun e => ?_⟩
    rw [← e] at hm
    have := (r.new L k hm).1
    omega
end

mutual
/-- Data, whatever the call's own blocks. -/
def isD : AV → Bool
  | .ptr _ _ => false
  | .rp _ _ _ => false
  | .own _ _ _ => false
  | .agg xs => isDL xs
  | .tup xs => isDL xs
  | .fn _ xs => isDL xs
  | .junk => true
  | .c _ => true
  | .nils => true
  | .sl _ _ _ => true
  | .dptr _ => true
def isDL : List AV → Bool
  | [] => true
  | x :: xs => isD x && isDL xs
end
section
variable {m : List (Option Nat)} {ok : Nat → Prop} {w : World}
mutual
theorem isD_ok : ∀ (x : AV) {v : Value}, isD x = true → RepV m ok w x v → RepD ok w x v
  | .ptr _ _, _, h, _ => by simp [isD] at h
  | .rp _ _ _, _, h, _ => by simp [isD] at h
  | .own _ _ _, _, h, _ => by simp [isD] at h
  | .agg xs, _, h, ⟨vs, hv, hl, h1⟩ => ⟨vs, hv, isDL_ok xs (by simpa [isD] using h) hl, h1⟩
  | .tup xs, _, h, ⟨vs, hv, hl⟩ => ⟨vs, hv, isDL_ok xs (by simpa [isD] using h) hl⟩
  | .fn _ xs, _, h, ⟨vs, hv, hl⟩ => ⟨vs, hv, isDL_ok xs (by simpa [isD] using h) hl⟩
  | .junk, _, _, _ => trivial
  | .c _, _, _, h => h
  | .nils, _, _, h => h
  | .sl _ _ _, _, _, h => h
  | .dptr _, _, _, h => h
theorem isDL_ok : ∀ (xs : List AV) {l : List Value}, isDL xs = true → RepL m ok w xs l → RepDL ok w xs l
  | [], _, _, h => h
  | x :: xs, _, h, ⟨u, us, hl, hx, hr⟩ => by
    simp only [isDL, Bool.and_eq_true] at h
    exact ⟨u, us, hl, isD_ok x h.1 hx, isDL_ok xs h.2 hr⟩
end
end

theorem isDL_get : ∀ {xs : List AV} {i : Nat} {x : AV}, isDL xs = true → xs[i]? = some x → isD x = true
  | [], _, _, _, h => by simp at h
  | y :: ys, 0, x, h, e => by
    simp only [isDL, Bool.and_eq_true] at h
    simp at e; subst e; exact h.1
  | y :: ys, i + 1, x, h, e => by
    simp only [isDL, Bool.and_eq_true] at h
    exact isDL_get h.2 (by simpa using e)
end

-- part 9
section
open RowKit
mutual
/-- What a callee sees of a value: the call's own slices as data. -/
def toD (h : Heap) : AV → Option AV
  | .ptr L j => match h[L]? with
    | some (some (.var _ cs)) => if isDL cs = true then some (.dptr (cs.drop j)) else none
    | _ => none
  | .rp _ _ _ => none
  | .own L st n => (elemsA h (.own L st n)).map fun p => .sl false p.1 p.2
  | .agg xs => (toDL h xs).map .agg
  | .tup xs => (toDL h xs).map .tup
  | .fn f xs => (toDL h xs).map (.fn f)
  | .junk => some .junk
  | .c v => some (.c v)
  | .nils => some .nils
  | .sl _ st es => some (.sl false st es)
  | .dptr xs => some (.dptr xs)
def toDL (h : Heap) : List AV → Option (List AV)
  | [] => some []
  | x :: xs => match toD h x, toDL h xs with
    | some y, some ys => some (y :: ys)
    | _, _ => none
end
mutual
/-- The call's own rows that a value names. -/
def ownsV : AV → List Nat
  | .own L _ _ => [L]
  | .agg xs => ownsL xs
  | .tup xs => ownsL xs
  | .fn _ xs => ownsL xs
  | .ptr L _ => [L]
  | .rp _ _ _ => []
  | .junk => []
  | .c _ => []
  | .nils => []
  | .sl _ _ _ => []
  | .dptr _ => []
def ownsL : List AV → List Nat
  | [] => []
  | x :: xs => ownsV x ++ ownsL xs
end

def okx (m : List (Option Nat)) (ok : Nat → Prop) (ks : List Nat) (b : Nat) : Prop := ok b ∨ ∃ L ∈ ks, m[L]? = some (some b)

section
variable {m : List (Option Nat)} {ok : Nat → Prop} {h : Heap} {w : World}
theorem own_data (ho : HOwn m ok h w) {L st n : Nat} {p : Nat × List (List AV)} (he : elemsA h (.own L st n) = some p) {v : Value} (hv : RepV m ok w (.own L st n) v) {ok' : Nat → Prop} (g : ∀ b, ok b → ok' b) (hb : ∀ b, m[L]? = some (some b) → ok' b) : RepD ok' w (.sl false p.1 p.2) v := by
  obtain ⟨st', es⟩ := p
  simp only [elemsA] at he
  split at he
  · rename_i ty st2 es2 hL
    split at he
    · rename_i hcn
      obtain ⟨rfl, hn⟩ := hcn
      cases he
      obtain ⟨ob, hm, hv⟩ := hv
      cases ob with
      | none =>
        obtain ⟨rfl, rfl⟩ := hv
        exact ⟨none, 0, by simp, ⟨fun h0 => (by cases h0), fun _ => rfl⟩, fun h0 => by simp at h0⟩
      | some b =>
        obtain ⟨cap, t, rfl, hnc, hcm, hs⟩ := hv
        obtain ⟨cs, hbk, hi⟩ := (ho _ _ hL).idx hm hn
        refine ⟨_, cap, by rw [List.length_take, Nat.min_eq_left hn], ⟨fun h0 => (by cases h0), fun h0 => (by cases h0)⟩, fun _ => ⟨b, 0, rfl, hb b hm, RepEs.of_idx _ 0 _ (hi.mono g fun _ _ => rfl) fun j u hj => ?_⟩⟩
        rw [hbk.cell, Nat.zero_add]
        rw [List.getElem?_take] at hj
        split at hj
        · simpa using hj
        · cases hj
    · cases he
  · cases he

theorem RepCs.of_row {ok : Nat → Prop} {w : World} {b : Nat} : ∀ (xs : List AV) (o : Nat) (vs : List Value), RepDL ok w xs vs → (∀ u ∈ vs, u.oneCell' = true) → (∀ (k : Nat) u, vs[k]? = some u → w.cell? ⟨b, o + k, none⟩ = some u) → RepCs ok w b o xs
  | [], _, _, _, _, _ => trivial
  | x :: xs, o, _, ⟨u, us, rfl, hx, hr⟩, h1, hc => ⟨⟨u, hc 0 u rfl, h1 u (by simp), hx⟩, RepCs.of_row xs (o + 1) us hr (fun q hq => h1 q (by simp [hq])) fun k q hk => by
      have := hc (k + 1) q (by simpa using hk)
      rwa [show o + 1 + k = o + (k + 1) by omega]⟩

theorem okx_mono {ks ks' : List Nat} (hs : ∀ L ∈ ks, L ∈ ks') {b : Nat} (hb : okx m ok ks b) : okx m ok ks' b := by
  rcases hb with hb | ⟨L, h1, h2⟩
  · exact Or.inl hb
  · exact Or.inr ⟨L, hs L h1, h2⟩

mutual
theorem toD_ok (ho : HOwn m ok h w) : ∀ (x : AV) {y : AV} {v : Value}, toD h x = some y → RepV m ok w x v → RepD (okx m ok (ownsV x)) w y v
  | .ptr L j, y, v, h, hv => by
    simp only [toD] at h
    split at h
    · rename_i t cs hL
      split at h
      · rename_i hd
        cases h
        obtain ⟨b, hm, rfl⟩ := hv
        obtain ⟨b', vs, hm', hb, hr, h1⟩ := ho L _ hL
        rw [hm] at hm'; cases hm'
        refine ⟨b, j, rfl, Or.inr ⟨L, by simp [ownsV], hm⟩, ?_⟩
        have hd' := RepDL.mono (ok' := okx m ok (ownsV (.ptr L j))) (fun b hb => Or.inl hb) (fun _ _ => rfl) _ (isDL_ok cs hd hr)
        have := RepCs.of_row (b := b) cs 0 vs.toList hd' h1 (fun k u hk => by rw [cell_of_block hb, Nat.zero_add]; simpa using hk)
        have := this.drop j
        rwa [Nat.zero_add] at this
      · cases h
    · cases h
  | .rp _ _ _, _, _, h, _ => by simp [toD] at h
  | .own L st n, y, v, h, hv => by
    simp only [toD, Option.map_eq_some_iff] at h
    obtain ⟨p, hp, rfl⟩ := h
    exact own_data ho hp hv (fun b hb => Or.inl hb) fun b hb => Or.inr ⟨L, by simp [ownsV], hb⟩
  | .agg xs, y, v, h, ⟨vs, hv, hl, h1⟩ => by
    simp only [toD, Option.map_eq_some_iff] at h
    obtain ⟨ys, hp, rfl⟩ := h
    exact ⟨vs, hv, toDL_ok ho xs hp hl, h1⟩
  | .tup xs, y, v, h, ⟨vs, hv, hl⟩ => by
    simp only [toD, Option.map_eq_some_iff] at h
    obtain ⟨ys, hp, rfl⟩ := h
    exact ⟨vs, hv, toDL_ok ho xs hp hl⟩
  | .fn f xs, y, v, h, ⟨vs, hv, hl⟩ => by
    simp only [toD, Option.map_eq_some_iff] at h
    obtain ⟨ys, hp, rfl⟩ := h
    exact ⟨vs, hv, toDL_ok ho xs hp hl⟩
  | .junk, y, v, h, _ => by simp [toD] at h; subst h; trivial
  | .c _, y, v, h, hv => by simp [toD] at h; subst h; exact hv
  | .nils, y, v, h, hv => by simp [toD] at h; subst h; exact hv
  | .sl nn st es, y, v, h, hv => by
    simp [toD] at h
    subst h
    obtain ⟨A, cap, h1, h3, h2⟩ := RepD.mono (ok' := okx m ok (ownsV (.sl nn st es))) (fun b hb => Or.inl hb) (fun _ _ => rfl) (.sl nn st es) hv
    exact ⟨A, cap, h1, ⟨fun h => (by cases h), h3.2⟩, h2⟩
  | .dptr xs, y, v, h, hv => by simp [toD] at h; subst h; exact RepD.mono (fun b hb => Or.inl hb) (fun _ _ => rfl) (.dptr xs) hv
theorem toDL_ok (ho : HOwn m ok h w) : ∀ (xs : List AV) {ys : List AV} {l : List Value}, toDL h xs = some ys → RepL m ok w xs l → RepDL (okx m ok (ownsL xs)) w ys l
  | [], ys, l, h, hl => by simp [toDL] at h; subst h; exact hl
  | x :: xs, ys, l, h, ⟨u, us, hl, hx, hr⟩ => by
    unfold toDL at h
    split at h
    · rename_i y ys' hy hys
      cases h
      exact ⟨u, us, hl, RepD.mono (fun b hb => okx_mono (by simp [ownsL]; intro L hL; exact Or.inl hL) hb) (fun _ _ => rfl) y (toD_ok ho x hy hx), RepDL.mono (fun b hb => okx_mono (by simp [ownsL]; intro L hL; exact Or.inr hL) hb) (fun _ _ => rfl) ys' (toDL_ok ho xs hys hr)⟩
    · cases h
end
end

mutual
/-- A value that leads nowhere. -/
def flat : AV → Bool
  | .c _ => true
  | .nils => true
  | .tup xs => flatL xs
  | .agg xs => flatL xs
  | .junk => true
  | _ => false
def flatL : List AV → Bool
  | [] => true
  | x :: xs => flat x && flatL xs
end
section
variable {ok ok' : Nat → Prop} {w w' : World}
mutual
theorem flat_ok : ∀ (x : AV) {v : Value}, flat x = true → RepD ok w x v → RepD ok' w' x v
  | .c _, _, _, h => h
  | .nils, _, _, h => h
  | .junk, _, _, _ => trivial
  | .tup xs, _, h, ⟨vs, hv, hl⟩ => ⟨vs, hv, flatL_ok xs (by simpa [flat] using h) hl⟩
  | .agg xs, _, h, ⟨vs, hv, hl, h1⟩ => ⟨vs, hv, flatL_ok xs (by simpa [flat] using h) hl, h1⟩
  | .ptr _ _, _, h, _ => by simp [flat] at h
  | .rp _ _ _, _, h, _ => by simp [flat] at h
  | .own _ _ _, _, h, _ => by simp [flat] at h
  | .fn _ _, _, h, _ => by simp [flat] at h
  | .sl _ _ _, _, h, _ => by simp [flat] at h
  | .dptr _, _, h, _ => by simp [flat] at h
theorem flatL_ok : ∀ (xs : List AV) {l : List Value}, flatL xs = true → RepDL ok w xs l → RepDL ok' w' xs l
  | [], _, _, h => h
  | x :: xs, _, h, ⟨u, us, hl, hx, hr⟩ => by
    simp only [flatL, Bool.and_eq_true] at h
    exact ⟨u, us, hl, flat_ok x h.1 hx, flatL_ok xs h.2 hr⟩
end
end

/-- A function that makes this of these, and turns nothing that there was. -/
def Meets (P : Program) (f : FuncId) (args : List AV) (res : AV) : Prop :=
  Proofs.Enters P f ∧ ∀ (ok : Nat → Prop) (w : World) (vs : List Value), (∀ b, ok b → b < w.heap.size) → RepDL ok w args vs →
    Calls P f vs.toArray w fun e w' => ∃ v, e = .returned v ∧ RepD (fun b => ok b ∨ (w.heap.size ≤ b ∧ b < w'.heap.size)) w' res v ∧ Below w.heap.size w w'

/-- Rows that are data from now on. -/
def dropL (ks : List Nat) (h : Heap) : Heap := h.zipIdx.map fun p => if p.2 ∈ ks then none else p.1

theorem dropL_get {ks : List Nat} {h : Heap} {L : Nat} {blk : Blk} (e : (dropL ks h)[L]? = some (some blk)) : h[L]? = some (some blk) ∧ L ∉ ks := by
  unfold dropL at e
  rw [List.getElem?_map, List.getElem?_zipIdx, Option.map_map, Option.map_eq_some_iff] at e
  obtain ⟨o, h1, h2⟩ := e
  simp only [Function.comp] at h2
  split at h2
  · cases h2
  · rename_i hn
    exact ⟨h2 ▸ h1, by simpa using hn⟩

theorem HRel.freeze {w0 : World} {ok0 : Nat → Prop} {m : List (Option Nat)} {ok : Nat → Prop} {h : Heap} {w : World} (r : HRel w0 ok0 m ok h w) (ks : List Nat) :
    Grow h ks m ok w m (okx m ok ks) w ∧ HRel w0 ok0 m (okx m ok ks) (killH h ks (dropL ks h)) w := by
  have g : Grow h ks m ok w m (okx m ok ks) w := ⟨fun _ _ _ h => h, fun _ h => Or.inl h, fun _ _ => rfl, fun _ _ _ _ _ h => h, fun L st n v st' es hL hv he => own_data r.own he hv (fun b hb => Or.inl hb) fun b hb => Or.inr ⟨L, hL, hb⟩⟩
  refine ⟨g, by simp [r.len, killH, dropL], fun L blk hL => ?_, r.inj, fun L b blk hL hm hk => ?_, r.new, fun b hk => ?_, fun b hk => ?_, r.bel⟩
  · obtain ⟨b0, h1, rfl⟩ := killH_get hL
    obtain ⟨h1, h2⟩ := dropL_get h1
    exact OwnB.kill g h2 (fun _ _ => rfl) (r.own L b0 h1)
  · obtain ⟨b0, h1, rfl⟩ := killH_get hL
    obtain ⟨h1, h2⟩ := dropL_get h1
    rcases hk with hk | ⟨L', h3, h4⟩
    · exact r.nok L b b0 h1 hm hk
    · exact h2 (r.inj L' L b h4 hm ▸ h3)
  · rcases hk with hk | ⟨L', h3, h4⟩
    · exact r.okb b hk
    · exact (r.new L' b h4).2
  · rcases hk with hk | ⟨L', h3, h4⟩
    · exact r.oko b hk
    · exact Or.inr (r.new L' b h4).1

theorem Grow.then {h : Heap} {ks : List Nat} {m m1 m2 : List (Option Nat)} {ok ok1 ok2 : Nat → Prop} {w w1 w2 : World} (a : Grow h ks m ok w m1 ok1 w1) (b : Grow [] [] m1 ok1 w1 m2 ok2 w2) : Grow h ks m ok w m2 ok2 w2 :=
  ⟨fun L o hn hm => b.mm L o (by simp) (a.mm L o hn hm), fun k hk => b.mo k (a.mo k hk), fun k hk => (b.cells k (a.mo k hk)).trans (a.cells k hk), fun L k s hn hm hs => b.shape L k s (by simp) (a.mm L _ hn hm) (a.shape L k s hn hm hs), fun L st n v st' es hL hv he => RepD.mono b.mo b.cells _ (a.fz L st n v st' es hL hv he)⟩
end

-- part 10
section
open RowKit
def storeA (h : Heap) (p : AV) (xs : List AV) (K : Heap → Prop) : Prop :=
  match p with
  | .ptr L j => match h[L]? with
    | some (some (.var t cs)) => j + xs.length ≤ cs.length ∧ K (h.set L (some (.var t (setAll cs j xs))))
    | _ => False
  | .rp L i j => match h[L]? with
    | some (some (.row e st es)) => st ≠ 0 ∧ i % st = 0 ∧ isDL xs = true ∧ elO es[i / st]? fun x => j + xs.length ≤ x.length ∧ K (h.set L (some (.row e st (es.set (i / st) (setAll x j xs)))))
    | _ => False
  | _ => False

def elemsN (h : Heap) (st : Nat) : AV → Option (List (List AV))
  | .nils => some []
  | x => match elemsA h x with
    | some (st', es) => if st' = st then some es else none
    | none => none

def rowE (h : Heap) (L : Nat) : Option TypeId :=
  match h[L]? with
  | some (some (.row e _ _)) => some e
  | _ => none

def chunk (n st : Nat) (cs : List AV) : List (List AV) := (List.range n).map fun i => (cs.drop (i * st)).take st

def bytesA : List (List AV) → Option (List Int)
  | [] => some []
  | [.c (.int .u8 n)] :: r => (bytesA r).map (n :: ·)
  | _ => none
def bytesS (ns : List Int) : ByteArray := ns.foldl (fun r n => r.push (UInt8.ofNat n.toNat)) ByteArray.empty
/-- Conversions: of integers, of bytes to a string. -/
def convS (P : Program) (h : Heap) (s d : TypeId) (x : AV) (K : AV → Prop) : Prop :=
  elO (td P s) fun S => elO (td P d) fun D => D.str = true ∧ elO S.elem fun e => elO (td P e) fun E => E.ik = some .u8 ∧ elO (elemsN h 1 x) fun es => elO (bytesA es) fun bs => K (.c (.string (bytesS bs)))
/-- '[]byte' of an own slice of bytes: the slice itself, its block is marked behind its cells. -/
def convM (P : Program) (h : Heap) (s : TypeId) (L n : Nat) (K : Prop) : Prop :=
  elO (td P s) fun S => elO S.elem fun e => elO (td P e) fun E => E.ik = some .u8 ∧ 0 < n ∧ elO (rowE h L) fun _ => K
def convA (P : Program) (σ : AS) (s d : TypeId) (x : Operand) (y : AV) (K : AV → Prop) : Prop :=
  match y with
  | .c (.int _ _) => apureO P σ (.convert s d x) K
  | .own L st n => if s = d then convM P σ.h s L n (K (.own L st n)) else convS P σ.h s d (.own L st n) K
  | .sl nn st es => convS P σ.h s d (.sl nn st es) K
  | _ => False

/-- A string's bytes as elements. -/
def strE (s : ByteArray) : List (List AV) := s.data.toList.map fun b => [.c (.int .u8 b.toNat)]
/-- Appending the bytes of a string. -/
def appS (P : Program) (σ : AS) (t t' : TypeId) (bs : ByteArray) (K : AV → Heap → List Nat → Heap → Prop) (y : AV) : Prop :=
  elO (td P t') fun U => U.str = true ∧ elO (td P t) fun D => elO D.elem fun e => elO (td P e) fun E => E.ik = some .u8 ∧ E.size = 1 ∧ E.bytes = 1 ∧ elO E.zero fun z => z.length = 1 ∧ (match y with
    | .own L st n => st = 1 ∧ rowE σ.h L = some e ∧ elO (elemsA σ.h (.own L st n)) fun p => n + bs.size ≤ 140737488355328 ∧ K (.own L 1 (n + bs.size)) [] [L] ((killH [] [L] σ.h).set L (some (.row e 1 (p.2 ++ strE bs))))
    | _ => False)
def appV (P : Program) (σ : AS) (t t' : TypeId) (s x : Operand) (K : AV → Heap → List Nat → Heap → Prop) : Prop :=
  t = t' ∧ elO (td P t) fun D => elO D.elem fun e => elO (td P e) fun E => elO E.zero fun z => z.length = E.size ∧ 0 < E.size ∧ elO (elemsN σ.h E.size (aev σ x)) fun es' => match aev σ s with
      | .own L st n => st = E.size ∧ rowE σ.h L = some e ∧ elO (elemsA σ.h (.own L st n)) fun p => ((n + es'.length) * E.bytes ≤ 140737488355328) ∧ n + es'.length ≤ 9223372036854775807 ∧ K (.own L st (n + es'.length)) [] [L] ((killH [] [L] σ.h).set L (some (.row e st (p.2 ++ es'))))
      | .nils => es'.length * E.bytes ≤ 140737488355328 ∧ es'.length ≤ 9223372036854775807 ∧ K (.own σ.h.length E.size es'.length) [] [] (σ.h ++ [some (.row e E.size es')])
      | _ => False
def appA (P : Program) (σ : AS) (t t' : TypeId) (s x : Operand) (K : AV → Heap → List Nat → Heap → Prop) : AV → Prop
  | .c (.string bs) => appS P σ t t' bs K (aev σ s)
  | _ => appV P σ t t' s x K

/-- Operations that turn memory, and calls. -/
def astepO (P : Program) (σ : AS) (op : Op) (K : AV → Heap → List Nat → Heap → Prop) : Prop :=
  match op with
  | .alloc t => elO (td P t) fun D => elO D.zero fun z => z.all (·.oneCell') = true ∧ K (.ptr σ.h.length 0) [] [] (σ.h ++ [some (.var t (z.map cvc))])
  | .convert s d x => convA P σ s d x (aev σ x) fun v => K v [] [] σ.h
  | .box t x => cellOk (aev σ x) = true ∧ K (.ptr σ.h.length 0) [] [] (σ.h ++ [some (.var t (cellsA (aev σ x)))])
  | .store t p x => elO (td P t) fun D => cellOk (aev σ x) = true ∧ (cellsA (aev σ x)).length = D.size ∧ storeA σ.h (aev σ p) (cellsA (aev σ x)) fun h' => K .junk [] [] h'
  | .makeSlice t l c => elO (td P t) fun D => elO D.elem fun e => elO (td P e) fun E => elO E.zero fun z => z.all (·.oneCell') = true ∧ z.length = E.size ∧ 0 < E.size ∧ match aev σ l, aev σ c with
    | .c (.int _ a), .c (.int _ b) => 0 ≤ a ∧ a ≤ b ∧ (E.bytes : Int) * b ≤ 140737488355328 ∧ b ≤ 9223372036854775807 ∧ K (.own σ.h.length E.size a.toNat) [] [] (σ.h ++ [some (.row e E.size (List.replicate a.toNat (z.map cvc)))])
    | _, _ => False
  | .buildSlice t len parts => elO (td P t) fun D => elO D.elem fun e => elO (td P e) fun E => elO E.zero fun z => z.all (·.oneCell') = true ∧ z.length = E.size ∧ 0 < E.size ∧ len * E.size ≤ 16777216 ∧ len ≤ 9223372036854775807 ∧
    elO (fillA (fun i => some (i * E.size, E.size)) ((List.range (len * E.size)).map fun k => (z.map cvc)[k % E.size]?.getD .junk) (parts.toList.map fun p => (p.1, aev σ p.2))) fun cs => isDL cs = true ∧ K (.own σ.h.length E.size len) [] [] (σ.h ++ [some (.row e E.size (chunk len E.size cs))])
  | .call ⟨.builtin .append, args, ats⟩ => match args.toList, ats.toList with
    | [s, x], [t, t'] => appA P σ t t' s x K (aev σ x)
    | _, _ => False
  | .call ⟨.value f, args, _⟩ => match aev σ f with
    | .fn g cap => elO (toDL σ.h (args.toList.map (aev σ) ++ cap)) fun ds => ∃ res, Meets P g ds res ∧
      if (flat res || (ownsL (args.toList.map (aev σ) ++ cap)).isEmpty) = true then K res [] [] σ.h
      else K res σ.h (ownsL (args.toList.map (aev σ) ++ cap)) (killH σ.h (ownsL (args.toList.map (aev σ) ++ cap)) (dropL (ownsL (args.toList.map (aev σ) ++ cap)) σ.h))
    | _ => False
  | _ => False

def astep (P : Program) (σ : AS) (o : Oper) (K : AV → Heap → List Nat → Heap → Prop) : Prop := astepO P σ o.op K

def ExecOk (P : Program) (ρ : Operand → Value) (o : Oper) (w : World) (Post : Value → World → Prop) : Prop :=
  match (execOp ρ o).run P w with
  | .ok (.value u) w' => Post u w'
  | .ok .skip w' => Post undef w'
  | .ok (.enter f args) w' => Calls P f args w' (fun e w'' => ∃ v, e = .returned v ∧ Post v w'')
  | _ => False

def OpOkS (P : Program) (σ : AS) (o : Oper) (v : AV) (hk : Heap) (ks : List Nat) (h' : Heap) : Prop :=
  ∀ w0 ok0 m ok ρ w, (∀ x ∈ o.op.operands, RepV m ok w (aev σ x) (ρ x)) → HRel w0 ok0 m ok σ.h w →
    ExecOk P ρ o w (fun u w' => ∃ m' ok', Grow hk ks m ok w m' ok' w' ∧ HRel w0 ok0 m' ok' h' w' ∧ RepV m' ok' w' v u)

theorem OpOkP.full' {P : Program} {σ : AS} {o : Oper} {v : AV} (h : OpOkP P σ o v) : OpOkS P σ o v [] [] σ.h := by
  intro w0 ok0 m ok ρ w hx hr
  obtain ⟨u, hu, hv⟩ := h m ok ρ w hx hr.own
  unfold ExecOk
  rw [hu]
  exact ⟨m, ok, Grow.refl _ _ _ _, hr, hv⟩

theorem exec_value {P : Program} {ρ : Operand → Value} {o : Oper} {w w' : World} {u : Value} {Post : Value → World → Prop} (h : (execOp ρ o).run P w = .ok (.value u) w') (hp : Post u w') : ExecOk P ρ o w Post := by
  unfold ExecOk; rw [h]; exact hp
theorem exec_skip {P : Program} {ρ : Operand → Value} {o : Oper} {w w' : World} {Post : Value → World → Prop} (h : (execOp ρ o).run P w = .ok .skip w') (hp : Post undef w') : ExecOk P ρ o w Post := by
  unfold ExecOk; rw [h]; exact hp

theorem run_value' {P : Program} {s : Sem Value} {u : Value} {w w' : World} (h : s.run P w = .ok u w') : (do pure (Next.value (← s)) : Sem Next).run P w = .ok (.value u) w' := by
  simp [h]

theorem step_alloc {P : Program} {σ : AS} {dst : Option Tmp} {t type : TypeId} {pos : String} {after : Array Edge} {guard : Option (Nat × Bool)} {D : TD} (hD : td P t = some D) {z : List Value} (hz : D.zero = some z) (h1 : z.all (·.oneCell') = true) :
    OpOkS P σ ⟨dst, .alloc t, type, pos, after, guard⟩ (.ptr σ.h.length 0) [] [] (σ.h ++ [some (.var t (z.map cvc))]) := by
  intro w0 ok0 m ok ρ w hx r
  obtain ⟨v, hv, hl⟩ := zeroValue_run hD hz w
  have hrun : (execOp ρ ⟨dst, .alloc t, type, pos, after, guard⟩).run P w = .ok (.value (.pointer (some ⟨w.heap.size, 0, none⟩))) (w.alloc (.cells v.cells t)) := by
    simp only [execOp]
    refine run_value' ?_
    unfold Instr.alloc
    rw [Sem.run_bind, hv]
    simp [newVar, newRow]
  exact exec_value hrun (boxed_ok r (v := v) (by rw [hl]; exact cvcs_rep m ok w z) (fun u hu => List.all_eq_true.1 h1 u (by rw [← hl]; exact hu)))

theorem step_box {P : Program} {σ : AS} {dst : Option Tmp} {t type : TypeId} {x : Operand} {pos : String} {after : Array Edge} {guard : Option (Nat × Bool)} (hc : cellOk (aev σ x) = true) :
    OpOkS P σ ⟨dst, .box t x, type, pos, after, guard⟩ (.ptr σ.h.length 0) [] [] (σ.h ++ [some (.var t (cellsA (aev σ x)))]) := by
  intro w0 ok0 m ok ρ w hx r
  obtain ⟨h1, h2⟩ := cells_ok hc (hx x (by simp [Op.operands]))
  have hrun : (execOp ρ ⟨dst, .box t x, type, pos, after, guard⟩).run P w = .ok (.value (.pointer (some ⟨w.heap.size, 0, none⟩))) (w.alloc (.cells (ρ x).cells t)) := by
    simp [execOp, Instr.box, newVar, newRow]
  exact exec_value hrun (boxed_ok r h1 h2)

theorem run_storeAt {P : Program} {t : TypeId} {D : TD} (hD : td P t = some D) {w : World} {b o : Nat} {v : Value} (hs : v.cells.toList.length = D.size) {cs : Array Value} {ty : TypeId} {fz : Nat × Nat} (hb : w.heap[b]? = some (.cells cs ty fz)) (hfz : tailOk' fz cs.size) (hl : o + v.cells.toList.length ≤ cs.size) (h1 : ∀ u ∈ v.cells.toList, u.oneCell' = true) :
    (Instr.storeAt t (.pointer (some ⟨b, o, none⟩)) v).run P w = .ok () (w.setRow b (cs.toList.take o ++ v.cells.toList ++ cs.toList.drop (o + v.cells.toList.length)).toArray) := by
  have := run_storeCells_atT P b o ty fz v.cells.toList 0 cs w hb hfz (by simpa using hl) h1
  simp only [Nat.add_zero] at this
  unfold Instr.storeAt storeVar
  simp only [Instr.sureAddr, Sem.run_bind, Sem.run_pure, Result.andThen_ok, sizeOf_run hD]
  have hs' : v.cells.size = D.size := by simpa using hs
  simp [hs', this]

theorem splice_get {α : Type} {cs us : List α} {o k : Nat} (h : o + us.length ≤ cs.length) : (cs.take o ++ us ++ cs.drop (o + us.length))[k]? = if o ≤ k ∧ k < o + us.length then us[k - o]? else cs[k]? := by
  simp only [List.getElem?_append, List.length_append, List.length_take, List.getElem?_take, List.getElem?_drop]
  grind

theorem step_store {P : Program} {σ : AS} {dst : Option Tmp} {t type : TypeId} {p x : Operand} {pos : String} {after : Array Edge} {guard : Option (Nat × Bool)} {D : TD} (hD : td P t = some D) (hc : cellOk (aev σ x) = true) (hl : (cellsA (aev σ x)).length = D.size) {K : Heap → Prop}
    (h : storeA σ.h (aev σ p) (cellsA (aev σ x)) K) : ∃ h', K h' ∧ OpOkS P σ ⟨dst, .store t p x, type, pos, after, guard⟩ .junk [] [] h' := by
  unfold storeA at h
  split at h
  · rename_i L j hp
    split at h
    · rename_i ty cs hL
      obtain ⟨hle, hK⟩ := h
      refine ⟨_, hK, fun w0 ok0 m ok ρ w hx r => ?_⟩
      obtain ⟨hr, h1⟩ := cells_ok hc (hx x (by simp [Op.operands]))
      have hpp := hx p (by simp [Op.operands])
      rw [hp] at hpp
      obtain ⟨b, hm, hpv⟩ := hpp
      obtain ⟨b', vs, hm', hb, hvs, hv1⟩ := r.own L _ hL
      rw [hm] at hm'; cases hm'
      have hlen := hr.length
      have hlv := hvs.length
      have hrun := run_storeAt (P := P) hD (v := ρ x) (o := j) (by omega) hb (.inl rfl) (by simp at hlv; omega) h1
      refine exec_skip (w' := w.setRow b (vs.toList.take j ++ (ρ x).cells.toList ++ vs.toList.drop (j + (ρ x).cells.toList.length)).toArray) (by simp only [execOp, hpv, Sem.run_bind]; rw [hrun]; rfl) ?_
      obtain ⟨g, r'⟩ := r.write hL hm hb (cs' := (vs.toList.take j ++ (ρ x).cells.toList ++ vs.toList.drop (j + (ρ x).cells.toList.length)).toArray) (blk' := .var ty (setAll cs j (cellsA (aev σ x)))) (by simp at hlv hlen ⊢; omega) fun w' g hw' => by
        refine ⟨b, _, hm, hw', ?_, fun u hu => ?_⟩
        · rw [setAll_eq _ _ _ hle]
          have a1 := RepL.mono g _ hvs
          have a2 := RepL.mono g _ hr
          have := ((a1.take j).append a2).append (a1.drop (j + (cellsA (aev σ x)).length))
          rw [hlen]
          exact this
        · simp only [List.toList_toArray, List.mem_append] at hu
          rcases hu with (hu | hu) | hu
          · exact hv1 u (List.mem_of_mem_take hu)
          · exact h1 u hu
          · exact hv1 u (List.mem_of_mem_drop hu)
      exact ⟨m, ok, g, r', trivial⟩
    · exact h.elim
  · rename_i L i j hp
    split at h
    · rename_i e st es hL
      obtain ⟨hst, him, hd, h⟩ := h
      obtain ⟨y, hy, hle, hK⟩ := elO_ex h
      have hii : i / st * st = i := by have := Nat.div_add_mod i st; rw [Nat.mul_comm] at this; omega
      refine ⟨_, hK, fun w0 ok0 m ok ρ w hx r => ?_⟩
      obtain ⟨hr, h1⟩ := cells_ok hc (hx x (by simp [Op.operands]))
      have hpp := hx p (by simp [Op.operands])
      rw [hp] at hpp
      obtain ⟨b, hm, hpv⟩ := hpp
      obtain ⟨ob, hm', hvs⟩ := r.own L _ hL
      rw [hm] at hm'; cases hm'
      obtain ⟨cs, ⟨fz, hb, hfz⟩, hlc, hvs⟩ := hvs
      have hlen := hr.length
      have hyl := (hvs _ y hy).1
      have hilt : i / st < es.length := (List.getElem?_eq_some_iff.1 hy).1
      have hroom : i + st ≤ cs.size := by
        have : (i / st + 1) * st ≤ es.length * st := Nat.mul_le_mul_right _ hilt
        rw [Nat.add_mul, Nat.one_mul, hii] at this
        omega
      have hrun := run_storeAt (P := P) hD (v := ρ x) (o := i + j) (by omega) hb hfz (by omega) h1
      refine exec_skip (w' := w.setRow b (cs.toList.take (i + j) ++ (ρ x).cells.toList ++ cs.toList.drop (i + j + (ρ x).cells.toList.length)).toArray) (by simp only [execOp, hpv, Sem.run_bind]; rw [hrun]; rfl) ?_
      obtain ⟨g, r'⟩ := r.write hL hm hb (cs' := (cs.toList.take (i + j) ++ (ρ x).cells.toList ++ cs.toList.drop (i + j + (ρ x).cells.toList.length)).toArray) (blk' := .row e st (es.set (i / st) (setAll y j (cellsA (aev σ x))))) (by simp at hlen ⊢; omega) fun w' g hw' => by
        refine ⟨some b, hm, _, ⟨fz, hw', by
          have e1 : (cs.toList.take (i + j) ++ (ρ x).cells.toList ++ cs.toList.drop (i + j + (ρ x).cells.toList.length)).toArray.size = cs.size := by simp at hlen ⊢; omega
          rw [e1]; exact hfz⟩, by simp at hlen ⊢; omega, fun k q hq => ?_⟩
        have get : ∀ n, (cs.toList.take (i + j) ++ (ρ x).cells.toList ++ cs.toList.drop (i + j + (ρ x).cells.toList.length)).toArray[n]? = if i + j ≤ n ∧ n < i + j + (ρ x).cells.toList.length then (ρ x).cells.toList[n - (i + j)]? else cs[n]? := fun n => by
          rw [List.getElem?_toArray, splice_get (by simp only [Array.length_toList] at hlen ⊢; omega)]
          simp
        rw [List.getElem?_set] at hq
        split at hq
        · rename_i e1
          subst e1
          cases hq
          refine ⟨by rw [setAll_length, hyl], fun n z hz => ?_⟩
          have hnl : n < st := by
            have := (List.getElem?_eq_some_iff.1 hz).1
            rw [setAll_length] at this
            omega
          rw [setAll_eq _ _ _ hle, splice_get hle] at hz
          rw [hii, get]
          by_cases hin : j ≤ n ∧ n < j + (cellsA (aev σ x)).length
          · rw [if_pos (by omega)]
            rw [if_pos hin] at hz
            obtain ⟨u, hu, hv⟩ := (RepL.mono g _ hr).get hz
            exact ⟨u, by rw [show i + n - (i + j) = n - j by omega]; exact hu, h1 u (List.mem_of_getElem? hu), isD_ok z (isDL_get hd hz) hv⟩
          · rw [if_neg (by omega)]
            rw [if_neg hin] at hz
            have hz' := hz
            obtain ⟨u, hu, hu1, hv⟩ := (hvs _ y hy).2 n z hz'
            rw [hii] at hu
            exact ⟨u, hu, hu1, RepD.mono g.mo g.cells z hv⟩
        · rename_i e1
          obtain ⟨a1, a2⟩ := hvs k q hq
          refine ⟨a1, fun n z hz => ?_⟩
          obtain ⟨u, hu, hu1, hv⟩ := a2 n z hz
          have hnl : n < st := by rw [← a1]; exact (List.getElem?_eq_some_iff.1 hz).1
          rw [get, if_neg]
          · exact ⟨u, hu, hu1, RepD.mono g.mo g.cells z hv⟩
          · rintro ⟨b1, b2⟩
            rcases Nat.lt_or_gt_of_ne e1 with h2 | h2
            · have := Nat.mul_le_mul_right st (show i / st + 1 ≤ k by omega)
              rw [Nat.add_mul, Nat.one_mul, hii] at this
              omega
            · have := Nat.mul_le_mul_right st (show k + 1 ≤ i / st by omega)
              rw [Nat.add_mul, Nat.one_mul, hii] at this
              omega
      exact ⟨m, ok, g, r', trivial⟩
    · exact h.elim
  · exact h.elim
end

-- part 11
section
open RowKit
theorem cvc_repD (ok : Nat → Prop) (w : World) (v : Value) : RepD ok w (cvc v) v := by
  unfold cvc
  split <;> simp [RepD]

theorem madeCells_get (z : Array Value) (n k : Nat) (hk : k < n) (hz : 0 < z.size) : (madeCells z n)[k]? = some (z[k % z.size]'(Nat.mod_lt _ hz)) := by
  unfold madeCells
  rw [Array.getElem?_map, Array.getElem?_range, if_pos hk]
  simp [Nat.mod_lt _ hz]

theorem zeros_idx (ok : Nat → Prop) (w : World) {z : List Value} (h1 : ∀ u ∈ z, u.oneCell' = true) (hz : 0 < z.length) (a n : Nat) (ha : a ≤ n) (zv : Array Value) (hzv : zv.toList = z) :
    IdxR ok w z.length (List.replicate a (z.map cvc)) ((madeCells zv (n * z.length)).toList.take (a * z.length)) := by
  have hzs : zv.size = z.length := by rw [← hzv]; simp
  have get : ∀ k, k < a * z.length → ((madeCells zv (n * z.length)).toList.take (a * z.length))[k]? = some (z[k % z.length]'(Nat.mod_lt _ hz)) := fun k hk => by
    have hle : a * z.length ≤ n * z.length := Nat.mul_le_mul_right _ ha
    rw [List.getElem?_take, if_pos hk, Array.getElem?_toList, madeCells_get zv _ k (by omega) (by omega)]
    subst hzv
    simp
  have hsz : (madeCells zv (n * z.length)).size = n * z.length := size_madeCells _ _
  have hle : a * z.length ≤ n * z.length := Nat.mul_le_mul_right _ ha
  refine ⟨by rw [List.length_take, List.length_replicate, Array.length_toList (xs := madeCells zv (n * z.length)), hsz, Nat.min_eq_left hle], fun u hu => ?_, fun i e he => ?_⟩
  · obtain ⟨k, hk, rfl⟩ := List.getElem_of_mem hu
    have hk2 : k < a * z.length := by simp at hk; omega
    have := get k hk2
    rw [List.getElem?_eq_getElem hk] at this
    rw [Option.some.inj this]
    exact h1 _ (List.getElem_mem _)
  · rw [List.getElem?_replicate] at he
    split at he
    · rename_i hi
      cases he
      refine ⟨by simp, fun j y hy => ?_⟩
      rw [List.getElem?_map, Option.map_eq_some_iff] at hy
      obtain ⟨v, hv, rfl⟩ := hy
      have hj := (List.getElem?_eq_some_iff.1 hv).1
      refine ⟨v, ?_, cvc_repD _ _ _⟩
      rw [get _ (idx_lt hi hj)]
      have : (i * z.length + j) % z.length = j := by rw [Nat.mul_comm, Nat.mul_add_mod, Nat.mod_eq_of_lt hj]
      have hv2 := (List.getElem?_eq_some_iff.1 hv).2
      simp only [this]
      rw [hv2]
    · cases he

theorem step_make {P : Program} {σ : AS} {dst : Option Tmp} {t e type : TypeId} {l c : Operand} {pos : String} {after : Array Edge} {guard : Option (Nat × Bool)} {D E : TD} (hD : td P t = some D) (he : D.elem = some e) (hE : td P e = some E) {z : List Value} (hz : E.zero = some z) (h1 : z.all (·.oneCell') = true) (hzl : z.length = E.size) (hsz : 0 < E.size)
    {k k' : IntKind} {a b : Int} (hl : aev σ l = .c (.int k a)) (hc : aev σ c = .c (.int k' b)) (h0 : 0 ≤ a) (hab : a ≤ b) (hby : (E.bytes : Int) * b ≤ 140737488355328) (h63 : b ≤ 9223372036854775807) :
    OpOkS P σ ⟨dst, .makeSlice t l c, type, pos, after, guard⟩ (.own σ.h.length E.size a.toNat) [] [] (σ.h ++ [some (.row e E.size (List.replicate a.toNat (z.map cvc)))]) := by
  intro w0 ok0 m ok ρ w hx r
  have q1 := hx l (by simp [Op.operands])
  have q2 := hx c (by simp [Op.operands])
  rw [hl] at q1
  rw [hc] at q2
  simp only [RepV] at q1 q2
  obtain ⟨u, i, hu, hi, rfl⟩ := td_some hD
  obtain ⟨u2, i2, hu2, hi2, rfl⟩ := td_some hE
  obtain rfl := elemD_some he
  simp only [Option.map_eq_some_iff] at hz
  obtain ⟨zv, hzv, rfl⟩ := hz
  simp only at hzl hsz hby
  have hrun := run_make (P := P) w t e i2 zv hu hi2 hzv k k' a b h0 hab (by omega) h63
  have hb0 : b.toNat * i2.size = b.toNat * zv.cells.toList.length := by rw [hzl]
  refine exec_value (w' := w.alloc (.cells (madeCells zv.cells (b.toNat * i2.size)) e)) (u := .slice (some ⟨w.heap.size, 0, none⟩) a.toNat b.toNat) (by simp only [execOp, q1, q2]; exact run_value' hrun) ?_
  have key : OwnB (m ++ [some w.heap.size]) ok (w.alloc (.cells (madeCells zv.cells (b.toNat * i2.size)) e)) σ.h.length (.row e i2.size (List.replicate a.toNat (zv.cells.toList.map cvc))) := by
    refine OwnB.of_idx (mget_new r.len) (.plain (heap_alloc_new w _)) ?_
    rw [List.length_replicate, ← hzl]
    exact zeros_idx ok _ (fun q hq => List.all_eq_true.1 h1 q hq) (by omega) a.toNat b.toNat (by omega) zv.cells rfl
  obtain ⟨g, r'⟩ := r.alloc _ e key
  refine ⟨_, ok, g, r', ⟨some w.heap.size, mget_new r.len, b.toNat, e, rfl, by omega, by unfold maxLen; omega, ?_⟩⟩
  unfold World.shape?
  rw [heap_alloc_new]
  simp [size_madeCells]

theorem step_call {P : Program} {σ : AS} {dst : Option Tmp} {type : TypeId} {f : Operand} {args : Array Operand} {ats : Array TypeId} {pos : String} {after : Array Edge} {guard : Option (Nat × Bool)} {g : FuncId} {cap : List AV} (hf : aev σ f = .fn g cap) {ds : List AV} (hds : toDL σ.h (args.toList.map (aev σ) ++ cap) = some ds) {res : AV} (hm : Meets P g ds res) :
    (∀ (hk : Heap) (ks : List Nat) (h' : Heap), (if (flat res || (ownsL (args.toList.map (aev σ) ++ cap)).isEmpty) = true then hk = [] ∧ ks = [] ∧ h' = σ.h
      else hk = σ.h ∧ ks = ownsL (args.toList.map (aev σ) ++ cap) ∧ h' = killH σ.h (ownsL (args.toList.map (aev σ) ++ cap)) (dropL (ownsL (args.toList.map (aev σ) ++ cap)) σ.h)) →
      OpOkS P σ ⟨dst, .call ⟨.value f, args, ats⟩, type, pos, after, guard⟩ res hk ks h') := by
  intro hk ks h' hcase w0 ok0 m ok ρ w hx r
  have q1 := hx f (by simp [Op.operands, Call.operands])
  rw [hf] at q1
  obtain ⟨vc, hv, hcap⟩ := q1
  have hargs : RepL m ok w (args.toList.map (aev σ)) (args.map ρ).toList := by
    refine RepL.of (by simp) fun i a b h1 h2 => ?_
    simp only [List.getElem?_map, Array.toList_map, Option.map_eq_some_iff] at h1 h2
    obtain ⟨q, h1, rfl⟩ := h1
    obtain ⟨q', h2, rfl⟩ := h2
    rw [h1] at h2; cases h2
    exact hx q (by simp [Op.operands, Call.operands]; exact Or.inr (by simpa using List.mem_of_getElem? h1))
  have hall := hargs.append hcap
  generalize hK : ownsL (args.toList.map (aev σ) ++ cap) = K at *
  have hd := toDL_ok r.own _ hds hall
  rw [hK] at hd
  have hokx : ∀ b, okx m ok K b → b < w.heap.size := fun b hb => by
    rcases hb with hb | ⟨L, _, hb⟩
    · exact r.okb b hb
    · exact (r.new L b hb).2
  have hcall := hm.2 (okx m ok K) w _ hokx hd
  have hrun : (execOp ρ ⟨dst, .call ⟨.value f, args, ats⟩, type, pos, after, guard⟩).run P w = .ok (.enter g ((args.map ρ).toList ++ vc.toList).toArray) w := by
    have e1 : ((args.map ρ).toList ++ vc.toList).toArray = args.map ρ ++ vc := by
      apply Array.ext'
      simp
    rw [e1]
    simp only [execOp, resolve, hv, Deferred.ofValue, Sem.run_bind, Sem.run_pure, Result.andThen_ok, invoke, Array.empty_append]
    exact hm.1 _ w
  unfold ExecOk
  rw [hrun]
  refine hcall.mono fun e w' hp => ?_
  obtain ⟨v, he, hres, hB⟩ := hp
  refine ⟨v, he, ?_⟩
  split at hcase
  · rename_i hc
    obtain ⟨rfl, rfl, rfl⟩ := hcase
    obtain ⟨g', r'⟩ := r.grown hB (ok' := fun b => ok b ∨ (w.heap.size ≤ b ∧ b < w'.heap.size)) (fun b hb => Or.inl hb) (fun b hb => hb)
    refine ⟨m, _, g', r', ?_⟩
    rcases Bool.or_eq_true_iff.1 hc with hfl | hem
    · exact RepD.up _ (flat_ok res hfl hres)
    · obtain rfl : K = [] := by simpa using hem
      refine RepD.up _ (RepD.mono (fun b hb => ?_) (fun _ _ => rfl) res hres)
      rcases hb with (hb | ⟨L, hL, _⟩) | hb
      · exact Or.inl hb
      · cases hL
      · exact Or.inr hb
  · obtain ⟨rfl, rfl, rfl⟩ := hcase
    obtain ⟨g1, r1⟩ := r.freeze ks
    obtain ⟨g2, r2⟩ := r1.grown hB (ok' := fun b => okx m ok ks b ∨ (w.heap.size ≤ b ∧ b < w'.heap.size)) (fun b hb => Or.inl hb) (fun b hb => hb)
    exact ⟨m, _, g1.then g2, r2, RepD.up _ hres⟩
end

-- part 12
section
open RowKit
theorem elemsN_ok {m : List (Option Nat)} {ok : Nat → Prop} {h : Heap} {w : World} (ho : HOwn m ok h w) {x : AV} {st : Nat} {es : List (List AV)} (he : elemsN h st x = some es) {v : Value} (hr : RepV m ok w x v) :
    ∃ A cap l, v = .slice A es.length cap ∧ IdxR ok w st es l ∧ (∀ a, A = some a → ∀ (j : Nat) u, l[j]? = some u → w.cell? (a.add j) = some u) ∧ (A = none → es = []) := by
  unfold elemsN at he
  split at he
  · cases he
    simp only [RepV] at hr
    subst hr
    exact ⟨none, 0, [], rfl, IdxR.nil _ _ _, fun a ha => (by cases ha), fun _ => rfl⟩
  · split at he
    · rename_i st' es' hel
      split at he
      · rename_i hst
        subst hst
        cases he
        exact elems_ok ho hel hr
      · cases he
    · cases he

theorem args2 {args : Array Operand} {s x : Operand} (h : args.toList = [s, x]) : args = #[s, x] := by cases args; simpa using h
theorem ats2 {args : Array TypeId} {s x : TypeId} (h : args.toList = [s, x]) : args = #[s, x] := by cases args; simpa using h

theorem append_run {P : Program} {dst : Option Tmp} {s x : Operand} {t type : TypeId} {pos : String} {after : Array Edge} {guard : Option (Nat × Bool)} {ρ : Operand → Value} {w w' : World} {v : Value} (h : (Builtin.append_ #[t, t] type #[ρ s, ρ x]).run P w = .ok v w') :
    (execOp ρ ⟨dst, .call ⟨.builtin .append, #[s, x], #[t, t]⟩, type, pos, after, guard⟩).run P w = .ok (.value v) w' := by
  simp only [execOp, resolve, Sem.run_bind]
  simp [invoke, builtin, h]

theorem step_app_own {P : Program} {σ : AS} {dst : Option Tmp} {t e type : TypeId} {s x : Operand} {pos : String} {after : Array Edge} {guard : Option (Nat × Bool)} {D E : TD} (hD : td P t = some D) (he : D.elem = some e) (hE : td P e = some E) {z : List Value} (hz : E.zero = some z) (hzl : z.length = E.size) (hsz : 0 < E.size)
    {es' : List (List AV)} (hx' : elemsN σ.h E.size (aev σ x) = some es') {L n : Nat} (hs : aev σ s = .own L E.size n) (hrow : rowE σ.h L = some e) {p : Nat × List (List AV)} (hp : elemsA σ.h (.own L E.size n) = some p)
    (hb : (n + es'.length) * E.bytes ≤ 140737488355328) (h63 : n + es'.length ≤ 9223372036854775807) :
    OpOkS P σ ⟨dst, .call ⟨.builtin .append, #[s, x], #[t, t]⟩, type, pos, after, guard⟩ (.own L E.size (n + es'.length)) [] [L] ((killH [] [L] σ.h).set L (some (.row e E.size (p.2 ++ es')))) := by
  intro w0 ok0 m ok ρ w hx r
  have q1 := hx s (by simp [Op.operands, Call.operands])
  have q2 := hx x (by simp [Op.operands, Call.operands])
  rw [hs] at q1
  obtain ⟨A, cap, news, hxv, hi, hcell, hnil⟩ := elemsN_ok r.own hx' q2
  obtain ⟨ob, hm, hov⟩ := q1
  unfold rowE at hrow
  split at hrow
  · rename_i ty st2 es2 hL
    cases hrow
    simp only [elemsA, hL] at hp
    split at hp
    · rename_i hcn
      obtain ⟨rfl, hn⟩ := hcn
      cases hp
      obtain ⟨uD, iD, huD, hiD, rfl⟩ := td_some hD
      obtain rfl := elemD_some he
      have hz0 : w0.heap.size ≤ w.heap.size := r.bel.size
      -- the row as it lay
      have hown : ∃ xs, OwnsT w 0 e E.size (ρ s) n xs ∧ IdxR ok w E.size (es2.take n) xs ∧ (ρ s).ownBlock = ob := by
        cases ob with
        | none =>
          obtain ⟨rfl, hv⟩ := hov
          refine ⟨[], ?_, ?_, by rw [hv]; rfl⟩
          · rw [hv]; exact OwnsT.nil w 0 e E.size
          · rw [List.take_zero]; exact IdxR.nil _ _ _
        | some b =>
          obtain ⟨cap', t', hv, hnc, hcm, hsh⟩ := hov
          obtain ⟨cs, hbk, hidx⟩ := (r.own L _ hL).idx hm hn
          have hcs : cs.size = cap' * E.size := by
            rw [hbk.shape] at hsh
            simp only [Option.some.injEq, Prod.mk.injEq] at hsh
            exact hsh.2
          refine ⟨cs.toList.take (n * E.size), ⟨?_, Or.inr ⟨b, cap', cs, hv, Nat.zero_le _, hbk, hnc, hcm, hcs, rfl⟩⟩, hidx, by rw [hv]; rfl⟩
          have := Nat.mul_le_mul_right E.size hnc
          rw [List.length_take, Array.length_toList (xs := cs), hcs, Nat.min_eq_left this]
      obtain ⟨xs, how, hidx, hob⟩ := hown
      obtain ⟨v', w', hrun, how', hgr, hblk⟩ := run_app (P := P) (ty := type) huD hE hz hzl hsz (base := 0) (Nat.zero_le _) how (c := cap) hi.1 hcell (fun h => by rw [hnil h]; rfl) hi.2.1 (by unfold maxLen; omega) hb
      rw [← hxv] at hrun
      rw [hob] at hgr hblk
      refine exec_value (append_run hrun) ?_
      have hlen : (xs ++ news).length = (es2.take n ++ es').length * E.size := by
        rw [List.length_append, hidx.1, hi.1, List.length_append, Nat.add_mul]
      have hle : n + es'.length = (es2.take n ++ es').length := by rw [List.length_append, List.length_take, Nat.min_eq_left hn]
      have hv' : OwnV w' E.size (n + es'.length) v' v'.ownBlock := by
        rcases how'.2 with ⟨h1, h2⟩ | ⟨g, cap2, cur, h1, _, h3, h4, h5, h6, h7⟩
        · rw [h1]; exact ⟨h2, rfl⟩
        · rw [h1]
          exact ⟨cap2, e, rfl, h4, h5, by rw [h3.shape]; simp [h6]⟩
      obtain ⟨g, r'⟩ := r.turn hL hm hgr (ob' := v'.ownBlock) (blk' := .row e E.size (es2.take n ++ es')) (fun b hb' => by
        refine ⟨?_, ?_⟩
        · rcases hblk with h1 | h1
          · rw [h1] at hb'; exact Or.inl hb'
          · rw [h1] at hb'; cases hb'; exact Or.inr (Nat.le_refl _)
        · rcases how'.2 with ⟨h1, h2⟩ | ⟨gg, cap2, cur, h1, _, h3, h4, h5, h6, h7⟩
          · rw [h1] at hb'; cases hb'
          · rw [h1] at hb'; cases hb'; exact h3.lt) (fun g => by
        have hmm : (m.set L v'.ownBlock)[L]? = some v'.ownBlock := by
          rw [List.getElem?_set, if_pos rfl, if_pos (List.getElem?_eq_some_iff.1 hm).1]
        rcases how'.2 with ⟨h1, h2⟩ | ⟨gg, cap2, cur, h1, _, h3, h4, h5, h6, h7⟩
        · rw [h1] at hmm ⊢
          exact ⟨none, hmm, List.eq_nil_of_length_eq_zero (by rw [← hle, h2])⟩
        · rw [h1] at hmm ⊢
          refine OwnB.of_idx hmm h3 ?_
          rw [← hle, h7]
          exact (hidx.append hi).mono g.mo g.cells)
      refine ⟨_, ok, g, r', ⟨v'.ownBlock, ?_, hv'⟩⟩
      rw [List.getElem?_set, if_pos rfl, if_pos (List.getElem?_eq_some_iff.1 hm).1]
    · cases hp
  · cases hrow

theorem append_run2 {P : Program} {dst : Option Tmp} {s x : Operand} {t tu type : TypeId} {pos : String} {after : Array Edge} {guard : Option (Nat × Bool)} {ρ : Operand → Value} {w w' : World} {v : Value} (h : (Builtin.append_ #[t, tu] type #[ρ s, ρ x]).run P w = .ok v w') :
    (execOp ρ ⟨dst, .call ⟨.builtin .append, #[s, x], #[t, tu]⟩, type, pos, after, guard⟩).run P w = .ok (.value v) w' := by
  simp only [execOp, resolve, Sem.run_bind]
  simp [invoke, builtin, h]

theorem strE_length (s : ByteArray) : (strE s).length = s.size := by
  rw [strE, List.length_map, Array.length_toList]
  rfl
theorem strE_idx (ok : Nat → Prop) (w : World) (s : ByteArray) : IdxR ok w 1 (strE s) (Lib.strCells s) := by
  refine ⟨by rw [Lib.strCells_length, strE_length, Nat.mul_one], Lib.strCells_oneCell s, fun i e he => ?_⟩
  unfold strE at he
  rw [List.getElem?_map, Option.map_eq_some_iff] at he
  obtain ⟨b, hb, rfl⟩ := he
  refine ⟨rfl, fun j y hy => ?_⟩
  cases j with
  | zero =>
    cases hy
    exact ⟨.int .u8 b.toNat, by rw [Nat.mul_one, Nat.add_zero, Lib.strCells, List.getElem?_map, hb]; rfl, rfl⟩
  | succ j => simp at hy

/-- Appending a string's bytes onto a row of the call's own. -/
theorem run_app_str {P : Program} {t u ty e : TypeId} {i : TypeInfo} (ht : P.underlying t = some (.slice e)) (hu : P.underlying u = some .string) (hi : P.info? e = some i) {zv : Value} (hz : i.zero = some zv) (hzs : zv.cells.size = 1) (hsize : i.size = 1) (hby : i.bytes = 1)
    {w : World} {base : Nat} (hbase : base ≤ w.heap.size) {v : Value} {n : Nat} {xs : List Value} (hown : OwnsT w base e 1 v n xs) (s : ByteArray) (h63 : n + s.size ≤ maxLen) (hb : n + s.size ≤ 140737488355328) :
    ∃ v' w', (Builtin.append_ #[t, u] ty #[v, .string s]).run P w = .ok v' w' ∧ OwnsT w' base e 1 v' (n + s.size) (xs ++ Lib.strCells s) ∧ w.grownBy w' v.ownBlock ∧ ∀ b, v'.ownBlock = some b → v.ownBlock = some b ∨ w.heap.size ≤ b := by
  have hsmall : n + s.size ≤ 9223372036854775807 := by simp only [maxLen] at h63; omega
  have hxl : xs.length = n := by simpa using hown.1
  have hlen : (xs ++ Lib.strCells s).length = (n + s.size) * 1 := by rw [List.length_append, hxl, Lib.strCells_length, Nat.mul_one]
  have grown : ∀ (old : Nat), old < n + s.size → ∀ (row : Option Nat),
      OwnsT (w.drew.alloc (.cells (xs.toArray ++ (Lib.strCells s).toArray ++ Builtin.zeroCells zv.cells (grownCap w (n + s.size) old e - (n + s.size))) e)) base e 1
        (.slice (some ⟨w.heap.size, 0, none⟩) (n + s.size) (grownCap w (n + s.size) old e)) (n + s.size) (xs ++ Lib.strCells s) ∧
      w.grownBy (w.drew.alloc (.cells (xs.toArray ++ (Lib.strCells s).toArray ++ Builtin.zeroCells zv.cells (grownCap w (n + s.size) old e - (n + s.size))) e)) row := by
    intro old ho row
    have hge := grownCap_ge w (n + s.size) old e
    have hcm : grownCap w (n + s.size) old e ≤ maxLen := grownCap_le_maxLen w (n + s.size) old e h63
    refine ⟨⟨hlen, .inr ⟨w.heap.size, _, _, rfl, hbase, .plain (heap_alloc_new w.drew _), hge, hcm, ?_, ?_⟩⟩, ⟨rfl, rfl, rfl, by simp, fun k hk _ => heap_alloc_old w.drew _ hk⟩⟩
    · simp only [Array.size_append, List.size_toArray, size_zeroCells, hzs, hxl, Lib.strCells_length]
      omega
    · simp only [Array.toList_append, List.append_assoc]
      rw [← List.append_assoc, ← hlen]
      exact List.take_left
  rcases hown.2 with ⟨rfl, rfl⟩ | ⟨g, cap, cur, rfl, hbg, hg, hnc, hcm, hcs, htake⟩
  · have hx : xs = [] := List.eq_nil_of_length_eq_zero hxl
    subst hx
    by_cases hm : s.size = 0
    · have hn : Lib.strCells s = [] := List.eq_nil_of_length_eq_zero (by rw [Lib.strCells_length]; exact hm)
      refine ⟨.slice none 0 0, w, ?_, by rw [hm, hn]; exact OwnsT.nil w base e 1, ⟨rfl, rfl, rfl, Nat.le_refl _, fun _ _ _ => rfl⟩, fun b hb' => Or.inl hb'⟩
      have hf := Lib.run_firstCells_string (P := P) w 1 s
      rw [hm] at hf
      simp [Builtin.append_, run_underlying ht, run_underlying hu, sizeOf, typeInfo, hi, hsize, Builtin.lenOf, hm, hf]
    · have hr := run_append_nil_string (P := P) w t u ty e i zv ht hu hi hz s (by omega) (by omega) (by rw [hby]; omega)
      have hgr := grown 0 (by omega) (Value.ownBlock (.slice none 0 0))
      simp only [Nat.zero_add, List.nil_append, Array.empty_append] at hgr ⊢
      have e1 : (s.data.map fun b => Value.int .u8 b.toNat) = (Lib.strCells s).toArray := by
        apply Array.ext'
        simp [Lib.strCells]
      rw [e1] at hr
      exact ⟨_, _, hr, hgr.1, hgr.2, fun b hb' => by cases hb'; exact Or.inr (Nat.le_refl _)⟩
  · by_cases hroom : n + s.size ≤ cap
    · have hcs' : cur.size = cap := by simpa using hcs
      obtain ⟨fz, hg1, hfz⟩ := hg
      have hr := run_append_room_stringT (P := P) w (ty := ty) ht hu hi hsize g n cap cur fz hg1 hfz s hroom (by omega)
      have hz2 : (cur.toList.take n ++ Lib.strCells s ++ cur.toList.drop (n + s.size)).toArray.size = cur.size := by
        simp only [List.size_toArray, List.length_append, List.length_take, List.length_drop, Array.length_toList, Lib.strCells_length]
        omega
      refine ⟨_, _, hr, ⟨hlen, .inr ⟨g, cap, _, rfl, hbg, ⟨fz, setRow_heap w g cur _ e _ hg1, by rw [hz2]; exact hfz⟩, hroom, hcm, ?_, ?_⟩⟩, ⟨rfl, rfl, rfl, by simp, fun k _ hk => setRow_other w g k _ (fun e => hk (by simp [Value.ownBlock, e]))⟩, fun b hb' => Or.inl hb'⟩
      · simp only [List.size_toArray, List.length_append, List.length_take, List.length_drop, Array.length_toList, Lib.strCells_length]
        omega
      · have ht' : cur.toList.take n = xs := by simpa using htake
        rw [ht', ← hlen]
        exact List.take_left
    · have holds : ∀ j u, xs[j]? = some u → w.cell? ((⟨g, 0, none⟩ : Addr).add j) = some u := fun j u hj => by
        rw [add_plain, Nat.zero_add, hg.cell]
        have ht' : cur.toList.take n = xs := by simpa using htake
        rw [← ht', List.getElem?_take] at hj
        split at hj
        · simpa using hj
        · cases hj
      have hr := Lib.run_append_grow_string (P := P) w t u ty e i zv ht hu hi hz ⟨g, 0, none⟩ n cap xs (by rw [hsize]; simpa using hxl) holds s (by omega) (by omega) (by rw [hby]; exact growslice_fits (by omega) (by omega))
      have hgr := grown cap (by omega) (Value.ownBlock (.slice (some ⟨g, 0, none⟩) n cap))
      exact ⟨_, _, hr, hgr.1, hgr.2, fun b hb' => by cases hb'; exact Or.inr (Nat.le_refl _)⟩

theorem step_app_own_str {P : Program} {σ : AS} {dst : Option Tmp} {t e type : TypeId} {s x : Operand} {pos : String} {after : Array Edge} {guard : Option (Nat × Bool)} {tu : TypeId} {D E U : TD} (hU : td P tu = some U) (hstr : U.str = true) (hik : E.ik = some .u8) (hby : E.bytes = 1) (hD : td P t = some D) (he : D.elem = some e) (hE : td P e = some E) {z : List Value} (hz : E.zero = some z) (hzl : z.length = 1) (hsize : E.size = 1)
    {bs : ByteArray} (hx' : aev σ x = .c (.string bs)) {L n : Nat} (hs : aev σ s = .own L E.size n) (hrow : rowE σ.h L = some e) {p : Nat × List (List AV)} (hp : elemsA σ.h (.own L E.size n) = some p)
    (hb : n + bs.size ≤ 140737488355328) (h63 : n + bs.size ≤ 9223372036854775807) :
    OpOkS P σ ⟨dst, .call ⟨.builtin .append, #[s, x], #[t, tu]⟩, type, pos, after, guard⟩ (.own L E.size (n + bs.size)) [] [L] ((killH [] [L] σ.h).set L (some (.row e E.size (p.2 ++ strE bs)))) := by
  intro w0 ok0 m ok ρ w hx r
  have q1 := hx s (by simp [Op.operands, Call.operands])
  have q2 := hx x (by simp [Op.operands, Call.operands])
  rw [hs] at q1
  rw [hx'] at q2
  simp only [RepV] at q2
  have hi : IdxR ok w E.size (strE bs) (Lib.strCells bs) := by rw [hsize]; exact strE_idx ok w bs
  have hel : (strE bs).length = bs.size := strE_length bs
  obtain ⟨ob, hm, hov⟩ := q1
  unfold rowE at hrow
  split at hrow
  · rename_i ty st2 es2 hL
    cases hrow
    simp only [elemsA, hL] at hp
    split at hp
    · rename_i hcn
      obtain ⟨rfl, hn⟩ := hcn
      cases hp
      obtain ⟨uD, iD, huD, hiD, rfl⟩ := td_some hD
      obtain rfl := elemD_some he
      have hz0 : w0.heap.size ≤ w.heap.size := r.bel.size
      -- the row as it lay
      have hown : ∃ xs, OwnsT w 0 e E.size (ρ s) n xs ∧ IdxR ok w E.size (es2.take n) xs ∧ (ρ s).ownBlock = ob := by
        cases ob with
        | none =>
          obtain ⟨rfl, hv⟩ := hov
          refine ⟨[], ?_, ?_, by rw [hv]; rfl⟩
          · rw [hv]; exact OwnsT.nil w 0 e E.size
          · rw [List.take_zero]; exact IdxR.nil _ _ _
        | some b =>
          obtain ⟨cap', t', hv, hnc, hcm, hsh⟩ := hov
          obtain ⟨cs, hbk, hidx⟩ := (r.own L _ hL).idx hm hn
          have hcs : cs.size = cap' * E.size := by
            rw [hbk.shape] at hsh
            simp only [Option.some.injEq, Prod.mk.injEq] at hsh
            exact hsh.2
          refine ⟨cs.toList.take (n * E.size), ⟨?_, Or.inr ⟨b, cap', cs, hv, Nat.zero_le _, hbk, hnc, hcm, hcs, rfl⟩⟩, hidx, by rw [hv]; rfl⟩
          have := Nat.mul_le_mul_right E.size hnc
          rw [List.length_take, Array.length_toList (xs := cs), hcs, Nat.min_eq_left this]
      obtain ⟨xs, how, hidx, hob⟩ := hown
      obtain ⟨uU, iU, huU, hiU, rfl⟩ := td_some hU
      obtain rfl := strD_true hstr
      obtain ⟨uE, iE, huE, hiE, rfl⟩ := td_some hE
      simp only [Option.map_eq_some_iff] at hz
      obtain ⟨zv, hzv, rfl⟩ := hz
      simp only at hsize hby hidx how hi
      rw [hsize] at how
      obtain ⟨v', w', hrun, how', hgr, hblk⟩ := run_app_str (P := P) (ty := type) huD huU hiE hzv (by simpa using hzl) hsize hby (base := 0) (Nat.zero_le _) how bs (by unfold maxLen; omega) hb
      rw [← q2] at hrun
      rw [hob] at hgr hblk
      refine exec_value (append_run2 hrun) ?_
      have hle : n + bs.size = (es2.take n ++ strE bs).length := by rw [List.length_append, List.length_take, Nat.min_eq_left hn, hel]
      have hv' : OwnV w' iE.size (n + bs.size) v' v'.ownBlock := by
        rw [hsize]
        rcases how'.2 with ⟨h1, h2⟩ | ⟨g, cap2, cur, h1, _, h3, h4, h5, h6, h7⟩
        · rw [h1]; exact ⟨h2, rfl⟩
        · rw [h1]
          exact ⟨cap2, e, rfl, h4, h5, by rw [h3.shape]; simp [h6]⟩
      obtain ⟨g, r'⟩ := r.turn hL hm hgr (ob' := v'.ownBlock) (blk' := .row e iE.size (es2.take n ++ strE bs)) (fun b hb' => by
        refine ⟨?_, ?_⟩
        · exact hblk b hb'
        · rcases how'.2 with ⟨h1, h2⟩ | ⟨gg, cap2, cur, h1, _, h3, h4, h5, h6, h7⟩
          · rw [h1] at hb'; cases hb'
          · rw [h1] at hb'; cases hb'; exact h3.lt) (fun g => by
        have hmm : (m.set L v'.ownBlock)[L]? = some v'.ownBlock := by
          rw [List.getElem?_set, if_pos rfl, if_pos (List.getElem?_eq_some_iff.1 hm).1]
        rcases how'.2 with ⟨h1, h2⟩ | ⟨gg, cap2, cur, h1, _, h3, h4, h5, h6, h7⟩
        · rw [h1] at hmm ⊢
          exact ⟨none, hmm, List.eq_nil_of_length_eq_zero (by rw [← hle, h2])⟩
        · rw [h1] at hmm ⊢
          refine OwnB.of_idx hmm h3 ?_
          rw [← hle, hsize, h7]
          rw [hsize] at hidx hi
          exact (hidx.append hi).mono g.mo g.cells)
      refine ⟨_, ok, g, r', ⟨v'.ownBlock, ?_, hv'⟩⟩
      rw [List.getElem?_set, if_pos rfl, if_pos (List.getElem?_eq_some_iff.1 hm).1]
    · cases hp
  · cases hrow

theorem step_app_nil {P : Program} {σ : AS} {dst : Option Tmp} {t e type : TypeId} {s x : Operand} {pos : String} {after : Array Edge} {guard : Option (Nat × Bool)} {D E : TD} (hD : td P t = some D) (he : D.elem = some e) (hE : td P e = some E) {z : List Value} (hz : E.zero = some z) (hzl : z.length = E.size) (hsz : 0 < E.size)
    {es' : List (List AV)} (hx' : elemsN σ.h E.size (aev σ x) = some es') (hs : aev σ s = .nils) (hb : es'.length * E.bytes ≤ 140737488355328) (h63 : es'.length ≤ 9223372036854775807) :
    OpOkS P σ ⟨dst, .call ⟨.builtin .append, #[s, x], #[t, t]⟩, type, pos, after, guard⟩ (.own σ.h.length E.size es'.length) [] [] (σ.h ++ [some (.row e E.size es')]) := by
  intro w0 ok0 m ok ρ w hx r
  have q1 := hx s (by simp [Op.operands, Call.operands])
  have q2 := hx x (by simp [Op.operands, Call.operands])
  rw [hs] at q1
  simp only [RepV] at q1
  obtain ⟨A, cap, news, hxv, hi, hcell, hnil⟩ := elemsN_ok r.own hx' q2
  obtain ⟨uD, iD, huD, hiD, rfl⟩ := td_some hD
  obtain rfl := elemD_some he
  have how : OwnsT w w.heap.size e E.size (ρ s) 0 [] := by rw [q1]; exact OwnsT.nil w _ e E.size
  obtain ⟨v', w', hrun, how', hgr, hblk⟩ := run_app (P := P) (ty := type) huD hE hz hzl hsz (base := w.heap.size) (Nat.le_refl _) how (c := cap) hi.1 hcell (fun h => by rw [hnil h]; rfl) hi.2.1 (by unfold maxLen; omega) (by rw [Nat.zero_add]; exact hb)
  rw [← hxv] at hrun
  rw [Nat.zero_add, List.nil_append] at how'
  have hob : (ρ s).ownBlock = none := by rw [q1]; rfl
  rw [hob] at hgr
  refine exec_value (append_run hrun) ?_
  have hB : Below w.heap.size w w' := ⟨hgr.os, hgr.tape, hgr.output, hgr.size, fun k hk => hgr.block k hk (by simp)⟩
  have hv' : OwnV w' E.size es'.length v' v'.ownBlock := by
    rcases how'.2 with ⟨h1, h2⟩ | ⟨g, cap2, cur, h1, _, h3, h4, h5, h6, h7⟩
    · rw [h1]; exact ⟨h2, rfl⟩
    · rw [h1]
      exact ⟨cap2, e, rfl, h4, h5, by rw [h3.shape]; simp [h6]⟩
  have g := grow_new r hB v'.ownBlock
  have key : OwnB (m ++ [v'.ownBlock]) ok w' σ.h.length (.row e E.size es') := by
    have hmm : (m ++ [v'.ownBlock])[σ.h.length]? = some v'.ownBlock := mget_new r.len
    rcases how'.2 with ⟨h1, h2⟩ | ⟨gg, cap2, cur, h1, _, h3, h4, h5, h6, h7⟩
    · rw [h1] at hmm ⊢
      exact ⟨none, hmm, List.eq_nil_of_length_eq_zero h2⟩
    · rw [h1] at hmm ⊢
      refine OwnB.of_idx hmm h3 ?_
      rw [h7]
      exact hi.mono g.mo g.cells
  have r' := r.fresh hB v'.ownBlock (fun b hb' => by
    rcases how'.2 with ⟨h1, h2⟩ | ⟨gg, cap2, cur, h1, h2, h3, h4, h5, h6, h7⟩
    · rw [h1] at hb'; cases hb'
    · rw [h1] at hb'; cases hb'
      exact ⟨h2, h3.lt⟩) key
  exact ⟨_, ok, g, r', ⟨v'.ownBlock, mget_new r.len, hv'⟩⟩
end

-- part 13
section
open RowKit
theorem fillA_length (place : Nat → Option (Nat × Nat)) : ∀ (ps : List (Nat × AV)) (cs out : List AV), fillA place cs ps = some out → out.length = cs.length
  | [], cs, out, h => by simp [fillA] at h; rw [h]
  | (i, x) :: ps, cs, out, h => by
    unfold fillA at h
    split at h
    · cases h
    · split at h
      · rw [fillA_length place ps _ _ h, setAll_length]
      · cases h

theorem chunk_idx {m : List (Option Nat)} {ok : Nat → Prop} {w : World} {n st : Nat} {cs : List AV} {vs : List Value} (hr : RepL m ok w cs vs) (h1 : ∀ u ∈ vs, u.oneCell' = true) (hd : isDL cs = true) (hl : cs.length = n * st) : IdxR ok w st (chunk n st cs) vs := by
  refine ⟨by rw [hr.length, hl]; simp [chunk], h1, fun i e he => ?_⟩
  unfold chunk at he
  rw [List.getElem?_map, Option.map_eq_some_iff] at he
  obtain ⟨k, hk, rfl⟩ := he
  have hki : i < n ∧ k = i := by
    have := List.getElem?_eq_some_iff.1 hk
    obtain ⟨a, b⟩ := this
    simp at a b
    exact ⟨a, b.symm⟩
  obtain ⟨hi, rfl⟩ := hki
  have hlt : k * st + st ≤ n * st := by
    have := Nat.mul_le_mul_right st hi
    rw [Nat.succ_mul] at this
    exact this
  refine ⟨by rw [List.length_take, List.length_drop, hl]; omega, fun j y hy => ?_⟩
  rw [List.getElem?_take] at hy
  split at hy
  · rw [List.getElem?_drop] at hy
    obtain ⟨u, hu, hv⟩ := hr.get hy
    exact ⟨u, hu, isD_ok y (isDL_get hd hy) hv⟩
  · cases hy

theorem step_buildSlice {P : Program} {σ : AS} {dst : Option Tmp} {t e type : TypeId} {len : Nat} {parts : Array (Nat × Operand)} {pos : String} {after : Array Edge} {guard : Option (Nat × Bool)} {D E : TD} (hD : td P t = some D) (he : D.elem = some e) (hE : td P e = some E) {z : List Value} (hz : E.zero = some z) (h1 : z.all (·.oneCell') = true) (hzl : z.length = E.size) (hsz : 0 < E.size)
    (hle : len * E.size ≤ 16777216) (h63 : len ≤ 9223372036854775807) {cs : List AV} (hcs : fillA (fun i => some (i * E.size, E.size)) ((List.range (len * E.size)).map fun k => (z.map cvc)[k % E.size]?.getD .junk) (parts.toList.map fun p => (p.1, aev σ p.2)) = some cs) (hd : isDL cs = true) :
    OpOkS P σ ⟨dst, .buildSlice t len parts, type, pos, after, guard⟩ (.own σ.h.length E.size len) [] [] (σ.h ++ [some (.row e E.size (chunk len E.size cs))]) := by
  intro w0 ok0 m ok ρ w hx r
  obtain ⟨u, i, hu, hi, rfl⟩ := td_some hD
  have hE2 := hE
  obtain ⟨u2, i2, hu2, hi2, rfl⟩ := td_some hE
  obtain rfl := elemD_some he
  simp only [Option.map_eq_some_iff] at hz
  obtain ⟨zv, hzv, rfl⟩ := hz
  simp only at hzl hsz hle hcs
  have hzs : zv.cells.size = i2.size := by simpa using hzl
  have hsz2 : (madeCells zv.cells (len * i2.size)).size = len * i2.size := size_madeCells _ _
  have hinit : RepL m ok w ((List.range (len * i2.size)).map fun k => (zv.cells.toList.map cvc)[k % i2.size]?.getD .junk) (madeCells zv.cells (len * i2.size)).toList ∧ ∀ q ∈ (madeCells zv.cells (len * i2.size)).toList, q.oneCell' = true := by
    refine ⟨RepL.of (by simp [hsz2]) fun k x v hx hv => ?_, fun q hq => ?_⟩
    · rw [List.getElem?_map, Option.map_eq_some_iff] at hx
      obtain ⟨k', hk', rfl⟩ := hx
      have hk2 : k < len * i2.size ∧ k' = k := by
        obtain ⟨a, b⟩ := List.getElem?_eq_some_iff.1 hk'
        simp at a b
        exact ⟨a, b.symm⟩
      obtain ⟨hk, rfl⟩ := hk2
      rw [Array.getElem?_toList, madeCells_get _ _ _ hk (by omega)] at hv
      have hlt : k' % i2.size < zv.cells.size := by rw [hzs]; exact Nat.mod_lt _ hsz
      have e1 : (zv.cells.toList.map cvc)[k' % i2.size]? = some (cvc (zv.cells[k' % i2.size]'hlt)) := by
        rw [List.getElem?_map]
        simp [hlt]
      rw [e1]
      simp only [Option.getD_some]
      have e2 : v = zv.cells[k' % i2.size]'hlt := by
        have := Option.some.inj hv
        rw [← this]
        simp [hzs]
      rw [e2]
      exact cvc_rep _ _ _ _
    · obtain ⟨k, hk, rfl⟩ := List.getElem_of_mem hq
      have hk2 : k < len * i2.size := by simpa [hsz2] using hk
      have := madeCells_get zv.cells (len * i2.size) k hk2 (by omega)
      rw [Array.getElem?_eq_getElem (by omega)] at this
      have e3 := Option.some.inj this
      simp only [Array.getElem_toList]
      rw [e3]
      exact List.all_eq_true.1 h1 _ (by simp)
  obtain ⟨vs', hf, hl, hone⟩ := fillA_ok (m := m) (ok := ok) (w := w) _ _ ((parts.map fun (i, x) => (i, ρ x)).toList) _ (madeCells zv.cells (len * i2.size)) cs hcs hinit.1 hinit.2 (by simp) (fun i p q hp hq => by
    simp only [Array.toList_map, List.getElem?_map, Option.map_eq_some_iff] at hp hq
    obtain ⟨a, ha, rfl⟩ := hp
    obtain ⟨b, hb, rfl⟩ := hq
    rw [ha] at hb; cases hb
    exact ⟨rfl, hx _ (by simp [Op.operands]; exact ⟨_, by simpa using List.mem_of_getElem? ha⟩)⟩)
  have hlen : cs.length = len * i2.size := by rw [fillA_length _ _ _ _ hcs]; simp
  have hrun : (Instr.buildSlice t len (parts.map fun (i, x) => (i, ρ x))).run P w = .ok (.slice (some ⟨w.heap.size, 0, none⟩) len len) (w.alloc (.cells vs' e)) := by
    by_cases h0 : len * i2.size = 0
    · unfold Instr.buildSlice
      have hm : madeCells zv.cells (len * i2.size) = #[] := by rw [h0]; apply Array.eq_empty_of_size_eq_zero; exact size_madeCells _ _
      rw [hm] at hf
      have hf' : Instr.fill (fun i => some (i * i2.size, i2.size)) #[] (List.map (fun x => (x.fst, ρ x.snd)) parts.toList) = some vs' := by simpa using hf
      simp [run_underlying hu, sizeOf, typeInfo, hi2, h0, hf', newRow, Array.range_zero']
    · exact run_buildSlice w t e len _ vs' i2 zv hu hi2 hzv (by omega) h0 hf
  refine exec_value (w' := w.alloc (.cells vs' e)) (u := .slice (some ⟨w.heap.size, 0, none⟩) len len) (by simp only [execOp]; exact run_value' hrun) ?_
  have hvl : vs'.size = len * i2.size := by have := hl.length; simpa [hlen] using this
  have key : OwnB (m ++ [some w.heap.size]) ok (w.alloc (.cells vs' e)) σ.h.length (.row e i2.size (chunk len i2.size cs)) := by
    refine OwnB.of_idx (mget_new r.len) (.plain (heap_alloc_new w _)) ?_
    have e4 : (chunk len i2.size cs).length = len := by simp [chunk]
    rw [e4, List.take_of_length_le (by simp [hvl])]
    have g := grow_new r ((Below.refl w.heap.size w).alloc (Nat.le_refl _) (.cells vs' e)) (some w.heap.size)
    exact (chunk_idx hl hone hd hlen).mono g.mo g.cells
  obtain ⟨g, r'⟩ := r.alloc _ e key
  refine ⟨_, ok, g, r', ⟨some w.heap.size, mget_new r.len, len, e, rfl, Nat.le_refl _, by unfold maxLen; omega, ?_⟩⟩
  unfold World.shape?
  rw [heap_alloc_new]
  simp [hvl]

theorem bytesA_spec : ∀ {es : List (List AV)} {bs : List Int}, bytesA es = some bs → bs.length = es.length ∧ ∀ (i : Nat) b, bs[i]? = some b → es[i]? = some [.c (.int .u8 b)]
  | [], bs, h => by
    simp [bytesA] at h
    subst h
    exact ⟨rfl, fun i b h => by simp at h⟩
  | e :: es, bs, h => by
    unfold bytesA at h
    split at h
    · rename_i heq; cases heq
    · rename_i n r heq
      cases heq
      rw [Option.map_eq_some_iff] at h
      obtain ⟨l, hl, rfl⟩ := h
      obtain ⟨h1, h2⟩ := bytesA_spec hl
      refine ⟨by simp [h1], fun i b hb => ?_⟩
      cases i with
      | zero => simp at hb; simp [hb]
      | succ i => simpa using h2 i b (by simpa using hb)
    · cases h

theorem step_conv {P : Program} {σ : AS} {dst : Option Tmp} {s d type : TypeId} {x : Operand} {pos : String} {after : Array Edge} {guard : Option (Nat × Bool)} {y : AV} {K : AV → Prop} (hy : aev σ x = y) (h : convS P σ.h s d y K) : ∃ v, K v ∧ OpOkS P σ ⟨dst, .convert s d x, type, pos, after, guard⟩ v [] [] σ.h := by
  unfold convS at h
  have q_ := elO_ex h
  clear h
  obtain ⟨S, hS, h⟩ := q_
  have q_ := elO_ex h
  clear h
  obtain ⟨D, hD, hstr, h⟩ := q_
  have q_ := elO_ex h
  clear h
  obtain ⟨e, he, h⟩ := q_
  have q_ := elO_ex h
  clear h
  obtain ⟨E, hE, hik, h⟩ := q_
  have q_ := elO_ex h
  clear h
  obtain ⟨es, hes, h⟩ := q_
  have q_ := elO_ex h
  clear h
  obtain ⟨bs, hbs, h⟩ := q_
  refine ⟨_, h, OpOkP.full' (fun m ok ρ w hx ho => ⟨.string (bytesS bs), ?_, rfl⟩)⟩
  obtain ⟨u, i, hu, hi, rfl⟩ := td_some hS
  obtain ⟨u1, i1, hu1, hi1, rfl⟩ := td_some hD
  obtain ⟨u2, i2, hu2, hi2, rfl⟩ := td_some hE
  obtain rfl := elemD_some he
  obtain rfl := strD_true hstr
  obtain rfl := ikD_some hik
  have q := hx x (by simp [Op.operands])
  rw [hy] at q
  obtain ⟨A, cap, l, hv, hidx, hc, hn⟩ := elemsN_ok ho hes q
  obtain ⟨s1, s2⟩ := bytesA_spec hbs
  have hl : l = bs.map (Value.int .u8) := by
    apply List.ext_getElem?
    intro i
    rw [List.getElem?_map]
    rcases Nat.lt_or_ge i bs.length with hlt | hge
    · have hb : bs[i]? = some bs[i] := List.getElem?_eq_getElem hlt
      obtain ⟨_, k⟩ := hidx.2.2 i _ (s2 i _ hb)
      obtain ⟨u, k1, k2⟩ := k 0 _ rfl
      rw [hb]
      simp only [RepD] at k2
      rw [k2] at k1
      simpa using k1
    · rw [List.getElem?_eq_none hge, List.getElem?_eq_none (by rw [hidx.1]; omega)]
      rfl
  simp only [execOp, hv]
  refine run_value ?_
  cases A with
  | none =>
    obtain rfl := hn rfl
    obtain rfl : bs = [] := List.eq_nil_of_length_eq_zero (by simpa using s1)
    simp [convert, run_underlying hu, run_underlying hu1, run_underlying hu2, Conv.bytesToString, bytesS]
  | some a =>
    have hload := run_loadCells_list (P := P) w a l (fun j v hv => hc a rfl j v hv)
    rw [show l.length = es.length by rw [hidx.1, Nat.mul_one], hl] at hload
    have := run_bytesToString (P := P) w a es.length cap bs hload
    simp [convert, run_underlying hu, run_underlying hu1, run_underlying hu2, this, bytesS]

theorem step_mark {P : Program} {σ : AS} {dst : Option Tmp} {s type : TypeId} {x : Operand} {pos : String} {after : Array Edge} {guard : Option (Nat × Bool)} {L st n : Nat} (hx : aev σ x = .own L st n) {K : Prop} (h : convM P σ.h s L n K) : K ∧ OpOkS P σ ⟨dst, .convert s s x, type, pos, after, guard⟩ (.own L st n) [] [] σ.h := by
  unfold convM at h
  have q_ := elO_ex h
  clear h
  obtain ⟨S, hS, h⟩ := q_
  have q_ := elO_ex h
  clear h
  obtain ⟨e, he, h⟩ := q_
  have q_ := elO_ex h
  clear h
  obtain ⟨E, hE, hik, hn, h⟩ := q_
  have q_ := elO_ex h
  clear h
  obtain ⟨e', hrow, h⟩ := q_
  refine ⟨h, fun w0 ok0 m ok ρ w hxs r => ?_⟩
  have q := hxs x (by simp [Op.operands])
  rw [hx] at q
  obtain ⟨u, i, hu, hi, rfl⟩ := td_some hS
  obtain ⟨u2, i2, hu2, hi2, rfl⟩ := td_some hE
  obtain rfl := elemD_some he
  obtain rfl := ikD_some hik
  have qq := q
  obtain ⟨ob, hm, hv⟩ := q
  cases ob with
  | none => obtain ⟨h0, _⟩ := hv; omega
  | some b =>
    obtain ⟨cap, t', hv, hnc, hcm, hsh⟩ := hv
    unfold rowE at hrow
    split at hrow
    · rename_i ty st2 es2 hL
      obtain ⟨ob', hm', hr⟩ := r.own L _ hL
      rw [hm] at hm'; cases hm'
      obtain ⟨cs, ⟨fz, hb, hfz⟩, hl, hr⟩ := hr
      obtain ⟨fz', k1, k2, k3, k4⟩ := freeze_tail hb hfz
      have hrun := run_conv_mark (P := P) (s := s) hu hu2 (len := n) (cap := cap) hb
      obtain ⟨g, r'⟩ := r.write' hL hm hb (cs' := cs) rfl (blk' := .row ty st2 es2) k3 k1 k4 rfl rfl rfl fun w' g hw' => by
        refine ⟨some b, hm, cs, ⟨fz', hw', k2⟩, hl, fun i x hx => ⟨(hr i x hx).1, fun j y hy => ?_⟩⟩
        obtain ⟨u, hu, h1, hd⟩ := (hr i x hx).2 j y hy
        exact ⟨u, hu, h1, RepD.mono g.mo g.cells y hd⟩
      rw [show σ.h.set L (some (.row ty st2 es2)) = σ.h by
        apply List.ext_getElem?
        intro k
        rw [List.getElem?_set]
        split
        · rename_i e
          subst e
          rw [if_pos (List.getElem?_eq_some_iff.1 hL).1, hL]
        · rfl] at r'
      refine exec_value (u := ρ x) (w' := w.freeze ⟨b, cs.size, none⟩ 1) ?_ ⟨m, ok, g, r', RepV.mono g _ qq⟩
      simp only [execOp, hv]
      exact run_value' hrun
    · cases hrow

theorem astep_ok {P : Program} {σ : AS} {o : Oper} {K : AV → Heap → List Nat → Heap → Prop} (h : astep P σ o K) : ∃ v hk ks h', K v hk ks h' ∧ OpOkS P σ o v hk ks h' := by
  obtain ⟨dst, op, type, pos, after, guard⟩ := o
  unfold astep astepO at h
  simp only at h
  split at h
  · have q_ := elO_ex h
    clear h
    obtain ⟨D, hD, h⟩ := q_
    have q_ := elO_ex h
    clear h
    obtain ⟨z, hz, h1, h⟩ := q_
    exact ⟨_, _, _, _, h, step_alloc hD hz h1⟩
  · unfold convA at h
    split at h
    · obtain ⟨v, hK, hv⟩ := apure_ok (o := ⟨dst, _, type, pos, after, guard⟩) (show apure P σ _ _ from h)
      exact ⟨v, [], [], σ.h, hK, hv.full'⟩
    · rename_i heq
      split at h
      · rename_i e
        subst e
        obtain ⟨hK, hv⟩ := step_mark heq h
        exact ⟨_, [], [], σ.h, hK, hv⟩
      · obtain ⟨v, hK, hv⟩ := step_conv heq h
        exact ⟨v, [], [], σ.h, hK, hv⟩
    · rename_i heq
      obtain ⟨v, hK, hv⟩ := step_conv heq h
      exact ⟨v, [], [], σ.h, hK, hv⟩
    · exact h.elim
  · obtain ⟨hc, h⟩ := h
    exact ⟨_, _, _, _, h, step_box hc⟩
  · have q_ := elO_ex h
    clear h
    obtain ⟨D, hD, hc, hl, h⟩ := q_
    obtain ⟨h', hK, hs⟩ := step_store hD hc hl h
    exact ⟨_, _, _, _, hK, hs⟩
  · have q_ := elO_ex h
    clear h
    obtain ⟨D, hD, h⟩ := q_
    have q_ := elO_ex h
    clear h
    obtain ⟨e, he, h⟩ := q_
    have q_ := elO_ex h
    clear h
    obtain ⟨E, hE, h⟩ := q_
    have q_ := elO_ex h
    clear h
    obtain ⟨z, hz, h1, hzl, hsz, h⟩ := q_
    split at h
    · rename_i k a k' b hl hc
      obtain ⟨h0, hab, hby, h63, h⟩ := h
      exact ⟨_, _, _, _, h, step_make hD he hE hz h1 hzl hsz hl hc h0 hab hby h63⟩
    · exact h.elim
  · have q_ := elO_ex h
    clear h
    obtain ⟨D, hD, h⟩ := q_
    have q_ := elO_ex h
    clear h
    obtain ⟨e, he, h⟩ := q_
    have q_ := elO_ex h
    clear h
    obtain ⟨E, hE, h⟩ := q_
    have q_ := elO_ex h
    clear h
    obtain ⟨z, hz, h1, hzl, hsz, hle, h63, h⟩ := q_
    have q_ := elO_ex h
    clear h
    obtain ⟨cs, hcs, hd, h⟩ := q_
    exact ⟨_, _, _, _, h, step_buildSlice hD he hE hz h1 hzl hsz hle h63 hcs hd⟩
  · split at h
    · rename_i args ats s x t t' hargs hats
      unfold appA at h
      split at h
      · rename_i bs hbs
        unfold appS at h
        have q_ := elO_ex h
        clear h
        obtain ⟨U, hU, hstr, h⟩ := q_
        have q_ := elO_ex h
        clear h
        obtain ⟨D, hD, h⟩ := q_
        have q_ := elO_ex h
        clear h
        obtain ⟨e, he, h⟩ := q_
        have q_ := elO_ex h
        clear h
        obtain ⟨E, hE, hik, hsize, hby, h⟩ := q_
        have q_ := elO_ex h
        clear h
        obtain ⟨z, hz, hzl, h⟩ := q_
        obtain rfl := args2 hargs
        obtain rfl := ats2 hats
        split at h
        · rename_i L st n hs
          obtain ⟨rfl, hrow, h⟩ := h
          have q_ := elO_ex h
          clear h
          obtain ⟨p, hp, hb, h⟩ := q_
          have := step_app_own_str (P := P) (σ := σ) (dst := dst) (type := type) (pos := pos) (after := after) (guard := guard) (s := s) (x := x) hU hstr hik hby hD he hE hz hzl hsize hbs (L := L) (n := n) (p := p) (by rw [hsize]; exact hs) hrow (by rw [hsize]; exact hp) hb (by omega)
          rw [hsize] at this
          exact ⟨_, _, _, _, h, this⟩
        · exact h.elim
      unfold appV at h
      obtain ⟨rfl, h⟩ := h
      have q_ := elO_ex h
      clear h
      obtain ⟨D, hD, h⟩ := q_
      have q_ := elO_ex h
      clear h
      obtain ⟨e, he, h⟩ := q_
      have q_ := elO_ex h
      clear h
      obtain ⟨E, hE, h⟩ := q_
      have q_ := elO_ex h
      clear h
      obtain ⟨z, hz, hzl, hsz, h⟩ := q_
      have q_ := elO_ex h
      clear h
      obtain ⟨es', hx', h⟩ := q_
      obtain rfl := args2 hargs
      obtain rfl := ats2 hats
      split at h
      · rename_i L st n hs
        obtain ⟨rfl, hrow, h⟩ := h
        have q_ := elO_ex h
        clear h
        obtain ⟨p, hp, hb, h63, h⟩ := q_
        exact ⟨_, _, _, _, h, step_app_own hD he hE hz hzl hsz hx' hs hrow hp hb h63⟩
      · rename_i hs
        obtain ⟨hb, h63, h⟩ := h
        exact ⟨_, _, _, _, h, step_app_nil hD he hE hz hzl hsz hx' hs hb h63⟩
      · exact h.elim
    · exact h.elim
  · split at h
    · rename_i g cap hf
      have q_ := elO_ex h
      clear h
      obtain ⟨ds, hds, res, hm, h⟩ := q_
      split at h
      · rename_i hc
        exact ⟨_, _, _, _, h, step_call hf hds hm _ _ _ (by rw [if_pos hc]; exact ⟨rfl, rfl, rfl⟩)⟩
      · rename_i hc
        exact ⟨_, _, _, _, h, step_call hf hds hm _ _ _ (by rw [if_neg hc]; exact ⟨rfl, rfl, rfl⟩)⟩
    · exact h.elim
  · exact h.elim
end

-- part 14
section
open RowKit
def pureOp : Op → Bool
  | .move _ | .assign _ | .pick .. | .extract .. | .binOp .. | .unOp .. | .fieldAddr .. | .indexAddr .. | .index .. | .load .. | .makeFunc .. | .build .. | .slice .. => true
  | .call ⟨.builtin .len, _, _⟩ => true
  | _ => false

/-- Operations that turn no memory of the call's. -/
def keepOp : Op → Bool
  | .alloc _ | .box .. | .store .. | .makeSlice .. | .buildSlice .. => false
  | .call ⟨.builtin .append, _, _⟩ => false
  | _ => true

def AS.upd (σ : AS) (dst : Option Tmp) (v : AV) (hk : Heap) (ks : List Nat) (h' : Heap) : AS :=
  match dst with
  | none => ⟨σ.n, killT hk ks σ.t, h'⟩
  | some d => ⟨σ.n, (d, v) :: killT hk ks σ.t, h'⟩

def yieldA (ops : Array Oper) (σ : AS) (j : Nat) : AV :=
  match (ops[j]?).bind (·.dst) with
  | some d => slot σ.t d
  | none => .junk

def putK (σ : AS) (dst : Option Tmp) (K : AS → Prop) (v : AV) : Prop := K (σ.put dst v)
def updK (σ : AS) (dst : Option Tmp) (K : AS → Prop) (v : AV) (hk : Heap) (ks : List Nat) (h' : Heap) : Prop := K (σ.upd dst v hk ks h')
/-- Of a region that draws its order: no operation turns memory that the call knows. -/
def updD (σ : AS) (dst : Option Tmp) (K : AS → Prop) (v : AV) (hk : Heap) (ks : List Nat) (h' : Heap) : Prop := hk = [] ∧ ks = [] ∧ h' = σ.h ∧ K (σ.put dst v)

def isCallV : Op → Bool
  | .call ⟨.value _, _, _⟩ => true
  | _ => false

/-- A call, whatever it does to what is known of the call's memory. -/
def CallS (P : Program) (σ : AS) (dst : Option Tmp) (g : FuncId) (xs : List AV) (K : AS → Prop) : Prop :=
  Proofs.Enters P g ∧ ∀ (w0 : World) (ok0 : Nat → Prop) (m : List (Option Nat)) (ok : Nat → Prop) (ρ : Nat → Value) (w : World) (vs : List Value), RepL m ok w xs vs → (∀ i, RepV m ok w (slot σ.t i) (ρ i)) → HRel w0 ok0 m ok σ.h w →
    Calls P g vs.toArray w fun e w' => ∃ v σ' m' ok', e = .returned v ∧ σ'.n = σ.n ∧ K σ' ∧ HRel w0 ok0 m' ok' σ'.h w' ∧ ∀ i, RepV m' ok' w' (slot σ'.t i) (if dst = some i then v else ρ i)

def callV (P : Program) (σ : AS) (dst : Option Tmp) (xs : List AV) (K : AS → Prop) : AV → Prop
  | .fn g cap => CallS P σ dst g (xs ++ cap) K
  | _ => False
def callW (P : Program) (σ : AS) (dst : Option Tmp) (K : AS → Prop) : Op → Prop
  | .call ⟨.value f, args, _⟩ => callV P σ dst (args.toList.map (aev σ)) K (aev σ f)
  | _ => False

def awpOp (P : Program) (σ : AS) (o : Oper) (K : AS → Prop) : Prop :=
  if pureOp o.op = true then apureO P σ o.op (putK σ o.dst K) else if isCallV o.op = true then callW P σ o.dst K o.op else astepO P σ o.op (updK σ o.dst K)
/-- A call in a region that draws its order. -/
def CallD (P : Program) (σ : AS) (dst : Option Tmp) (g : FuncId) (xs : List AV) (K : AS → Prop) : Prop :=
  ∃ ds res, toDL σ.h xs = some ds ∧ Meets P g ds res ∧ (flat res || (ownsL xs).isEmpty) = true ∧ K (σ.put dst res)
def callVD (P : Program) (σ : AS) (dst : Option Tmp) (xs : List AV) (K : AS → Prop) : AV → Prop
  | .fn g cap => CallD P σ dst g (xs ++ cap) K
  | _ => False
def callWD (P : Program) (σ : AS) (dst : Option Tmp) (K : AS → Prop) : Op → Prop
  | .call ⟨.value f, args, _⟩ => callVD P σ dst (args.toList.map (aev σ)) K (aev σ f)
  | _ => False
def awpOpD (P : Program) (σ : AS) (o : Oper) (K : AS → Prop) : Prop :=
  if pureOp o.op = true then apureO P σ o.op (putK σ o.dst K) else if isCallV o.op = true then callWD P σ o.dst K o.op else astepO P σ o.op (updD σ o.dst K)

/-- An operation that may be passed over. -/
def guardA (A : AS → (AS → Prop) → Prop) (K : AS → Prop) (dst : Option Tmp) (want : Bool) (v : AV) (σ : AS) : Prop :=
  match v with
  | .c (.bool b) => (b = want → A σ K) ∧ (b = (!want) → K (σ.put dst .junk))
  | _ => False

def awpO (P : Program) (o : Oper) (σ : AS) (K : AS → Prop) : Prop := awpOp P σ o K
def awpOD (P : Program) (o : Oper) (σ : AS) (K : AS → Prop) : Prop := awpOpD P σ o K

def awpOps (P : Program) (ops : Array Oper) (K : AS → Prop) : List Oper → AS → Prop
  | [], σ => K σ
  | o :: rest, σ => match o.guard with
    | none => awpOp P σ o (awpOps P ops K rest)
    | some (j, want) => guardA (awpO P o) (awpOps P ops K rest) o.dst want (yieldA ops σ j) σ

def awpOpsD (P : Program) (ops : Array Oper) (K : AS → Prop) : List Oper → AS → Prop
  | [], σ => K σ
  | o :: rest, σ => if keepOp o.op = true then (match o.guard with
    | none => awpOpD P σ o (awpOpsD P ops K rest)
    | some (j, want) => guardA (awpOD P o) (awpOpsD P ops K rest) o.dst want (yieldA ops σ j) σ) else awpOps P ops K (o :: rest) σ

inductive AX where
  | norm
  | ret
  | exit (id : Nat)

def Weak (t t' : List (Nat × AV)) : Prop :=
  match t' with
  | [] => True
  | (i, v) :: r => slot t i = v ∧ Weak t r

def WeakH : Heap → Heap → Prop
  | _, [] => True
  | [], _ :: _ => False
  | a :: r, b :: r' => (b = none ∨ a = b) ∧ WeakH r r'

def loopQ (Q : AX → AS → Prop) (K : AS → Prop) : AX → AS → Prop
  | .norm, σ => K σ
  | .ret, σ => Q .ret σ
  | .exit id, σ => Q (.exit id) σ
def seqQ (B : (AX → AS → Prop) → AS → Prop) (Q : AX → AS → Prop) : AX → AS → Prop
  | .norm, σ => B Q σ
  | .ret, σ => Q .ret σ
  | .exit id, σ => Q (.exit id) σ
def blkQ (id : Nat) (Q : AX → AS → Prop) : AX → AS → Prop
  | .norm, σ => Q .norm σ
  | .ret, σ => Q .ret σ
  | .exit id', σ => if id' = id then Q .norm σ else Q (.exit id') σ
def condA (A B : (AX → AS → Prop) → AS → Prop) (Q : AX → AS → Prop) (v : AV) (σ : AS) : Prop :=
  match v with
  | .c (.bool t) => (t = true → A Q σ) ∧ (t = false → B Q σ)
  | _ => False

mutual
/-- No block from k on is named. -/
def refsV (k : Nat) : AV → Bool
  | .ptr L _ => decide (L < k)
  | .rp L _ _ => decide (L < k)
  | .own L _ _ => decide (L < k)
  | .agg xs => refsL k xs
  | .tup xs => refsL k xs
  | .fn _ xs => refsL k xs
  | .junk => true
  | .c _ => true
  | .nils => true
  | .sl _ _ _ => true
  | .dptr _ => true
def refsL (k : Nat) : List AV → Bool
  | [] => true
  | x :: xs => refsV k x && refsL k xs
end
def refsT (k : Nat) : List (Nat × AV) → Bool
  | [] => true
  | (_, x) :: r => refsV k x && refsT k r
def refsH (k : Nat) : Heap → Bool
  | [] => true
  | some (.var _ cs) :: r => refsL k cs && refsH k r
  | _ :: r => refsH k r
/-- The last blocks may be forgotten where nothing names them. -/
def HW (h : Heap) (σ : AS) : Prop := h = σ.h ∨ (h.take σ.h.length = σ.h ∧ refsT σ.h.length σ.t = true ∧ refsH σ.h.length σ.h = true)

/-- A loop: what is known at its head, for one of many a's. -/
def LoopA (B : (AX → AS → Prop) → AS → Prop) (Q : AX → AS → Prop) (σ : AS) : Prop :=
  ∃ (α : Type) (I : α → Prop) (st : α → AS) (μ : α → Nat), (∃ a, I a ∧ Weak σ.t (st a).t ∧ σ.n = (st a).n ∧ HW σ.h (st a)) ∧ ∀ a, I a → B (loopQ Q fun σ' => ∃ a', I a' ∧ μ a' < μ a ∧ Weak σ'.t (st a').t ∧ σ'.n = (st a').n ∧ HW σ'.h (st a')) (st a)

def awp (P : Program) : Code → (AX → AS → Prop) → AS → Prop
  | .skip, Q, σ => Q .norm σ
  | .region _ ops false, Q, σ => awpOps P ops (Q .norm) ops.toList σ
  | .region _ ops true, Q, σ => awpOpsD P ops (Q .norm) ops.toList σ
  | .seq a b, Q, σ => awp P a (seqQ (awp P b) Q) σ
  | .cond c a b, Q, σ => condA (awp P a) (awp P b) Q (aev σ c) σ
  | .block id a, Q, σ => awp P a (blkQ id Q) σ
  | .loop a, Q, σ => LoopA (awp P a) Q σ
  | .exit id, Q, σ => Q (.exit id) σ
  | .ret, Q, σ => Q .ret σ
  | .label _, Q, σ => Q .norm σ
  | _, _, _ => False

/-- The slots of the call, and behind them those of its callers. -/
def valX (ρx : Nat → Value) (n : Nat) (a : Act) (i : Nat) : Value := if i < n then a.tmps.getD i undef else ρx i

/-- What a walk knows of a state. -/
def RelS (w0 : World) (ok0 : Nat → Prop) (ρx : Nat → Value) (σ : AS) (a : Act) (w : World) : Prop :=
  ∃ m ok, a.defers = [] ∧ a.tmps.size = σ.n ∧ (∀ i, RepV m ok w (slot σ.t i) (valX ρx σ.n a i)) ∧ HRel w0 ok0 m ok σ.h w

def opLt (n : Nat) : Operand → Bool
  | .tmp t => decide (t < n)
  | _ => true

theorem aev_ok {ρx : Nat → Value} {m : List (Option Nat)} {ok : Nat → Prop} {w : World} {σ : AS} {a : Act} (ht : ∀ i, RepV m ok w (slot σ.t i) (valX ρx σ.n a i)) {x : Operand} (hx : opLt σ.n x = true) : RepV m ok w (aev σ x) (a.eval x) := by
  cases x with
  | tmp t =>
    have := ht t
    unfold valX at this
    rw [if_pos (by simpa [opLt] using hx)] at this
    exact this
  | const v => exact cv_rep m ok w v
  | global g => trivial
  | func f => exact ⟨#[], rfl, rfl⟩

theorem wp_of_exec {P : Program} {o : Oper} {a : Act} {w : World} {Post : Value → World → Prop} {next : Act → World → Prop} {Q : Exit → Act → World → Prop} (h : ExecOk P a.eval o w Post) (hn : ∀ u w', Post u w' → next (a.put o.dst u) w') : o.wp P a w next Q := by
  unfold ExecOk at h
  unfold Oper.wp
  split at h
  · rename_i u w' hr
    rw [hr]
    exact hn u w' h
  · rename_i w' hr
    rw [hr]
    exact hn undef w' h
  · rename_i f args w' hr
    rw [hr]
    exact h.mono fun e w'' hp => by
      obtain ⟨v, rfl, hp⟩ := hp
      exact hn v w'' hp
  · exact h.elim

theorem put_size (a : Act) (dst : Option Tmp) (v : Value) : (a.put dst v).tmps.size = a.tmps.size := by
  cases dst <;> simp [Act.put]
theorem put_defers (a : Act) (dst : Option Tmp) (v : Value) : (a.put dst v).defers = a.defers := by
  cases dst <;> rfl

def dstLt (n : Nat) : Option Tmp → Bool
  | none => true
  | some d => decide (d < n)

/-- The slots that an operation names are the call's own. -/
def opsLt (n : Nat) (o : Oper) : Bool := dstLt n o.dst && o.op.operands.all (opLt n)

theorem put_get {a : Act} {n d : Nat} (hs : a.tmps.size = n) (hd : d < n) (v : Value) (i : Nat) : (a.put (some d) v).tmps.getD i undef = if d = i then v else a.tmps.getD i undef := by
  simp only [Act.put, Array.getD_eq_getD_getElem?, Array.getElem?_setIfInBounds]
  split
  · rename_i e
    subst e
    rw [if_pos (by omega)]
    rfl
  · rfl

theorem valX_put {ρx : Nat → Value} {a : Act} {n : Nat} (hs : a.tmps.size = n) {dst : Option Tmp} (hd : dstLt n dst = true) (v : Value) (i : Nat) : valX ρx n (a.put dst v) i = if dst = some i then v else valX ρx n a i := by
  cases dst with
  | none => rw [if_neg (by simp)]; rfl
  | some d =>
    have hd' : d < n := by simpa [dstLt] using hd
    unfold valX
    rw [put_get hs hd']
    by_cases e : d = i
    · subst e
      rw [if_pos hd', if_pos rfl, if_pos rfl]
    · rw [if_neg e, if_neg (fun h => e (Option.some.inj h))]

theorem slot_upd {m m' : List (Option Nat)} {ok ok' : Nat → Prop} {w w' : World} {σ : AS} {dst : Option Tmp} {v : AV} {u : Value} {hk : Heap} {ks : List Nat} {h' : Heap} {ρ : Nat → Value} (ht : ∀ i, RepV m ok w (slot σ.t i) (ρ i)) (g : Grow hk ks m ok w m' ok' w') (hv : RepV m' ok' w' v u) (i : Nat) : RepV m' ok' w' (slot (σ.upd dst v hk ks h').t i) (if dst = some i then u else ρ i) := by
  cases dst with
  | none => rw [if_neg (by simp)]; exact killT_look g σ.t i (ht i)
  | some d =>
    show RepV m' ok' w' (if d = i then v else slot (killT hk ks σ.t) i) _
    by_cases e : d = i
    · rw [if_pos e, if_pos (by rw [e])]; exact hv
    · rw [if_neg e, if_neg (fun h => e (Option.some.inj h))]; exact killT_look g σ.t i (ht i)

theorem rel_upd {w0 : World} {ok0 : Nat → Prop} {ρx : Nat → Value} {m m' : List (Option Nat)} {ok ok' : Nat → Prop} {σ : AS} {a : Act} {w w' : World} {dst : Option Tmp} {v : AV} {u : Value} {hk : Heap} {ks : List Nat} {h' : Heap} (hdf : a.defers = []) (hs : a.tmps.size = σ.n) (hd : dstLt σ.n dst = true)
    (ht : ∀ i, RepV m ok w (slot σ.t i) (valX ρx σ.n a i)) (g : Grow hk ks m ok w m' ok' w') (r : HRel w0 ok0 m' ok' h' w') (hv : RepV m' ok' w' v u) : RelS w0 ok0 ρx (σ.upd dst v hk ks h') (a.put dst u) w' := by
  have hn : (σ.upd dst v hk ks h').n = σ.n := by cases dst <;> rfl
  refine ⟨m', ok', by rw [put_defers]; exact hdf, by rw [put_size, hs, hn], fun i => ?_, by cases dst <;> exact r⟩
  rw [hn, valX_put hs hd]
  exact slot_upd ht g hv i

theorem put_eq_upd (σ : AS) (dst : Option Tmp) (v : AV) : σ.put dst v = σ.upd dst v [] [] σ.h := by
  cases dst <;> rfl

/-- What an operation leads to. -/
def StepW (P : Program) (σ : AS) (o : Oper) (K : AS → Prop) : Prop :=
  ∀ (w0 : World) (ok0 : Nat → Prop) (ρx : Nat → Value) (a : Act) (w : World), opsLt σ.n o = true → RelS w0 ok0 ρx σ a w → ExecOk P a.eval o w (fun u w' => ∃ σ', σ'.n = σ.n ∧ K σ' ∧ RelS w0 ok0 ρx σ' (a.put o.dst u) w')

theorem ExecOk.mono {P : Program} {ρ : Operand → Value} {o : Oper} {w : World} {A B : Value → World → Prop} (h : ExecOk P ρ o w A) (hm : ∀ u w', A u w' → B u w') : ExecOk P ρ o w B := by
  unfold ExecOk at *
  split at h
  · exact hm _ _ h
  · exact hm _ _ h
  · exact h.mono fun e w'' ⟨v, he, hv⟩ => ⟨v, he, hm _ _ hv⟩
  · exact h.elim

theorem step_of {P : Program} {σ : AS} {o : Oper} {K : AS → Prop} {v : AV} {hk : Heap} {ks : List Nat} {h' : Heap} (hK : K (σ.upd o.dst v hk ks h')) (hop : OpOkS P σ o v hk ks h') : StepW P σ o K := by
  intro w0 ok0 ρx a w hlt hr
  obtain ⟨m, ok, hdf, hs, ht, r⟩ := hr
  simp only [opsLt, Bool.and_eq_true] at hlt
  refine (hop w0 ok0 m ok a.eval w (fun x hx => aev_ok ht (Array.all_eq_true_iff_forall_mem.1 hlt.2 x hx)) r).mono fun u w' hp => ?_
  obtain ⟨m', ok', g, r', hv⟩ := hp
  exact ⟨_, by cases o.dst <;> rfl, hK, rel_upd hdf hs hlt.1 ht g r' hv⟩

theorem awpOp_ok {P : Program} {σ : AS} {o : Oper} {K : AS → Prop} (h : awpOp P σ o K) : StepW P σ o K := by
  unfold awpOp at h
  split at h
  · obtain ⟨v, hK, hv⟩ := apure_ok (show apure P σ o _ from h)
    exact step_of (hk := []) (ks := []) (h' := σ.h) (by rw [← put_eq_upd]; exact hK) hv.full'
  · split at h
    · obtain ⟨dst, op, type, pos, after, guard⟩ := o
      unfold callW at h
      split at h
      · rename_i f args ats heq
        simp only at heq
        subst heq
        unfold callV at h
        split at h
        · rename_i g cap hf
          intro w0 ok0 ρx a w hlt hr
          obtain ⟨m, ok, hdf, hs, ht, r⟩ := hr
          simp only [opsLt, Bool.and_eq_true] at hlt
          have hx : ∀ x ∈ (Op.call ⟨.value f, args, ats⟩).operands, RepV m ok w (aev σ x) (a.eval x) := fun x hx => aev_ok ht (Array.all_eq_true_iff_forall_mem.1 hlt.2 x hx)
          have q1 := hx f (by simp [Op.operands, Call.operands])
          rw [hf] at q1
          obtain ⟨vc, hv, hcap⟩ := q1
          have hargs : RepL m ok w (args.toList.map (aev σ)) (args.map a.eval).toList := by
            refine RepL.of (by simp) fun i p q h1 h2 => ?_
            simp only [List.getElem?_map, Array.toList_map, Option.map_eq_some_iff] at h1 h2
            obtain ⟨z, h1, rfl⟩ := h1
            obtain ⟨z', h2, rfl⟩ := h2
            rw [h1] at h2; cases h2
            exact hx z (by simp [Op.operands, Call.operands]; exact Or.inr (by simpa using List.mem_of_getElem? h1))
          have hrun : (execOp a.eval ⟨dst, .call ⟨.value f, args, ats⟩, type, pos, after, guard⟩).run P w = .ok (.enter g ((args.map a.eval).toList ++ vc.toList).toArray) w := by
            have e1 : ((args.map a.eval).toList ++ vc.toList).toArray = args.map a.eval ++ vc := by
              apply Array.ext'
              simp
            rw [e1]
            simp only [execOp, resolve, hv, Deferred.ofValue, Sem.run_bind, Sem.run_pure, Result.andThen_ok, invoke, Array.empty_append]
            exact h.1 _ w
          unfold ExecOk
          rw [hrun]
          refine (h.2 w0 ok0 m ok (valX ρx σ.n a) w _ (hargs.append hcap) ht r).mono fun e w' hp => ?_
          obtain ⟨v, σ', m', ok', he, hn, hK, r', ht'⟩ := hp
          refine ⟨v, he, σ', hn, hK, m', ok', by rw [put_defers]; exact hdf, by rw [put_size, hs, hn], fun i => ?_, r'⟩
          rw [hn, valX_put hs hlt.1]
          exact ht' i
        · exact h.elim
      · exact h.elim
    · obtain ⟨v, hk, ks, h', hK, hop⟩ := astep_ok (show astep P σ o _ from h)
      exact step_of hK hop

theorem yield_ok {ρx : Nat → Value} {m : List (Option Nat)} {ok : Nat → Prop} {w : World} {ops : Array Oper} {σ : AS} {a : Act} (ht : ∀ i, RepV m ok w (slot σ.t i) (valX ρx σ.n a i)) (hall : ∀ (j : Nat) o, ops[j]? = some o → dstLt σ.n o.dst = true) {j : Nat} {b : Bool} (h : yieldA ops σ j = .c (.bool b)) : yielded ops a.tmps j = some b := by
  unfold yieldA at h
  unfold yielded
  split at h
  · rename_i d hd
    have hdn : d < σ.n := by
      rw [Option.bind_eq_some_iff] at hd
      obtain ⟨o, h1, h2⟩ := hd
      have := hall j o h1
      rw [h2] at this
      simpa [dstLt] using this
    have := ht d
    unfold valX at this
    rw [if_pos hdn] at this
    rw [h] at this
    simp only [RepV] at this
    rw [hd]
    simp only [Option.bind_some]
    have hne : a.tmps[d]? = some (.bool b) := by
      rw [Array.getD_eq_getD_getElem?] at this
      cases hq : a.tmps[d]? with
      | none => rw [hq] at this; simp [undef] at this
      | some x => rw [hq] at this; simp at this; rw [this]
    rw [hne]
  · cases h

theorem awpOps_ok {P : Program} {ops : Array Oper} {w0 : World} {ok0 : Nat → Prop} {ρx : Nat → Value} {K : AS → Prop} {Q : Exit → Act → World → Prop} {n : Nat} (hall : ∀ (j : Nat) o, ops[j]? = some o → dstLt n o.dst = true) (hQ : ∀ σ a w, σ.n = n → K σ → RelS w0 ok0 ρx σ a w → Q .normal a w) : ∀ (l : List Oper) (σ : AS) (a : Act) (w : World), σ.n = n → (∀ o ∈ l, opsLt n o = true) → awpOps P ops K l σ → RelS w0 ok0 ρx σ a w → wpList P ops Q l a w
  | [], σ, a, w, hn, _, h, hr => hQ σ a w hn h hr
  | o :: rest, σ, a, w, hn, hd, h, hr => by
    have hr0 := hr
    obtain ⟨m, ok, hdf, hs, ht, r⟩ := hr
    have hdo : opsLt σ.n o = true := by rw [hn]; exact hd o (by simp)
    have ih := awpOps_ok (P := P) (ops := ops) hall hQ rest
    have hr' : ∀ o' ∈ rest, opsLt n o' = true := fun o' ho => hd o' (by simp [ho])
    have go : awpOp P σ o (awpOps P ops K rest) → o.wp P a w (wpList P ops Q rest) Q := fun h => by
      refine wp_of_exec (awpOp_ok h w0 ok0 ρx a w hdo hr0) fun u w' hp => ?_
      obtain ⟨σ', hn', hK, hrel⟩ := hp
      exact ih _ _ _ (hn'.trans hn) hr' hK hrel
    unfold awpOps at h
    unfold wpList
    split at h
    · rename_i hg
      rw [if_pos (by simp [Region.wanted, hg])]
      exact Or.inl (go h)
    · rename_i j want hg
      unfold guardA at h
      split at h
      · rename_i b hy
        have hyy := yield_ok ht (fun j o hj => by rw [hn]; exact hall j o hj) hy
        by_cases hb : b = want
        · rw [if_pos (by simp [Region.wanted, hg, hyy, hb])]
          exact Or.inl (go (h.1 hb))
        · rw [if_neg (by simp [Region.wanted, hg, hyy, hb])]
          have h2 := h.2 (by cases b <;> cases want <;> simp_all)
          simp only [opsLt, Bool.and_eq_true] at hdo
          exact ih _ _ _ (by cases ho : o.dst <;> exact hn) hr' h2 (by rw [put_eq_upd]; exact rel_upd hdf hs hdo.1 ht (Grow.refl [] m ok w) r trivial)
      · exact h.elim
end

-- part 15
section
open RowKit
/-! A region that draws its order. -/

def befOne (acc : List Nat) (o : Oper) : Nat := o.after.toList.foldl (fun s e => if Region.binds .any e then s ||| 2 ^ e.on ||| acc.getD e.on 0 else s) 0
def befs : List Oper → List Nat → List Nat
  | [], acc => acc
  | o :: r, acc => befs r (acc ++ [befOne acc o])

theorem befs_length : ∀ (l : List Oper) (acc : List Nat), (befs l acc).length = acc.length + l.length
  | [], acc => rfl
  | o :: r, acc => by rw [befs, befs_length r]; simp; omega

theorem befs_old : ∀ (l : List Oper) (acc : List Nat) (k : Nat), k < acc.length → (befs l acc)[k]? = acc[k]?
  | [], _, _, _ => rfl
  | o :: r, acc, k, h => by
    rw [befs, befs_old r _ k (by simp; omega), List.getElem?_append_left h]

theorem befs_take : ∀ (l : List Oper) (acc : List Nat) (n : Nat), n ≤ acc.length → (befs l acc).take n = acc.take n
  | [], _, _, _ => rfl
  | o :: r, acc, n, h => by
    rw [befs, befs_take r _ n (by simp; omega), List.take_append_of_le_length h]

theorem befs_get : ∀ (l : List Oper) (acc : List Nat) (k : Nat) (o : Oper), l[k]? = some o → (befs l acc)[acc.length + k]? = some (befOne ((befs l acc).take (acc.length + k)) o)
  | [], _, _, _, h => by simp at h
  | p :: r, acc, 0, o, h => by
    simp at h
    subst h
    rw [befs, Nat.add_zero, befs_old r _ _ (by simp), befs_take r _ _ (by simp)]
    simp
  | p :: r, acc, k + 1, o, h => by
    have := befs_get r (acc ++ [befOne acc p]) k o (by simpa using h)
    rw [befs]
    rw [List.length_append, List.length_singleton, Nat.add_assoc, Nat.add_comm 1 k] at this
    exact this

theorem foldl_bit (acc : List Nat) (i : Nat) : ∀ (l : List Edge) (s : Nat), (l.foldl (fun s e => if Region.binds .any e then s ||| 2 ^ e.on ||| acc.getD e.on 0 else s) s).testBit i = true → s.testBit i = true ∨ ∃ e ∈ l, Region.binds .any e = true ∧ (e.on = i ∨ (acc.getD e.on 0).testBit i = true)
  | [], s, h => Or.inl h
  | e :: l, s, h => by
    rw [List.foldl_cons] at h
    rcases foldl_bit acc i l _ h with h1 | ⟨e', h1, h2⟩
    · split at h1
      · rename_i hb
        simp only [Nat.testBit_or, Bool.or_eq_true] at h1
        rcases h1 with (h1 | h1) | h1
        · exact Or.inl h1
        · exact Or.inr ⟨e, by simp, hb, Or.inl (by rw [Nat.testBit_two_pow] at h1; simpa using h1)⟩
        · exact Or.inr ⟨e, by simp, hb, Or.inr h1⟩
      · exact Or.inl h1
    · exact Or.inr ⟨e', by simp [h1], h2⟩

def names (ops : Array Oper) (o : Oper) : List Tmp := o.looksAt ops ++ o.dst.toList

/-- Operations that share a slot stand in an order; no edge points forward. -/
def drawOk (ops : Array Oper) : Bool :=
  let b := befs ops.toList []
  (ops.toList.zipIdx.all fun p => p.1.after.toList.all fun e => !Region.binds .any e || decide (e.on < p.2)) &&
  ops.toList.zipIdx.all fun p => ops.toList.zipIdx.all fun q => decide (q.2 ≤ p.2) || (b.getD q.2 0).testBit p.2 || (p.1.dst.toList.all fun d => !(names ops q.1).contains d) && (q.1.dst.toList.all fun d => !(names ops p.1).contains d)

def keepN (l : List Oper) : Nat := (l.takeWhile fun o => keepOp o.op).length
/-- What turns memory comes behind all else. -/
def tailOk (ops : Array Oper) : Bool :=
  (List.range ops.size).all fun j => decide (j < keepN ops.toList) || (List.range j).all fun i => ((befs ops.toList []).getD j 0).testBit i

theorem tailOk_full {ops : Array Oper} (h : tailOk ops = true) {i j : Nat} (hj : j < ops.size) (hk : keepN ops.toList ≤ j) (hi : i < j) : ((befs ops.toList []).getD j 0).testBit i = true := by
  unfold tailOk at h
  have := List.all_eq_true.1 h j (by simpa using hj)
  simp only [Bool.or_eq_true, decide_eq_true_eq] at this
  rcases this with h1 | h1
  · omega
  · exact List.all_eq_true.1 h1 i (by simpa using hi)

theorem mem_zipIdx' {ops : Array Oper} {i : Nat} {o : Oper} (h : ops[i]? = some o) : (o, i) ∈ ops.toList.zipIdx := by
  rw [List.mem_iff_getElem?]
  exact ⟨i, by rw [List.getElem?_zipIdx, Array.getElem?_toList, h]; simp⟩

section
variable {ops : Array Oper} (hok : drawOk ops = true)
include hok

theorem drawOk_edge {i : Nat} {o : Oper} (h : ops[i]? = some o) : ∀ e ∈ o.after, Region.binds .any e = true → e.on < i := by
  intro e he hb
  unfold drawOk at hok
  simp only [Bool.and_eq_true] at hok
  have := List.all_eq_true.1 hok.1 _ (mem_zipIdx' h)
  have := List.all_eq_true.1 this e (by simpa using he)
  simpa [hb] using this

theorem drawOk_share {i j : Nat} {o p : Oper} (hi : ops[i]? = some o) (hj : ops[j]? = some p) (hij : i < j) (h : (∃ d, o.dst = some d ∧ d ∈ names ops p) ∨ ∃ d, p.dst = some d ∧ d ∈ names ops o) : ((befs ops.toList []).getD j 0).testBit i = true := by
  unfold drawOk at hok
  simp only [Bool.and_eq_true] at hok
  have := List.all_eq_true.1 (List.all_eq_true.1 hok.2 _ (mem_zipIdx' hi)) _ (mem_zipIdx' hj)
  simp only [Bool.or_eq_true, decide_eq_true_eq, Bool.and_eq_true] at this
  rcases this with (h1 | h1) | h1
  · omega
  · exact h1
  · exfalso
    rcases h with ⟨d, h2, h3⟩ | ⟨d, h2, h3⟩
    · have := List.all_eq_true.1 h1.1 d (by simp [h2])
      simp at this
      exact this h3
    · have := List.all_eq_true.1 h1.2 d (by simp [h2])
      simp at this
      exact this h3

/-- What must come before has come. -/
theorem before_listed {L : Nat → Prop} (hcl : ∀ j o, ops[j]? = some o → L j → ∀ e ∈ o.after, Region.binds .any e = true → L e.on) :
    ∀ (n j : Nat), j < n → ∀ o, ops[j]? = some o → (∀ e ∈ o.after, Region.binds .any e = true → L e.on) → ∀ i, ((befs ops.toList []).getD j 0).testBit i = true → L i
  | 0, _, h, _, _, _, _, _ => by omega
  | n + 1, j, hj, o, ho, he, i, hb => by
    have hg := befs_get ops.toList [] j o (by simpa using ho)
    rw [List.length_nil, Nat.zero_add] at hg
    rw [List.getD_eq_getElem?_getD, hg, Option.getD_some] at hb
    rcases foldl_bit _ i _ _ hb with h1 | ⟨e, h1, h2, h3⟩
    · simp at h1
    · have he' : e ∈ o.after := by simpa using h1
      have hlt := drawOk_edge hok ho e he' h2
      have hL := he e he' h2
      rcases h3 with h3 | h3
      · exact h3 ▸ hL
      · have hlen : e.on < ops.size := by have := (Array.getElem?_eq_some_iff.1 ho).1; omega
        refine before_listed hcl n e.on (by omega) ops[e.on] (by simp [hlen]) (hcl e.on _ (by simp [hlen]) hL) i ?_
        rw [List.getD_eq_getElem?_getD, List.getElem?_take] at h3
        rw [List.getD_eq_getElem?_getD]
        rw [if_pos hlt] at h3
        exact h3
end

/-- The slots behind those operations that p names. -/
def cur (p : Nat → Bool) : List Oper → List AV → Nat → List (Nat × AV) → List (Nat × AV)
  | o :: l, v :: vs, k, t => cur p l vs (k + 1) (match o.dst with | some d => if p k then (d, v) :: t else t | none => t)
  | _, _, _, t => t

theorem cur_look {p q : Nat → Bool} {s : Nat} : ∀ (l : List Oper) (vs : List AV) (k : Nat) (t t' : List (Nat × AV)), slot t s = slot t' s → (∀ j o, l[j]? = some o → o.dst = some s → p (k + j) = q (k + j)) → slot (cur p l vs k t) s = slot (cur q l vs k t') s
  | [], _, _, _, _, h, _ => by simpa [cur] using h
  | o :: l, [], _, _, _, h, _ => by simpa [cur] using h
  | o :: l, v :: vs, k, t, t', h, hp => by
    rw [cur, cur]
    refine cur_look l vs (k + 1) _ _ ?_ fun j o' hj hd => by
      have := hp (j + 1) o' (by simpa using hj) hd
      rwa [show k + (j + 1) = k + 1 + j by omega] at this
    cases hd : o.dst with
    | none => exact h
    | some d =>
      simp only
      by_cases e : d = s
      · subst e
        have := hp 0 o rfl hd
        rw [Nat.add_zero] at this
        rw [this]
        cases q k <;> simp [slot, h]
      · cases p k <;> cases q k <;> simp [slot, e, h]

theorem cur_none : ∀ (l : List Oper) (vs : List AV) (k : Nat) (t : List (Nat × AV)) (p : Nat → Bool), (∀ j, k ≤ j → p j = false) → cur p l vs k t = t
  | [], _, _, _, _, _ => by simp [cur]
  | o :: l, [], _, _, _, _ => by simp [cur]
  | o :: l, v :: vs, k, t, p, h => by
    rw [cur, h k (Nat.le_refl _), cur_none l vs (k + 1) _ p fun j hj => h j (by omega)]
    cases o.dst <;> rfl

/-- The slot of the operation that has just been carried out. -/
theorem cur_set {p : Nat → Bool} {s : Nat} : ∀ (l : List Oper) (vs : List AV) (k : Nat) (t : List (Nat × AV)) (i : Nat) (o : Oper) (v : AV), l[i]? = some o → vs[i]? = some v → o.dst = some s → p (k + i) = true → (∀ j o', i < j → l[j]? = some o' → o'.dst = some s → p (k + j) = false) → slot (cur p l vs k t) s = v
  | [], _, _, _, _, _, _, h, _, _, _, _ => by simp at h
  | o :: l, [], _, _, _, _, _, _, h, _, _, _ => by simp at h
  | o :: l, v :: vs, k, t, 0, o', v', ho, hv, hd, hp, hn => by
    simp at ho hv
    subst ho hv
    rw [Nat.add_zero] at hp
    rw [cur, hd]
    simp only [hp, if_true]
    rw [cur_look (q := fun _ => false) l vs (k + 1) _ ((s, v) :: t) rfl fun j o' hj hd' => by
      have := hn (j + 1) o' (by omega) (by simpa using hj) hd'
      rwa [show k + (j + 1) = k + 1 + j by omega] at this]
    rw [cur_none _ _ _ _ _ fun _ _ => rfl]
    simp [slot]
  | o :: l, v :: vs, k, t, i + 1, o', v', ho, hv, hd, hp, hn => by
    rw [cur]
    refine cur_set l vs (k + 1) _ i o' v' (by simpa using ho) (by simpa using hv) hd (by rwa [show k + 1 + i = k + (i + 1) by omega]) fun j o2 hij hj hd' => by
      have := hn (j + 1) o2 (by omega) (by simpa using hj) hd'
      rwa [show k + (j + 1) = k + 1 + j by omega] at this
end

-- part 16
section
open RowKit
def StepD (P : Program) (ops : Array Oper) (σ : AS) (o : Oper) (v : AV) : Prop :=
  match o.guard with
  | none => OpOkS P σ o v [] [] σ.h
  | some (j, want) => ∃ b, yieldA ops σ j = .c (.bool b) ∧ ((b = want ∧ OpOkS P σ o v [] [] σ.h) ∨ (b = (!want) ∧ v = .junk))

def TrD (P : Program) (ops : Array Oper) : AS → List Oper → List AV → Prop
  | _, [], [] => True
  | σ, o :: l, v :: vs => StepD P ops σ o v ∧ TrD P ops (σ.put o.dst v) l vs
  | _, _, _ => False

theorem awpOpD_ok {P : Program} {σ : AS} {o : Oper} {K : AS → Prop} (h : awpOpD P σ o K) : ∃ v, K (σ.put o.dst v) ∧ OpOkS P σ o v [] [] σ.h := by
  unfold awpOpD at h
  split at h
  · obtain ⟨v, hK, hv⟩ := apure_ok (show apure P σ o _ from h)
    exact ⟨v, hK, hv.full'⟩
  · have key : astep P σ o (updD σ o.dst K) := by
      split at h
      · unfold callWD at h
        split at h
        · rename_i f args ats heq
          unfold callVD at h
          split at h
          · rename_i g cap hf
            obtain ⟨ds, res, hds, hm, hc, hK⟩ := h
            unfold astep astepO
            rw [heq]
            simp only [hf]
            rw [hds]
            exact ⟨res, hm, by rw [if_pos hc]; exact ⟨rfl, rfl, rfl, hK⟩⟩
          · exact h.elim
        · exact h.elim
      · exact h
    obtain ⟨v, hk, ks, h', ⟨rfl, rfl, rfl, hK⟩, hop⟩ := astep_ok key
    exact ⟨v, hK, hop⟩

theorem trace {P : Program} {ops : Array Oper} {K : AS → Prop} : ∀ (l : List Oper) (σ : AS), awpOpsD P ops K l σ → ∃ vs, vs.length = keepN l ∧ TrD P ops σ (l.take (keepN l)) vs ∧ ∀ k, awpOps P ops K (l.drop (keepN l)) ⟨σ.n, cur (fun _ => true) (l.take (keepN l)) vs k σ.t, σ.h⟩
  | [], σ, h => ⟨[], rfl, trivial, fun k => (show K σ from h)⟩
  | o :: l, σ, h => by
    unfold awpOpsD at h
    split at h
    · rename_i hkeep
      have hk : keepN (o :: l) = keepN l + 1 := by simp [keepN, List.takeWhile_cons, hkeep]
      rw [hk]
      have go : ∀ v, awpOpsD P ops K l (σ.put o.dst v) → StepD P ops σ o v → ∃ vs, vs.length = keepN l + 1 ∧ TrD P ops σ ((o :: l).take (keepN l + 1)) vs ∧ ∀ k, awpOps P ops K ((o :: l).drop (keepN l + 1)) ⟨σ.n, cur (fun _ => true) ((o :: l).take (keepN l + 1)) vs k σ.t, σ.h⟩ := fun v hK hs => by
        obtain ⟨vs, h1, h2, h3⟩ := trace l _ hK
        refine ⟨v :: vs, by simp [h1], ⟨hs, h2⟩, fun k => ?_⟩
        have := h3 (k + 1)
        rw [List.take_succ_cons, List.drop_succ_cons, cur]
        cases hd : o.dst with
        | none => rw [hd] at this; exact this
        | some d => rw [hd] at this; exact this
      split at h
      · rename_i hg
        obtain ⟨v, hK, hop⟩ := awpOpD_ok h
        exact go v hK (by unfold StepD; rw [hg]; exact hop)
      · rename_i j want hg
        unfold guardA at h
        split at h
        · rename_i b hy
          by_cases hb : b = want
          · obtain ⟨v, hK, hop⟩ := awpOpD_ok (h.1 hb)
            exact go v hK (by unfold StepD; rw [hg]; exact ⟨b, hy, Or.inl ⟨hb, hop⟩⟩)
          · have hb2 : b = (!want) := by cases b <;> cases want <;> simp_all
            exact go .junk (h.2 hb2) (by unfold StepD; rw [hg]; exact ⟨b, hy, Or.inr ⟨hb2, rfl⟩⟩)
        · exact h.elim
    · rename_i hkeep
      have hk : keepN (o :: l) = 0 := by simp [keepN, List.takeWhile_cons, hkeep]
      rw [hk]
      exact ⟨[], rfl, trivial, fun k => h⟩

theorem TrD.get {P : Program} {ops : Array Oper} : ∀ {l : List Oper} {vs : List AV} {σ : AS} (k i : Nat) {o : Oper} {v : AV}, TrD P ops σ l vs → l[i]? = some o → vs[i]? = some v → StepD P ops ⟨σ.n, cur (fun j => decide (j < k + i)) l vs k σ.t, σ.h⟩ o v
  | [], _, _, _, _, _, _, _, h, _ => by simp at h
  | o :: l, [], _, _, _, _, _, _, _, h => by simp at h
  | o :: l, v :: vs, σ, k, 0, _, _, ⟨hs, _⟩, h1, h2 => by
    simp at h1 h2
    subst h1 h2
    rw [cur_none _ _ _ _ _ fun j hj => by simpa using hj]
    exact hs
  | o :: l, v :: vs, σ, k, i + 1, o', v', ⟨_, ht⟩, h1, h2 => by
    have := TrD.get (k + 1) i ht (by simpa using h1) (by simpa using h2)
    rw [cur]
    simp only [show k < k + (i + 1) by omega, decide_true, if_true]
    rw [show k + 1 + i = k + (i + 1) by omega] at this
    cases hd : o.dst with
    | none => rw [hd] at this; exact this
    | some d => rw [hd] at this; exact this

theorem countP_lt {p q : Nat → Bool} : ∀ (l : List Nat), (∀ x ∈ l, q x = true → p x = true) → (∃ x ∈ l, p x = true ∧ q x = false) → l.countP q < l.countP p
  | [], _, ⟨x, hx, _⟩ => by simp at hx
  | y :: l, h, ⟨x, hx, h1, h2⟩ => by
    have hle : l.countP q ≤ l.countP p := List.countP_mono_left fun z hz => h z (by simp [hz])
    rw [List.countP_cons, List.countP_cons]
    rcases List.mem_cons.1 hx with rfl | hx
    · simp [h1, h2]; omega
    · have := countP_lt l (fun z hz => h z (by simp [hz])) ⟨x, hx, h1, h2⟩
      by_cases hq : q y = true
      · simp [hq, h y (by simp) hq]; omega
      · simp [hq]; split <;> omega

theorem set_hit {listed : Array Bool} {i : Nat} (h : i < listed.size) (j : Nat) : (listed.setIfInBounds i true).getD j false = if j = i then true else listed.getD j false := by
  by_cases hji : j = i
  · subst hji
    rw [if_pos rfl]
    simp [h]
  · rw [if_neg hji, getD_set_ne false (Ne.symm hji)]

theorem count_set {listed : Array Bool} {i n fuel : Nat} (hi : i < n) (hs : i < listed.size) (hu : listed.getD i false = false) (h : (List.range n).countP (fun i => !listed.getD i false) ≤ fuel + 1) : (List.range n).countP (fun j => !(listed.setIfInBounds i true).getD j false) ≤ fuel := by
  have : (List.range n).countP (fun j => !(listed.setIfInBounds i true).getD j false) < (List.range n).countP (fun j => !listed.getD j false) := by
    refine countP_lt _ (fun j _ hj => ?_) ⟨i, by simpa using hi, by simp only [hu, Bool.not_false], by rw [set_hit hs, if_pos rfl]; rfl⟩
    rw [set_hit hs] at hj
    split at hj
    · cases hj
    · exact hj
  omega

theorem unlisted {listed : Array Bool} {i : Nat} (hs : i < listed.size) (h : listed.getD i true = false) : listed.getD i false = false := by
  simp only [Array.getD_eq_getD_getElem?] at h ⊢
  rw [Array.getElem?_eq_getElem hs] at h ⊢
  exact h

theorem ready_min {ops : Array Oper} (hok : drawOk ops = true) {listed : Array Bool} (hs : listed.size = ops.size) : ∀ (n i : Nat), i < n → i < ops.size → listed.getD i false = false → ∃ j, j ≤ i ∧ j ∈ Region.ready .any ops listed
  | 0, _, h, _, _ => by omega
  | n + 1, i, hin, hi, hu => by
    by_cases hall : ∀ e ∈ ops[i].after, Region.binds .any e = true → listed.getD e.on false = true
    · refine ⟨i, Nat.le_refl _, mem_ready.2 ⟨?_, ops[i], by simp [hi], hall⟩⟩
      simp only [Array.getD_eq_getD_getElem?] at hu ⊢
      rw [Array.getElem?_eq_getElem (by omega)] at hu ⊢
      exact hu
    · obtain ⟨e, he, hb, hne⟩ : ∃ e, e ∈ ops[i].after ∧ Region.binds .any e = true ∧ listed.getD e.on false ≠ true := by
        refine Classical.byContradiction fun hx => hall fun e he hb => ?_
        exact Classical.byContradiction fun hn => hx ⟨e, he, hb, hn⟩
      have hlt := drawOk_edge hok (i := i) (o := ops[i]) (by simp [hi]) e he hb
      obtain ⟨j, h1, h2⟩ := ready_min hok hs n e.on (by omega) (by omega) (by simpa using hne)
      exact ⟨j, by omega, h2⟩

/-- What comes behind all else goes in the order of the text. -/
theorem seq_ok {P : Program} {ops : Array Oper} {w0 : World} {ok0 : Nat → Prop} {ρx : Nat → Value} {K : AS → Prop} {Q : Exit → Act → World → Prop} {n : Nat} (hok : drawOk ops = true) (htl : tailOk ops = true) (hds : ∀ o ∈ ops.toList, opsLt n o = true) (hQ : ∀ σ a w, σ.n = n → K σ → RelS w0 ok0 ρx σ a w → Q .normal a w) :
    ∀ (fuel t : Nat) (listed : Array Bool) (σ : AS) (a : Act) (w : World), keepN ops.toList ≤ t → t ≤ ops.size → listed.size = ops.size → (∀ j, listed.getD j false = decide (j < t)) → (List.range ops.size).countP (fun i => !listed.getD i false) ≤ fuel → σ.n = n → awpOps P ops K (ops.toList.drop t) σ → RelS w0 ok0 ρx σ a w → wpAny P .any ops Q fuel listed a w := by
  have only : ∀ (t : Nat) (listed : Array Bool) (i : Nat), keepN ops.toList ≤ t → listed.size = ops.size → (∀ j, listed.getD j false = decide (j < t)) → i ∈ Region.ready .any ops listed → i = t ∧ t < ops.size := fun t listed i hk hs hl hi => by
    obtain ⟨hun, o, ho, hpre⟩ := mem_ready.1 hi
    have hisz := (Array.getElem?_eq_some_iff.1 ho).1
    have h0 := unlisted (by omega) hun
    rw [hl i] at h0
    have h0 : t ≤ i := by simpa using h0
    rcases Nat.eq_or_lt_of_le h0 with h | h
    · exact ⟨h.symm, by omega⟩
    · exfalso
      have hcl : ∀ j o, ops[j]? = some o → listed.getD j false = true → ∀ e ∈ o.after, Region.binds .any e = true → listed.getD e.on false = true := fun j o hj hlj e he hb => by
        have := drawOk_edge hok hj e he hb
        rw [hl j] at hlj
        rw [hl e.on]
        have : j < t := by simpa using hlj
        exact decide_eq_true (by omega)
      have := before_listed hok (L := fun k => listed.getD k false = true) hcl (i + 1) i (by omega) o ho hpre t (tailOk_full htl hisz (by omega) h)
      rw [hl t] at this
      simp at this
  intro fuel
  induction fuel with
  | zero =>
    intro t listed σ a w hk ht hs hl hf hn h hr
    have hall : ∀ i, i < ops.size → listed.getD i false = true := fun i hi => by
      have h0 : (List.range ops.size).countP (fun i => !listed.getD i false) = 0 := by omega
      rw [List.countP_eq_zero] at h0
      have := h0 i (by simpa using hi)
      simpa using this
    have htt : t = ops.size := by
      rcases Nat.lt_or_ge t ops.size with h1 | h1
      · have := hall t h1; rw [hl t] at this; simp at this
      · omega
    rw [htt, List.drop_of_length_le (by simp)] at h
    refine ⟨?_, hQ σ a w hn h hr⟩
    cases hrd : Region.ready .any ops listed with
    | nil => rfl
    | cons i r =>
      have := (only t listed i hk hs hl (by rw [hrd]; simp)).2
      omega
  | succ fuel ih =>
    intro t listed σ a w hk ht hs hl hf hn h hr
    refine ⟨fun hnil => ?_, fun i hi => ?_⟩
    · have htt : t = ops.size := by
        rcases Nat.lt_or_ge t ops.size with h1 | h1
        · obtain ⟨j, _, hj⟩ := ready_min hok hs (t + 1) t (by omega) h1 (by rw [hl t]; simp)
          rw [hnil] at hj; cases hj
        · omega
      rw [htt, List.drop_of_length_le (by simp)] at h
      exact hQ σ a w hn h hr
    · obtain ⟨rfl, hisz⟩ := only t listed i hk hs hl hi
      obtain ⟨hun, o, ho, hpre⟩ := mem_ready.1 hi
      have hd : ops.toList.drop i = o :: ops.toList.drop (i + 1) := by
        have ho' : ops[i] = o := (Array.getElem?_eq_some_iff.1 ho).2
        rw [List.drop_eq_getElem_cons (by simpa using hisz)]
        simp [ho']
      rw [hd] at h
      have hr0 := hr
      obtain ⟨m, ok, hdf, hsz, htm, r⟩ := hr
      have hdo : opsLt σ.n o = true := by rw [hn]; exact hds o (by simpa using Array.mem_of_getElem? ho)
      have hcount := count_set hisz (by omega) (unlisted (by omega) hun) hf
      have hl' : ∀ j, (listed.setIfInBounds i true).getD j false = decide (j < i + 1) := fun j => by
        rw [set_hit (by omega), hl j]
        by_cases hji : j = i
        · simp [hji]
        · rw [if_neg hji]
          exact decide_eq_decide.2 (by omega)
      have next := fun σ' a' w' => ih (i + 1) (listed.setIfInBounds i true) σ' a' w' (by omega) (by omega) (by simpa using hs) hl' hcount
      have go : awpOp P σ o (awpOps P ops K (ops.toList.drop (i + 1))) → o.wp P a w (wpAny P .any ops Q fuel (listed.setIfInBounds i true)) Q := fun h => by
        refine wp_of_exec (awpOp_ok h w0 ok0 ρx a w hdo hr0) fun u w' hp => ?_
        obtain ⟨σ', hn', hK, hrel⟩ := hp
        exact next _ _ _ (hn'.trans hn) hK hrel
      unfold awpOps at h
      unfold wpOp
      simp only [ho]
      split at h
      · rename_i hg
        rw [if_pos (by simp [Region.wanted, hg])]
        exact Or.inl (go h)
      · rename_i j want hg
        unfold guardA at h
        split at h
        · rename_i b hy
          have hyy := yield_ok htm (fun j o hj => by
            have := hds o (by simpa using Array.mem_of_getElem? hj)
            rw [hn]
            simp only [opsLt, Bool.and_eq_true] at this
            exact this.1) hy
          by_cases hb : b = want
          · rw [if_pos (by simp [Region.wanted, hg, hyy, hb])]
            exact Or.inl (go (h.1 hb))
          · rw [if_neg (by simp [Region.wanted, hg, hyy, hb])]
            have h2 := h.2 (by cases b <;> cases want <;> simp_all)
            simp only [opsLt, Bool.and_eq_true] at hdo
            exact next _ _ _ (by cases hq : o.dst <;> exact hn) h2 (by rw [put_eq_upd]; exact rel_upd hdf hsz hdo.1 htm (Grow.refl [] m ok w) r trivial)
        · exact h.elim

/-- What holds when those operations that are listed have been carried out. -/
structure InvD (w0 : World) (ok0 : Nat → Prop) (ρx : Nat → Value) (σ : AS) (ops : Array Oper) (vs : List AV) (listed : Array Bool) (a : Act) (w : World) : Prop where
  sz : listed.size = ops.size
  cl : ∀ j o, ops[j]? = some o → listed.getD j false = true → ∀ e ∈ o.after, Region.binds .any e = true → listed.getD e.on false = true
  lo : ∀ j, listed.getD j false = true → j < keepN ops.toList
  rel : ∃ m ok, a.defers = [] ∧ a.tmps.size = σ.n ∧ (∀ i, RepV m ok w (slot (cur (fun j => listed.getD j false) (ops.toList.take (keepN ops.toList)) vs 0 σ.t) i) (valX ρx σ.n a i)) ∧ HRel w0 ok0 m ok σ.h w

theorem keepN_le : ∀ (l : List Oper), keepN l ≤ l.length := fun l => (List.takeWhile_sublist _).length_le

theorem draw_ok {P : Program} {ops : Array Oper} {w0 : World} {ok0 : Nat → Prop} {ρx : Nat → Value} {σ : AS} {vs : List AV} {K : AS → Prop} {Q : Exit → Act → World → Prop} (hok : drawOk ops = true) (htl : tailOk ops = true) (hvl : vs.length = keepN ops.toList) (htr : TrD P ops σ (ops.toList.take (keepN ops.toList)) vs) (hds : ∀ o ∈ ops.toList, opsLt σ.n o = true)
    (hQ : ∀ σ' a w, σ'.n = σ.n → K σ' → RelS w0 ok0 ρx σ' a w → Q .normal a w) (hrest : awpOps P ops K (ops.toList.drop (keepN ops.toList)) ⟨σ.n, cur (fun _ => true) (ops.toList.take (keepN ops.toList)) vs 0 σ.t, σ.h⟩) :
    ∀ (fuel : Nat) (listed : Array Bool) (a : Act) (w : World), (List.range ops.size).countP (fun i => !listed.getD i false) ≤ fuel → InvD w0 ok0 ρx σ ops vs listed a w → wpAny P .any ops Q fuel listed a w := by
  have hkl : keepN ops.toList ≤ ops.size := by simpa using keepN_le ops.toList
  have tk : ∀ {j : Nat} {o' : Oper}, (ops.toList.take (keepN ops.toList))[j]? = some o' → ops[j]? = some o' := fun {j o'} hj => by
    rw [List.getElem?_take] at hj
    split at hj
    · simpa using hj
    · cases hj
  have done : ∀ (fuel : Nat) (listed : Array Bool) (a : Act) (w : World), (List.range ops.size).countP (fun i => !listed.getD i false) ≤ fuel → InvD w0 ok0 ρx σ ops vs listed a w → (∀ i, i < keepN ops.toList → listed.getD i false = true) → wpAny P .any ops Q fuel listed a w := fun fuel listed a w hf inv hall => by
    obtain ⟨m, ok, h1, h2, h3, h4⟩ := inv.rel
    refine seq_ok hok htl hds hQ fuel (keepN ops.toList) listed ⟨σ.n, cur (fun _ => true) (ops.toList.take (keepN ops.toList)) vs 0 σ.t, σ.h⟩ a w (Nat.le_refl _) hkl inv.sz (fun j => ?_) hf rfl hrest ⟨m, ok, h1, h2, fun s => ?_, h4⟩
    · by_cases hj : j < keepN ops.toList
      · rw [hall j hj]; simp [hj]
      · cases hb : listed.getD j false with
        | true => exact absurd (inv.lo j hb) hj
        | false => simp [hj]
    · have := h3 s
      rwa [cur_look (q := fun _ => true) (ops.toList.take (keepN ops.toList)) vs 0 _ σ.t rfl fun j o hj _ => by
        rw [Nat.zero_add]
        rw [List.getElem?_take] at hj
        split at hj
        · exact hall j (by assumption)
        · cases hj] at this
  intro fuel
  induction fuel with
  | zero =>
    intro listed a w hf inv
    refine done 0 listed a w hf inv fun i hi => ?_
    have h0 : (List.range ops.size).countP (fun i => !listed.getD i false) = 0 := by omega
    rw [List.countP_eq_zero] at h0
    have := h0 i (by simp; omega)
    simpa using this
  | succ fuel ih =>
    intro listed a w hf inv
    by_cases hall : ∀ i, i < keepN ops.toList → listed.getD i false = true
    · exact done _ listed a w hf inv hall
    have hex : ∃ i, i < keepN ops.toList ∧ listed.getD i false = false := by
      refine Classical.byContradiction fun hx => hall fun i hi => ?_
      cases hb : listed.getD i false with
      | true => rfl
      | false => exact absurd ⟨i, hi, hb⟩ hx
    obtain ⟨i0, hi0, hu0⟩ := hex
    refine ⟨fun hnil => ?_, fun i hi => ?_⟩
    · obtain ⟨j, _, hj⟩ := ready_min hok inv.sz (i0 + 1) i0 (by omega) (by omega) hu0
      rw [hnil] at hj; cases hj
    obtain ⟨hun, o, ho, hpre⟩ := mem_ready.1 hi
    have hisz := (Array.getElem?_eq_some_iff.1 ho).1
    have hils : i < listed.size := by rw [inv.sz]; exact hisz
    have hun' : listed.getD i false = false := unlisted hils hun
    have hik : i < keepN ops.toList := by
      rcases Nat.lt_or_ge i (keepN ops.toList) with h | h
      · exact h
      · have := before_listed hok (L := fun k => listed.getD k false = true) inv.cl (i + 1) i (by omega) o ho hpre i0 (tailOk_full htl hisz h (by omega))
        simp only [hu0] at this
        cases this
    have hot : (ops.toList.take (keepN ops.toList))[i]? = some o := by rw [List.getElem?_take, if_pos hik]; simpa using ho
    obtain ⟨m, ok, hdf, hsz, ht, r⟩ := inv.rel
    have hiv : i < vs.length := by omega
    have hstep := TrD.get 0 i htr hot (List.getElem?_eq_getElem hiv)
    rw [Nat.zero_add] at hstep
    -- the slots that this operation names read as in the order of the text
    have same : ∀ t, t ∈ names ops o → slot (cur (fun j => decide (j < i)) (ops.toList.take (keepN ops.toList)) vs 0 σ.t) t = slot (cur (fun j => listed.getD j false) (ops.toList.take (keepN ops.toList)) vs 0 σ.t) t := fun t htn =>
      cur_look (ops.toList.take (keepN ops.toList)) vs 0 _ _ rfl fun j o' hj hd => by
        rw [Nat.zero_add]
        have hj' : ops[j]? = some o' := tk hj
        rcases Nat.lt_trichotomy j i with h | h | h
        · have := drawOk_share hok hj' ho h (Or.inl ⟨t, hd, htn⟩)
          have := before_listed hok (L := fun k => listed.getD k false = true) inv.cl (i + 1) i (by omega) o ho hpre j this
          simp [h, this]
        · subst h; simp [hun']
        · have h0 : listed.getD j false = false := by
            cases hb : listed.getD j false with
            | false => rfl
            | true =>
              have h1 := drawOk_share hok ho hj' h (Or.inr ⟨t, hd, htn⟩)
              have := before_listed hok (L := fun k => listed.getD k false = true) inv.cl (j + 1) j (by omega) o' hj' (inv.cl j o' hj' hb) i h1
              rw [hun'] at this; cases this
          have hnl : ¬ j < i := by omega
          simp [h0, hnl]
    have ht' : ∀ t, t ∈ names ops o → RepV m ok w (slot (cur (fun j => decide (j < i)) (ops.toList.take (keepN ops.toList)) vs 0 σ.t) t) (valX ρx σ.n a t) := fun t htn => by rw [same t htn]; exact ht t
    have hlo : opsLt σ.n o = true := hds o (by simpa using Array.mem_of_getElem? ho)
    simp only [opsLt, Bool.and_eq_true] at hlo
    have hx : ∀ x ∈ o.op.operands, RepV m ok w (aev ⟨σ.n, cur (fun j => decide (j < i)) (ops.toList.take (keepN ops.toList)) vs 0 σ.t, σ.h⟩ x) (a.eval x) := fun x hx => by
      cases x with
      | tmp t =>
        have h1 := ht' t (by
          unfold names Oper.looksAt
          simp only [List.mem_append, List.mem_filterMap]
          exact Or.inl (Or.inl ⟨.tmp t, by simpa using hx, rfl⟩))
        have h2 := Array.all_eq_true_iff_forall_mem.1 hlo.2 _ hx
        unfold valX at h1
        rw [if_pos (by simpa [opLt] using h2)] at h1
        exact h1
      | const v => exact cv_rep m ok w v
      | global g => trivial
      | func f => exact ⟨#[], rfl, rfl⟩
    -- what is known behind it
    have next : ∀ (m' : List (Option Nat)) (ok' : Nat → Prop) (u : Value) (w' : World), Grow [] [] m ok w m' ok' w' → HRel w0 ok0 m' ok' σ.h w' → RepV m' ok' w' vs[i] u → InvD w0 ok0 ρx σ ops vs (listed.setIfInBounds i true) (a.put o.dst u) w' := fun m' ok' u w' g r' hv => by
      refine ⟨by simp [inv.sz], fun j o' hj hl e he hb => ?_, fun j hj => ?_, ⟨m', ok', by rw [put_defers]; exact hdf, by rw [put_size, hsz], fun s => ?_, r'⟩⟩
      · by_cases hji : j = i
        · subst hji
          rw [ho] at hj; cases hj
          exact getD_set_true (hpre e he hb)
        · rw [getD_set_ne false (Ne.symm hji)] at hl
          exact getD_set_true (inv.cl j o' hj hl e he hb)
      · rw [set_hit hils] at hj
        split at hj
        · rename_i e; rw [e]; exact hik
        · exact inv.lo j hj
      · have hset : ∀ j, (listed.setIfInBounds i true).getD j false = if j = i then true else listed.getD j false := set_hit hils
        rw [valX_put hsz hlo.1]
        by_cases hd : o.dst = some s
        · rw [if_pos hd]
          rw [cur_set (ops.toList.take (keepN ops.toList)) vs 0 σ.t i o vs[i] hot (List.getElem?_eq_getElem hiv) hd (by rw [Nat.zero_add, hset, if_pos rfl]) fun j o' hij hj hd' => ?_]
          · exact hv
          · rw [Nat.zero_add, hset, if_neg (by omega)]
            have hj' : ops[j]? = some o' := tk hj
            cases hb : listed.getD j false with
            | false => rfl
            | true =>
              have h1 := drawOk_share hok ho hj' hij (Or.inl ⟨s, hd, by simp [names, hd']⟩)
              have := before_listed hok (L := fun k => listed.getD k false = true) inv.cl (j + 1) j (by omega) o' hj' (inv.cl j o' hj' hb) i h1
              rw [hun'] at this; cases this
        · rw [if_neg hd]
          rw [cur_look (q := fun j => listed.getD j false) (ops.toList.take (keepN ops.toList)) vs 0 _ σ.t rfl fun j o' hj hd' => by
            rw [Nat.zero_add, hset, if_neg (fun e => by
              subst e
              have := tk hj
              rw [ho] at this; cases this
              exact hd hd')]]
          exact RepV.mono g _ (ht s)
    have hcount := count_set hisz hils hun' hf
    have exec : OpOkS P ⟨σ.n, cur (fun j => decide (j < i)) (ops.toList.take (keepN ops.toList)) vs 0 σ.t, σ.h⟩ o vs[i] [] [] σ.h → o.wp P a w (wpAny P .any ops Q fuel (listed.setIfInBounds i true)) Q := fun hop => by
      refine wp_of_exec (hop w0 ok0 m ok a.eval w hx r) fun u w' hp => ?_
      obtain ⟨m', ok', g, r', hv⟩ := hp
      exact ih _ _ _ hcount (next m' ok' u w' g r' hv)
    unfold wpOp
    simp only [ho]
    unfold StepD at hstep
    split at hstep
    · rename_i hg
      rw [if_pos (by simp [Region.wanted, hg])]
      exact Or.inl (exec hstep)
    · rename_i j want hg
      obtain ⟨b, hy, hcase⟩ := hstep
      have hyy : yielded ops a.tmps j = some b := by
        unfold yieldA at hy
        unfold yielded
        split at hy
        · rename_i d hd
          have := ht' d (by
            unfold names Oper.looksAt
            simp [hg, hd])
          have hdn : d < σ.n := by
            rw [Option.bind_eq_some_iff] at hd
            obtain ⟨o2, q1, q2⟩ := hd
            have q3 := hds o2 (by simpa using Array.mem_of_getElem? q1)
            simp only [opsLt, Bool.and_eq_true] at q3
            rw [q2] at q3
            simpa [dstLt] using q3.1
          unfold valX at this
          rw [if_pos hdn] at this
          rw [hy] at this
          simp only [RepV] at this
          rw [hd]
          simp only [Option.bind_some]
          have hne : a.tmps[d]? = some (.bool b) := by
            rw [Array.getD_eq_getD_getElem?] at this
            cases hq : a.tmps[d]? with
            | none => rw [hq] at this; simp [undef] at this
            | some x => rw [hq] at this; simp at this; rw [this]
          rw [hne]
        · cases hy
      rcases hcase with ⟨hb, hop⟩ | ⟨hb, hv⟩
      · rw [if_pos (by simp [Region.wanted, hg, hyy, hb])]
        exact Or.inl (exec hop)
      · rw [if_neg (by simp [Region.wanted, hg, hyy, hb])]
        exact ih _ _ _ hcount (next m ok undef w (Grow.refl [] m ok w) r (by rw [hv]; trivial))
end

-- part 17
section
open RowKit
/-- What a walk asks of the code itself. -/
def okC (n : Nat) : Code → Bool
  | .region _ ops d => ops.all (opsLt n) && (!d || (drawOk ops && tailOk ops))
  | .seq a b => okC n a && okC n b
  | .cond c a b => opLt n c && okC n a && okC n b
  | .block _ a => okC n a
  | .loop a => okC n a
  | _ => true

def axE : AX → Exit
  | .norm => .normal
  | .ret => .ret
  | .exit id => .exit id

/-- The end of a walk, as the machine's walk says it. -/
def Post (w0 : World) (ok0 : Nat → Prop) (ρx : Nat → Value) (n : Nat) (Q : AX → AS → Prop) : Exit → Act → World → Prop := fun e a w => ∃ x σ, e = axE x ∧ σ.n = n ∧ Q x σ ∧ RelS w0 ok0 ρx σ a w

theorem Weak.slot {t : List (Nat × AV)} {m : List (Option Nat)} {ok : Nat → Prop} {w : World} : ∀ {t' : List (Nat × AV)} (i : Nat) {v : Value}, Weak t t' → RepV m ok w (slot t i) v → RepV m ok w (slot t' i) v
  | [], _, _, _, _ => trivial
  | (j, x) :: r, i, v, ⟨h1, h2⟩, hv => by
    unfold Eng.slot
    split
    · rename_i e
      subst e
      rw [← h1]; exact hv
    · exact Weak.slot i h2 hv

section
variable {m : List (Option Nat)} {ok : Nat → Prop} {w : World} {k : Nat}
theorem trim_get {L : Nat} {b : Option Nat} (hL : L < k) (h : m[L]? = some b) : (m.take k)[L]? = some b := by
  rw [List.getElem?_take, if_pos hL]; exact h
mutual
theorem RepV.trim : ∀ (x : AV) {v : Value}, refsV k x = true → RepV m ok w x v → RepV (m.take k) ok w x v
  | .junk, _, _, _ => trivial
  | .c _, _, _, h => h
  | .nils, _, _, h => h
  | .sl _ _ _, _, _, h => h
  | .dptr _, _, _, h => h
  | .ptr L j, _, hr, ⟨b, hm, hv⟩ => ⟨b, trim_get (by simpa [refsV] using hr) hm, hv⟩
  | .rp L i j, _, hr, ⟨b, hm, hv⟩ => ⟨b, trim_get (by simpa [refsV] using hr) hm, hv⟩
  | .own L st n, _, hr, ⟨ob, hm, h⟩ => ⟨ob, trim_get (by simpa [refsV] using hr) hm, h⟩
  | .agg xs, _, hr, ⟨vs, hv, h, h1⟩ => ⟨vs, hv, RepL.trim xs (by simpa [refsV] using hr) h, h1⟩
  | .tup xs, _, hr, ⟨vs, hv, h⟩ => ⟨vs, hv, RepL.trim xs (by simpa [refsV] using hr) h⟩
  | .fn _ xs, _, hr, ⟨vs, hv, h⟩ => ⟨vs, hv, RepL.trim xs (by simpa [refsV] using hr) h⟩
theorem RepL.trim : ∀ (xs : List AV) {l : List Value}, refsL k xs = true → RepL m ok w xs l → RepL (m.take k) ok w xs l
  | [], _, _, h => h
  | x :: xs, _, hr, ⟨u, us, hl, hx, h⟩ => by
    simp only [refsL, Bool.and_eq_true] at hr
    exact ⟨u, us, hl, RepV.trim x hr.1 hx, RepL.trim xs hr.2 h⟩
end
theorem refsT_slot : ∀ {t : List (Nat × AV)} (i : Nat), refsT k t = true → refsV k (slot t i) = true
  | [], _, _ => rfl
  | (j, x) :: r, i, h => by
    simp only [refsT, Bool.and_eq_true] at h
    unfold slot
    split
    · exact h.1
    · exact refsT_slot i h.2
theorem refsH_get : ∀ {h : Heap} {L : Nat} {t : TypeId} {cs : List AV}, refsH k h = true → h[L]? = some (some (.var t cs)) → refsL k cs = true
  | [], _, _, _, _, h => by simp at h
  | b :: r, 0, t, cs, h, e => by
    simp at e
    subst e
    simp only [refsH, Bool.and_eq_true] at h
    exact h.1
  | b :: r, L + 1, t, cs, h, e => by
    refine refsH_get (h := r) (L := L) ?_ (by simpa using e)
    unfold refsH at h
    split at h
    · rename_i heq; cases heq
    · rename_i heq; cases heq
      simp only [Bool.and_eq_true] at h
      exact h.2
    · rename_i heq; cases heq
      exact h
end

theorem HRel.trim {w0 : World} {ok0 : Nat → Prop} {m : List (Option Nat)} {ok : Nat → Prop} {h h' : Heap} {w : World} (r : HRel w0 ok0 m ok h w) (e : h.take h'.length = h') (hr : refsH h'.length h' = true) : HRel w0 ok0 (m.take h'.length) ok h' w := by
  have hlen : h'.length ≤ h.length := by
    have := congrArg List.length e
    rw [List.length_take] at this
    omega
  have get : ∀ {L : Nat} {b : Option Nat}, (m.take h'.length)[L]? = some b → m[L]? = some b := fun {L b} hm => by
    rw [List.getElem?_take] at hm
    split at hm
    · exact hm
    · cases hm
  have hget : ∀ {L : Nat} {b : Option Blk}, h'[L]? = some b → h[L]? = some b ∧ L < h'.length := fun {L b} hL => by
    have hlt := (List.getElem?_eq_some_iff.1 hL).1
    rw [← e, List.getElem?_take, if_pos hlt] at hL
    exact ⟨hL, hlt⟩
  refine ⟨by rw [List.length_take, r.len]; omega, fun L blk hL => ?_, fun L L' b h1 h2 => r.inj L L' b (get h1) (get h2), fun L b blk hL hm => r.nok L b blk (hget hL).1 (get hm), fun L b hm => r.new L b (get hm), r.okb, r.oko, r.bel⟩
  obtain ⟨h1, h2⟩ := hget hL
  have ho := r.own L blk h1
  cases blk with
  | var t xs =>
    obtain ⟨b, cs, hm, hb, hx, hone⟩ := ho
    exact ⟨b, cs, trim_get h2 hm, hb, RepL.trim xs (refsH_get hr hL) hx, hone⟩
  | row e st es =>
    obtain ⟨ob, hm, hx⟩ := ho
    exact ⟨ob, trim_get h2 hm, hx⟩

theorem RelS.weak {w0 : World} {ok0 : Nat → Prop} {ρx : Nat → Value} {σ σ' : AS} {a : Act} {w : World} (h : RelS w0 ok0 ρx σ a w) (ht : Weak σ.t σ'.t) (hn : σ.n = σ'.n) (hh : HW σ.h σ') : RelS w0 ok0 ρx σ' a w := by
  obtain ⟨m, ok, h1, h2, h3, h4⟩ := h
  rcases hh with hh | ⟨e, k1, k2⟩
  · exact ⟨m, ok, h1, by rw [← hn]; exact h2, fun i => Weak.slot i ht (by rw [← hn]; exact h3 i), by rw [← hh]; exact h4⟩
  · exact ⟨m.take σ'.h.length, ok, h1, by rw [← hn]; exact h2, fun i => RepV.trim _ (refsT_slot i k1) (Weak.slot i ht (by rw [← hn]; exact h3 i)), h4.trim e k2⟩

theorem rel_weak {w0 : World} {ok0 : Nat → Prop} {ρx : Nat → Value} {σ : AS} {a : Act} {w : World} {c : Operand} {v : Value} (h : RelS w0 ok0 ρx σ a w) (hc : opLt σ.n c = true) (hv : aev σ c = .c v) : a.eval c = v := by
  obtain ⟨m, ok, _, _, ht, _⟩ := h
  have := aev_ok ht hc
  rw [hv] at this
  exact this

theorem awp_ok {P : Program} (hm : P.follows .mixedOrders = true) {w0 : World} {ok0 : Nat → Prop} {ρx : Nat → Value} {n : Nat} : ∀ (c : Code) (Q : AX → AS → Prop) (σ : AS) (a : Act) (w : World), okC n c = true → σ.n = n → awp P c Q σ → RelS w0 ok0 ρx σ a w → c.wp P (Post w0 ok0 ρx n Q) a w
  | .skip, Q, σ, a, w, _, hn, h, hr => wp_skip ⟨.norm, σ, rfl, hn, h, hr⟩
  | .region id ops false, Q, σ, a, w, hc, hn, h, hr => by
    simp only [okC, Bool.not_false, Bool.true_or, Bool.and_true] at hc
    exact wp_region_list (awpOps_ok (fun j o hj => by
      have := Array.all_eq_true_iff_forall_mem.1 hc o (Array.mem_of_getElem? hj)
      simp only [opsLt, Bool.and_eq_true] at this
      exact this.1) (fun σ a w hn hK hr => ⟨.norm, σ, rfl, hn, hK, hr⟩) ops.toList σ a w hn (fun o ho => Array.all_eq_true_iff_forall_mem.1 hc o (by simpa using ho)) h hr)
  | .region id ops true, Q, σ, a, w, hc, hn, h, hr => by
    simp only [okC, Bool.not_true, Bool.false_or, Bool.and_eq_true] at hc
    obtain ⟨hd, hdr, htl⟩ := hc
    obtain ⟨vs, h1, h2, h3⟩ := trace ops.toList σ h
    refine wp_region_any hm (draw_ok hdr htl h1 h2 (fun o ho => by rw [hn]; exact Array.all_eq_true_iff_forall_mem.1 hd o (by simpa using ho)) (fun σ' a w hn' hK hr => ⟨.norm, σ', rfl, hn'.trans hn, hK, hr⟩) (h3 0) ops.size _ a _ ?_ ?_)
    · refine Nat.le_trans List.countP_le_length ?_
      simp
    · obtain ⟨m, ok, hdf, hs, ht, r⟩ := hr
      obtain ⟨g, r'⟩ := r.grown (w' := w.drew) ((Below.refl _ _).drew) (ok' := ok) (fun _ h => h) (fun _ h => Or.inl h)
      refine ⟨by simp, fun j o _ hj => ?_, fun j hj => ?_, ⟨m, ok, hdf, hs, fun i => ?_, r'⟩⟩
      · simp only [Array.getD_eq_getD_getElem?, Array.getElem?_replicate] at hj
        split at hj <;> simp at hj
      · simp only [Array.getD_eq_getD_getElem?, Array.getElem?_replicate] at hj
        split at hj <;> simp at hj
      · rw [cur_none _ _ _ _ _ fun j _ => by
          simp only [Array.getD_eq_getD_getElem?, Array.getElem?_replicate]
          split <;> rfl]
        exact RepV.mono g _ (ht i)
  | .seq x y, Q, σ, a, w, hc, hn, h, hr => by
    simp only [okC, Bool.and_eq_true] at hc
    refine wp_seq (wp_mono (awp_ok hm x _ σ a w hc.1 hn h hr) fun e a' w' hp => ?_)
    obtain ⟨q, σ', rfl, hn', hq, hr'⟩ := hp
    cases q with
    | norm => exact awp_ok hm y Q σ' a' w' hc.2 hn' hq hr'
    | ret => exact ⟨.ret, σ', rfl, hn', hq, hr'⟩
    | exit id => exact ⟨.exit id, σ', rfl, hn', hq, hr'⟩
  | .cond c x y, Q, σ, a, w, hc, hn, h, hr => by
    simp only [okC, Bool.and_eq_true] at hc
    obtain ⟨⟨hcc, hc1⟩, hc2⟩ := hc
    have hc : okC n x = true ∧ okC n y = true := ⟨hc1, hc2⟩
    simp only [awp, condA] at h
    split at h
    · rename_i t ht
      refine wp_cond (rel_weak hr (by rw [hn]; exact hcc) ht) ?_
      cases t with
      | true => exact awp_ok hm x Q σ a w hc.1 hn (h.1 rfl) hr
      | false => exact awp_ok hm y Q σ a w hc.2 hn (h.2 rfl) hr
    · exact h.elim
  | .block id x, Q, σ, a, w, hc, hn, h, hr => by
    refine wp_block (wp_mono (awp_ok hm x _ σ a w hc hn h hr) fun e a' w' hp => ?_)
    obtain ⟨q, σ', rfl, hn', hq, hr'⟩ := hp
    cases q with
    | norm => exact ⟨.norm, σ', rfl, hn', hq, hr'⟩
    | ret => exact ⟨.ret, σ', rfl, hn', hq, hr'⟩
    | exit id' =>
      simp only [blkQ] at hq
      show Exit.inBlock id _ (.exit id') a' w'
      simp only [Exit.inBlock]
      split at hq
      · rename_i e
        rw [if_pos e]
        exact ⟨.norm, σ', rfl, hn', hq, hr'⟩
      · rename_i e
        rw [if_neg e]
        exact ⟨.exit id', σ', rfl, hn', hq, hr'⟩
  | .loop x, Q, σ, a, w, hc, hn, h, hr => by
    simp only [awp, LoopA] at h
    obtain ⟨α, I, st, μ, ⟨a0, h0, hs, hsn, hsh⟩, hb⟩ := h
    -- the measure is the least of those that fit
    let J : Act → World → Prop := fun a w => ∃ i, I i ∧ (st i).n = n ∧ RelS w0 ok0 ρx (st i) a w
    let N : Act → World → Nat → Prop := fun a w k => ∃ i, I i ∧ (st i).n = n ∧ RelS w0 ok0 ρx (st i) a w ∧ μ i = k
    classical
    have least : ∀ a w, J a w → ∃ k, N a w k ∧ ∀ k', N a w k' → k ≤ k' := fun a w ⟨i, h1, h2, h3⟩ => by
      have : ∀ m, N a w m → ∃ k, N a w k ∧ ∀ k', N a w k' → k ≤ k' := by
        intro m
        induction m using Nat.strongRecOn with
        | _ m ih =>
          intro hm
          by_cases hx : ∃ k', N a w k' ∧ k' < m
          · obtain ⟨k', h4, h5⟩ := hx
            exact ih k' h5 h4
          · exact ⟨m, hm, fun k' hk => Nat.le_of_not_lt fun hlt => hx ⟨k', hk, hlt⟩⟩
      exact this (μ i) ⟨i, h1, h2, h3, rfl⟩
    refine wp_loop J (fun a w => if hx : J a w then (least a w hx).choose else 0) ⟨a0, h0, by rw [← hsn]; exact hn, hr.weak hs hsn hsh⟩ fun a1 w1 hJ => ?_
    obtain ⟨⟨i, h1, h2, h3, h4⟩, h5⟩ := (least a1 w1 hJ).choose_spec
    refine wp_mono (awp_ok hm x _ (st i) a1 w1 hc h2 (hb i h1) h3) fun e a' w' hp => ?_
    obtain ⟨q, σ', rfl, hn', hq, hr'⟩ := hp
    cases q with
    | norm =>
      obtain ⟨i', k1, k2, k3, k4, k5⟩ := hq
      have hr2 := hr'.weak k3 k4 k5
      have hJ' : J a' w' := ⟨i', k1, by rw [← k4]; exact hn', hr2⟩
      refine ⟨hJ', ?_⟩
      rw [dif_pos hJ', dif_pos hJ]
      have := (least a' w' hJ').choose_spec.2 (μ i') ⟨i', k1, by rw [← k4]; exact hn', hr2, rfl⟩
      omega
    | ret => exact ⟨.ret, σ', rfl, hn', hq, hr'⟩
    | exit id => exact ⟨.exit id, σ', rfl, hn', hq, hr'⟩
  | .exit id, Q, σ, a, w, _, hn, h, hr => wp_exit ⟨.exit id, σ, rfl, hn, h, hr⟩
  | .ret, Q, σ, a, w, _, hn, h, hr => wp_ret ⟨.ret, σ, rfl, hn, h, hr⟩
  | .label l, Q, σ, a, w, _, hn, h, hr => wp_label ⟨.norm, σ, rfl, hn, h, hr⟩
  | .rangeFunc _ _ _ _, _, _, _, _, _, _, h, _ => h.elim
  | .scope _, _, _, _, _, _, _, h, _ => h.elim
  | .goto _, _, _, _, _, _, _, h, _ => h.elim
  | .refuse _, _, _, _, _, _, _, h, _ => h.elim

/-- The results of a function. -/
def resA (P : Program) (σ : AS) : List ResultVar → (List AV → Prop) → Prop
  | [], K => K []
  | .tmp t :: r, K => resA P σ r fun vs => K (slot σ.t t :: vs)
  | .cell a t :: r, K => elO (td P t) fun D => loadA σ.h D.agg D.size (slot σ.t a) fun v => resA P σ r fun vs => K (v :: vs)

def oneA : List AV → AV
  | [v] => v
  | vs => .tup vs

def notExit : AX → Prop
  | .exit _ => False
  | _ => True
/-- The end of a function: what it returns. -/
def retA (P : Program) (rs : List ResultVar) (res : AV) : AX → AS → Prop := fun e σ =>
  notExit e ∧ resA P σ rs fun vs => toD σ.h (oneA vs) = some res

def resLt (n : Nat) : List ResultVar → Bool
  | [] => true
  | .tmp t :: r => decide (t < n) && resLt n r
  | .cell a _ :: r => decide (a < n) && resLt n r

theorem resA_ok {P : Program} {σ : AS} {m : List (Option Nat)} {ok : Nat → Prop} {w : World} {tmps : Array Value} {n : Nat} (ht : ∀ i, i < n → RepV m ok w (slot σ.t i) (tmps.getD i undef)) (ho : HOwn m ok σ.h w) : ∀ (rs : List ResultVar) (K : List AV → Prop), resLt n rs = true → resA P σ rs K → ∃ xs us, K xs ∧ RepL m ok w xs us ∧ (rs.mapM fun r => (match r with
    | .tmp t => pure (tmps.getD t undef)
    | .cell a t => do loadVar t (← asAddr (tmps.getD a undef)) : Sem Value)).run P w = .ok us w
  | [], K, _, h => ⟨[], [], h, rfl, by simp⟩
  | .tmp t :: r, K, hlt, h => by
    simp only [resLt, Bool.and_eq_true, decide_eq_true_eq] at hlt
    obtain ⟨xs, us, hK, hl, hrun⟩ := resA_ok ht ho r _ hlt.2 h
    exact ⟨_, _, hK, ⟨_, _, rfl, ht t hlt.1, hl⟩, by
      rw [List.mapM_cons]
      simp only [Sem.run_bind, Sem.run_pure, Result.andThen_ok]
      rw [hrun]
      rfl⟩
  | .cell a t :: r, K, hlt, h => by
    simp only [resLt, Bool.and_eq_true, decide_eq_true_eq] at hlt
    have q_ := elO_ex h
    clear h
    obtain ⟨D, hD, h⟩ := q_
    obtain ⟨v, h, hv⟩ := loadA_ok hD h
    obtain ⟨u, hu, hru⟩ := hv m ok w _ (ht a hlt.1) ho
    obtain ⟨xs, us, hK, hl, hrun⟩ := resA_ok ht ho r _ hlt.2 h
    refine ⟨_, _, hK, ⟨u, us, rfl, hru, hl⟩, ?_⟩
    have hu' : ∃ ad, tmps.getD a undef = .pointer (some ad) ∧ (loadVar t ad).run P w = .ok u w := by
      unfold Instr.loadAt at hu
      cases hq : tmps.getD a undef <;> rw [hq] at hu <;> try (simp [Instr.sureAddr, stuck] at hu; done)
      rename_i p
      cases p with
      | none => simp [Instr.sureAddr, stuck] at hu
      | some ad => exact ⟨ad, rfl, by simpa [Instr.sureAddr] using hu⟩
    obtain ⟨ad, h1, h2⟩ := hu'
    rw [List.mapM_cons]
    have e1 : (asAddr (tmps.getD a undef)).run P w = .ok ad w := by rw [h1]; rfl
    simp only [Sem.run_bind, Sem.run_pure, Result.andThen_ok, e1, h2]
    rw [hrun]
    rfl

def argT : List AV → Nat → List (Nat × AV)
  | [], _ => []
  | x :: xs, i => (i, x) :: argT xs (i + 1)

theorem argT_look {m : List (Option Nat)} {ok : Nat → Prop} {w : World} : ∀ {xs : List AV} {us : List Value} (k i : Nat), RepL m ok w xs us → RepV m ok w (slot (argT xs k) i) (if k ≤ i then us.getD (i - k) undef else undef)
  | [], _, k, i, _ => trivial
  | x :: xs, _, k, i, ⟨u, us, rfl, hx, hr⟩ => by
    unfold argT slot
    split
    · rename_i e
      subst e
      simpa using hx
    · rename_i e
      have := argT_look (k + 1) i hr
      by_cases h : k ≤ i
      · rw [if_pos h]
        rw [if_pos (by omega)] at this
        rw [show i - k = (i - (k + 1)) + 1 by omega]
        simpa using this
      · rw [if_neg h]
        rw [if_neg (by omega)] at this
        exact this

theorem RepDL.rep {ok : Nat → Prop} {w : World} {m : List (Option Nat)} : ∀ {xs : List AV} {l : List Value}, RepDL ok w xs l → RepL m ok w xs l := fun h => RepDL.up _ h

/-- A frame at its beginning. -/
theorem enter_rel {m : List (Option Nat)} {ok : Nat → Prop} {w : World} {xs : List AV} {vs : List Value} {n : Nat} (hl : RepL m ok w xs vs) (hn : xs.length ≤ n) (i : Nat) (hi : i < n) : RepV m ok w (slot (argT xs 0) i) ((vs.toArray ++ Array.replicate (n - vs.toArray.size) undef).getD i undef) := by
  have := argT_look (m := m) 0 i hl
  rw [if_pos (Nat.zero_le _), Nat.sub_zero] at this
  have e : (vs.toArray ++ Array.replicate (n - vs.toArray.size) undef).getD i undef = vs.getD i undef := by
    simp only [Array.getD_eq_getD_getElem?, Array.getElem?_append, List.getD_eq_getElem?_getD, Array.getElem?_replicate, List.getElem?_toArray, List.size_toArray]
    split
    · rfl
    · rename_i hlt
      rw [List.getElem?_eq_none (by omega)]
      split <;> rfl
  rw [e]
  exact this

theorem results_ok {P : Program} {fn : Func} {σ : AS} {a : Act} {m : List (Option Nat)} {ok : Nat → Prop} {w : World} {K : List AV → Prop} (ht : ∀ i, i < fn.ntmps → RepV m ok w (slot σ.t i) (a.tmps.getD i undef)) (ho : HOwn m ok σ.h w) (hlt : resLt fn.ntmps fn.results.toList = true) (h : resA P σ fn.results.toList K) :
    ∃ xs v, K xs ∧ (results fn a.tmps).run P w = .ok v w ∧ RepV m ok w (oneA xs) v := by
  obtain ⟨xs, us, hK, hlu, hrun⟩ := resA_ok ht ho _ _ hlt h
  have hlen := hlu.length
  refine ⟨xs, (if h : us.toArray.size = 1 then us.toArray[0] else .tuple us.toArray), hK, ?_, ?_⟩
  · unfold results
    rw [Array.mapM_eq_mapM_toList, Sem.run_bind, Sem.run_map]
    erw [hrun]
    rfl
  · cases us with
    | nil =>
      cases xs with
      | nil => exact ⟨#[], rfl, rfl⟩
      | cons x xs => simp at hlen
    | cons u us =>
      cases us with
      | nil =>
        cases xs with
        | nil => simp at hlen
        | cons x xs =>
          cases xs with
          | nil =>
            obtain ⟨u', us', h1, h2, _⟩ := hlu
            cases h1
            exact h2
          | cons y ys => simp at hlen
      | cons u2 us =>
        cases xs with
        | nil => simp at hlen
        | cons x xs =>
          cases xs with
          | nil => simp at hlen
          | cons y ys =>
            rw [dif_neg (by simp)]
            exact ⟨_, rfl, hlu⟩

/-- What a walk asks of a function. -/
def okF (fn : Func) (c : Code) : Bool := okC fn.ntmps c && resLt fn.ntmps fn.results.toList

/-- A function's walk gives what it makes of its arguments. -/
theorem meets_of {P : Program} {f : FuncId} {fn : Func} {c : Code} {args : List AV} {res : AV} (hm : P.follows .mixedOrders = true) (hf : P.funcs[f]? = some fn) (hname : (fn.name == "runtime.NumGoroutine") = false) (hb : fn.body = some c) (hc : okF fn c = true) (hn : args.length ≤ fn.ntmps)
    (h : awp P c (retA P fn.results.toList res) ⟨fn.ntmps, argT args 0, []⟩) : Meets P f args res := by
  simp only [okF, Bool.and_eq_true] at hc
  refine ⟨Proofs.enters_of hf hname hb, fun ok w vs hok hd => ?_⟩
  have hl := hd.length
  have hr : RelS w ok (fun _ => undef) ⟨fn.ntmps, argT args 0, []⟩ { tmps := vs.toArray ++ Array.replicate (fn.ntmps - vs.toArray.size) undef, defers := [] } w := by
    refine ⟨[], ok, rfl, by simp; omega, fun i => ?_, ⟨rfl, fun L blk hL => by simp at hL, fun L L' b h1 _ => by simp at h1, fun L b blk hL _ => by simp at hL, fun L b hL => by simp at hL, hok, fun b hb => Or.inl hb, Below.refl _ _⟩⟩
    unfold valX
    split
    · exact enter_rel (m := []) hd.rep hn i (by assumption)
    · rename_i hi
      have := argT_look (m := []) 0 i (hd.rep (m := []))
      rw [if_pos (Nat.zero_le _), Nat.sub_zero, List.getD_eq_getElem?_getD, List.getElem?_eq_none (by simp only at hi; omega)] at this
      exact this
  refine calls_of_wp hf hb (wp_mono (awp_ok hm c _ _ _ w hc.1 rfl h hr) fun e a w' hp => ?_)
  obtain ⟨q, σ, rfl, hn', hq, hr'⟩ := hp
  obtain ⟨hq1, hq2⟩ := hq
  obtain ⟨m, ok', hdf, hs, ht, r⟩ := hr'
  obtain ⟨xs, v, hK, hv, hrv⟩ := results_ok (a := a) (fun i hi => by
    have := ht i
    unfold valX at this
    rwa [if_pos (by rw [hn']; exact hi)] at this) r.own hc.2 hq2
  have hD := toD_ok r.own _ hK hrv
  have hfin : RepD (fun b => ok b ∨ (w.heap.size ≤ b ∧ b < w'.heap.size)) w' res v := by
    refine RepD.mono (fun b hb => ?_) (fun _ _ => rfl) res hD
    rcases hb with hb | ⟨L, _, hb⟩
    · rcases r.oko b hb with h1 | h1
      · exact Or.inl h1
      · exact Or.inr ⟨h1, r.okb b hb⟩
    · exact Or.inr (r.new L b hb)
  cases q with
  | norm => exact ⟨hdf, v, hv, v, rfl, hfin, r.bel⟩
  | ret => exact ⟨hdf, v, hv, v, rfl, hfin, r.bel⟩
  | exit id => exact hq1.elim

/-! Calls. -/

/-- A call by what its function is known to make of data. -/
theorem call_meets {P : Program} {σ : AS} {dst : Option Tmp} {g : FuncId} {xs ds : List AV} {res : AV} {K : AS → Prop} (hm : Meets P g ds res) (hds : toDL σ.h xs = some ds)
    (h : if (flat res || (ownsL xs).isEmpty) = true then K (σ.upd dst res [] [] σ.h) else K (σ.upd dst res σ.h (ownsL xs) (killH σ.h (ownsL xs) (dropL (ownsL xs) σ.h)))) : CallS P σ dst g xs K := by
  refine ⟨hm.1, fun w0 ok0 m ok ρ w vs hx ht r => ?_⟩
  have hd := toDL_ok r.own _ hds hx
  have hokx : ∀ b, okx m ok (ownsL xs) b → b < w.heap.size := fun b hb => by
    rcases hb with hb | ⟨L, _, hb⟩
    · exact r.okb b hb
    · exact (r.new L b hb).2
  refine (hm.2 (okx m ok (ownsL xs)) w _ hokx hd).mono fun e w' hp => ?_
  obtain ⟨v, he, hres, hB⟩ := hp
  split at h
  · rename_i hc
    obtain ⟨g', r'⟩ := r.grown hB (ok' := fun b => ok b ∨ (w.heap.size ≤ b ∧ b < w'.heap.size)) (fun b hb => Or.inl hb) (fun b hb => hb)
    have hv : RepV m (fun b => ok b ∨ (w.heap.size ≤ b ∧ b < w'.heap.size)) w' res v := by
      rcases Bool.or_eq_true_iff.1 hc with hfl | hem
      · exact RepD.up _ (flat_ok res hfl hres)
      · have hem' : ownsL xs = [] := by simpa using hem
        rw [hem'] at hres
        refine RepD.up _ (RepD.mono (fun b hb => ?_) (fun _ _ => rfl) res hres)
        rcases hb with (hb | ⟨L, hL, _⟩) | hb
        · exact Or.inl hb
        · cases hL
        · exact Or.inr hb
    exact ⟨v, _, m, _, he, by cases dst <;> rfl, h, by cases dst <;> exact r', slot_upd ht g' hv⟩
  · obtain ⟨g1, r1⟩ := r.freeze (ownsL xs)
    obtain ⟨g2, r2⟩ := r1.grown hB (ok' := fun b => okx m ok (ownsL xs) b ∨ (w.heap.size ≤ b ∧ b < w'.heap.size)) (fun b hb => Or.inl hb) (fun b hb => hb)
    exact ⟨v, _, m, _, he, by cases dst <;> rfl, h, by cases dst <;> exact r2, slot_upd ht (g1.then g2) (RepD.up _ hres)⟩

theorem calld_meets {P : Program} {σ : AS} {dst : Option Tmp} {g : FuncId} {xs ds : List AV} {res : AV} {K : AS → Prop} (hm : Meets P g ds res) (hds : toDL σ.h xs = some ds) (hc : (flat res || (ownsL xs).isEmpty) = true) (h : K (σ.put dst res)) : CallD P σ dst g xs K := ⟨ds, res, hds, hm, hc, h⟩

def shiftT (N : Nat) : List (Nat × AV) → List (Nat × AV)
  | [] => []
  | (i, v) :: r => (N + i, v) :: shiftT N r
def unshift (N : Nat) : List (Nat × AV) → List (Nat × AV)
  | [] => []
  | (i, v) :: r => if N ≤ i then (i - N, v) :: unshift N r else unshift N r
/-- The caller's state behind a call that has been walked. -/
def retT (N n : Nat) (dst : Option Tmp) (v : AV) (σ : AS) : AS :=
  match dst with
  | none => ⟨n, unshift N σ.t, σ.h⟩
  | some d => ⟨n, (d, v) :: unshift N σ.t, σ.h⟩
def inlQ (P : Program) (rs : List ResultVar) (N n : Nat) (dst : Option Tmp) (K : AS → Prop) : AX → AS → Prop := fun e σ =>
  notExit e ∧ resA P σ rs fun vs => K (retT N n dst (oneA vs) σ)

theorem slot_shift (N : Nat) : ∀ (t : List (Nat × AV)) (i : Nat), slot (shiftT N t) i = if N ≤ i then slot t (i - N) else .junk
  | [], i => by simp [shiftT, slot]
  | (j, v) :: r, i => by
    rw [shiftT, slot, slot, slot_shift N r i]
    by_cases h : N ≤ i
    · rw [if_pos h, if_pos h]
      by_cases e : N + j = i
      · rw [if_pos e, if_pos (by omega)]
      · rw [if_neg e, if_neg (by omega)]
    · rw [if_neg h, if_neg h, if_neg (by omega)]
theorem slot_unshift (N : Nat) : ∀ (t : List (Nat × AV)) (i : Nat), slot (unshift N t) i = slot t (N + i)
  | [], i => rfl
  | (j, v) :: r, i => by
    rw [unshift]
    split
    · rw [slot, slot, slot_unshift N r i]
      by_cases e : j - N = i
      · rw [if_pos e, if_pos (by omega)]
      · rw [if_neg e, if_neg (by omega)]
    · rw [slot, slot_unshift N r i, if_neg (by omega)]
theorem slot_args : ∀ (xs : List AV) (k : Nat) (t : List (Nat × AV)) (i : Nat), slot (argT xs k ++ t) i = if k ≤ i ∧ i < k + xs.length then slot (argT xs k) i else slot t i
  | [], k, t, i => by rw [if_neg (by simp)]; rfl
  | x :: xs, k, t, i => by
    rw [argT, List.cons_append, slot, slot, slot_args xs (k + 1) t i]
    by_cases e : k = i
    · rw [if_pos e, if_pos e, if_pos (by simp; omega)]
    · rw [if_neg e, if_neg e]
      by_cases h : k + 1 ≤ i ∧ i < k + 1 + xs.length
      · rw [if_pos h, if_pos (by simp; omega)]
      · rw [if_neg h, if_neg (by simp; omega)]

/-- A call that is walked in its place: the callee may turn what is the caller's own. -/
theorem call_inl {P : Program} {σ : AS} {dst : Option Tmp} {g : FuncId} {fn : Func} {c : Code} {xs : List AV} {K : AS → Prop} (hm : P.follows .mixedOrders = true) (hf : P.funcs[g]? = some fn) (hname : (fn.name == "runtime.NumGoroutine") = false) (hb : fn.body = some c) (hc : okF fn c = true) (hn : xs.length ≤ fn.ntmps)
    (h : awp P c (inlQ P fn.results.toList fn.ntmps σ.n dst K) ⟨fn.ntmps, argT xs 0 ++ shiftT fn.ntmps σ.t, σ.h⟩) : CallS P σ dst g xs K := by
  simp only [okF, Bool.and_eq_true] at hc
  refine ⟨Proofs.enters_of hf hname hb, fun w0 ok0 m ok ρ w vs hx ht r => ?_⟩
  have hl := hx.length
  have hr : RelS w0 ok0 (fun i => ρ (i - fn.ntmps)) ⟨fn.ntmps, argT xs 0 ++ shiftT fn.ntmps σ.t, σ.h⟩ { tmps := vs.toArray ++ Array.replicate (fn.ntmps - vs.toArray.size) undef, defers := [] } w := by
    refine ⟨m, ok, rfl, by simp; omega, fun i => ?_, r⟩
    unfold valX
    rw [slot_args]
    split
    · rename_i hi
      rw [if_pos (by simp only; omega)]
      exact enter_rel hx hn i (by omega)
    · rename_i hi
      rw [slot_shift]
      split
      · rw [if_neg (by simp only; omega)]
        exact ht _
      · trivial
  refine calls_of_wp hf hb (wp_mono (awp_ok hm c _ _ _ w hc.1 rfl h hr) fun e a w' hp => ?_)
  obtain ⟨q, σ', rfl, hn', hq, hr'⟩ := hp
  obtain ⟨hq1, hq2⟩ := hq
  obtain ⟨m', ok', hdf, hs, ht', r'⟩ := hr'
  obtain ⟨ys, v, hK, hv, hrv⟩ := results_ok (a := a) (fun i hi => by
    have := ht' i
    unfold valX at this
    rwa [if_pos (by rw [hn']; exact hi)] at this) r'.own hc.2 hq2
  have hfin : ∃ v' σ2 m2 ok2, Ending.returned v = .returned v' ∧ σ2.n = σ.n ∧ K σ2 ∧ HRel w0 ok0 m2 ok2 σ2.h w' ∧ ∀ i, RepV m2 ok2 w' (slot σ2.t i) (if dst = some i then v' else ρ i) := by
    refine ⟨v, retT fn.ntmps σ.n dst (oneA ys) σ', m', ok', rfl, by cases dst <;> rfl, hK, by cases dst <;> exact r', fun i => ?_⟩
    have hold : RepV m' ok' w' (slot (unshift fn.ntmps σ'.t) i) (ρ i) := by
      rw [slot_unshift]
      have := ht' (fn.ntmps + i)
      unfold valX at this
      rw [if_neg (by omega)] at this
      simpa using this
    cases dst with
    | none => rw [if_neg (by simp)]; exact hold
    | some d =>
      show RepV m' ok' w' (if d = i then oneA ys else slot (unshift fn.ntmps σ'.t) i) _
      by_cases e : d = i
      · rw [if_pos e, if_pos (by rw [e])]; exact hrv
      · rw [if_neg e, if_neg (fun h => e (Option.some.inj h))]; exact hold
  cases q with
  | norm => exact ⟨hdf, v, hv, hfin⟩
  | ret => exact ⟨hdf, v, hv, hfin⟩
  | exit id => exact hq1.elim

theorem guardA_tt (A : AS → (AS → Prop) → Prop) (K : AS → Prop) (dst : Option Tmp) (σ : AS) : guardA A K dst true (.c (.bool true)) σ = A σ K := by simp [guardA]
theorem guardA_tf (A : AS → (AS → Prop) → Prop) (K : AS → Prop) (dst : Option Tmp) (σ : AS) : guardA A K dst true (.c (.bool false)) σ = K (σ.put dst .junk) := by simp [guardA]
theorem guardA_ft (A : AS → (AS → Prop) → Prop) (K : AS → Prop) (dst : Option Tmp) (σ : AS) : guardA A K dst false (.c (.bool true)) σ = K (σ.put dst .junk) := by simp [guardA]
theorem guardA_ff (A : AS → (AS → Prop) → Prop) (K : AS → Prop) (dst : Option Tmp) (σ : AS) : guardA A K dst false (.c (.bool false)) σ = A σ K := by simp [guardA]
theorem guardA_split {A : AS → (AS → Prop) → Prop} {K : AS → Prop} {dst : Option Tmp} {want b : Bool} {σ : AS} (h1 : b = want → A σ K) (h2 : b = (!want) → K (σ.put dst .junk)) : guardA A K dst want (.c (.bool b)) σ := ⟨h1, h2⟩
theorem condA_t (A B : (AX → AS → Prop) → AS → Prop) (Q : AX → AS → Prop) (σ : AS) : condA A B Q (.c (.bool true)) σ = A Q σ := by simp [condA]
theorem condA_f (A B : (AX → AS → Prop) → AS → Prop) (Q : AX → AS → Prop) (σ : AS) : condA A B Q (.c (.bool false)) σ = B Q σ := by simp [condA]
theorem condA_split {A B : (AX → AS → Prop) → AS → Prop} {Q : AX → AS → Prop} {t : Bool} {σ : AS} (h1 : t = true → A Q σ) (h2 : t = false → B Q σ) : condA A B Q (.c (.bool t)) σ := ⟨h1, h2⟩
theorem condA_dec {A B : (AX → AS → Prop) → AS → Prop} {Q : AX → AS → Prop} {p : Prop} [Decidable p] {σ : AS} (h1 : p → A Q σ) (h2 : ¬ p → B Q σ) : condA A B Q (.c (.bool (decide p))) σ := ⟨fun h => h1 (of_decide_eq_true h), fun h => h2 (of_decide_eq_false h)⟩

/-- A loop over a number: what is known at its head after k rounds. -/
theorem loop_k {B : (AX → AS → Prop) → AS → Prop} {Q : AX → AS → Prop} {σ : AS} {α : Type} (I : α → Prop) (st : α → AS) (μ : α → Nat) (a0 : α) (h0 : I a0) (hw : Weak σ.t (st a0).t) (hn : σ.n = (st a0).n) (hh : σ.h = (st a0).h)
    (h : ∀ a, I a → ∀ K : AS → Prop, (∀ a' σ', I a' → μ a' < μ a → Weak σ'.t (st a').t → σ'.n = (st a').n → σ'.h = (st a').h → K σ') → B (loopQ Q K) (st a)) : LoopA B Q σ :=
  ⟨α, I, st, μ, ⟨a0, h0, hw, hn, .inl hh⟩, fun a ha => h a ha _ fun a' σ' h1 h2 h3 h4 h5 => ⟨a', h1, h2, h3, h4, .inl h5⟩⟩

/-- A loop that lays blocks in its rounds which are forgotten behind each round. -/
theorem loop_g {B : (AX → AS → Prop) → AS → Prop} {Q : AX → AS → Prop} {σ : AS} {α : Type} (I : α → Prop) (st : α → AS) (μ : α → Nat) (a0 : α) (h0 : I a0) (hw : Weak σ.t (st a0).t) (hn : σ.n = (st a0).n) (hh : HW σ.h (st a0))
    (h : ∀ a, I a → ∀ K : AS → Prop, (∀ a' σ', I a' → μ a' < μ a → Weak σ'.t (st a').t → σ'.n = (st a').n → HW σ'.h (st a') → K σ') → B (loopQ Q K) (st a)) : LoopA B Q σ :=
  ⟨α, I, st, μ, ⟨a0, h0, hw, hn, hh⟩, fun a ha => h a ha _ fun a' σ' h1 h2 h3 h4 h5 => ⟨a', h1, h2, h3, h4, h5⟩⟩
theorem HW.trim {h : Heap} {σ : AS} (h1 : h.take σ.h.length = σ.h) (h2 : refsT σ.h.length σ.t = true) (h3 : refsH σ.h.length σ.h = true) : HW h σ := .inr ⟨h1, h2, h3⟩


/-! The walk's own steps, as rules for whole calls alone. -/
section
variable (P : Program) (Q : AX → AS → Prop) (σ : AS)
theorem awp_skip : awp P .skip Q σ = Q .norm σ := Eq.trans rfl rfl
theorem awp_reg (i : Nat) (ops : Array Oper) : awp P (.region i ops false) Q σ = awpOps P ops (Q .norm) ops.toList σ := Eq.trans rfl rfl
theorem awp_regD (i : Nat) (ops : Array Oper) : awp P (.region i ops true) Q σ = awpOpsD P ops (Q .norm) ops.toList σ := Eq.trans rfl rfl
theorem awp_seq (a b : Code) : awp P (.seq a b) Q σ = awp P a (seqQ (awp P b) Q) σ := Eq.trans rfl rfl
theorem awp_cond (c : Operand) (a b : Code) : awp P (.cond c a b) Q σ = condA (awp P a) (awp P b) Q (aev σ c) σ := Eq.trans rfl rfl
theorem awp_block (i : Nat) (a : Code) : awp P (.block i a) Q σ = awp P a (blkQ i Q) σ := Eq.trans rfl rfl
theorem awp_loop (a : Code) : awp P (.loop a) Q σ = LoopA (awp P a) Q σ := Eq.trans rfl rfl
theorem awp_exit (i : Nat) : awp P (.exit i) Q σ = Q (.exit i) σ := Eq.trans rfl rfl
theorem awp_ret : awp P .ret Q σ = Q .ret σ := Eq.trans rfl rfl
theorem awp_label (l : Nat) : awp P (.label l) Q σ = Q .norm σ := Eq.trans rfl rfl
variable (B : (AX → AS → Prop) → AS → Prop) (K : AS → Prop) (i j : Nat)
theorem seqQ_n : seqQ B Q .norm σ = B Q σ := Eq.trans rfl rfl
theorem seqQ_r : seqQ B Q .ret σ = Q .ret σ := Eq.trans rfl rfl
theorem seqQ_e : seqQ B Q (.exit i) σ = Q (.exit i) σ := Eq.trans rfl rfl
theorem loopQ_n : loopQ Q K .norm σ = K σ := Eq.trans rfl rfl
theorem loopQ_r : loopQ Q K .ret σ = Q .ret σ := Eq.trans rfl rfl
theorem loopQ_e : loopQ Q K (.exit i) σ = Q (.exit i) σ := Eq.trans rfl rfl
theorem blkQ_n : blkQ i Q .norm σ = Q .norm σ := Eq.trans rfl rfl
theorem blkQ_r : blkQ i Q .ret σ = Q .ret σ := Eq.trans rfl rfl
theorem blkQ_e : blkQ i Q (.exit j) σ = if j = i then Q .norm σ else Q (.exit j) σ := Eq.trans rfl rfl
variable (ops : Array Oper) (l : List Oper) (d : Option Tmp) (op : Op) (ty : TypeId) (p : String) (a : Array Edge) (w b : Bool) (n : Nat) (t : List (Nat × AV)) (h : Heap) (v : AV) (s : Tmp)
theorem awpOps_nil : awpOps P ops K [] σ = K σ := Eq.trans rfl rfl
theorem awpOps_one : awpOps P ops K (⟨d, op, ty, p, a, none⟩ :: l) σ = awpOp P σ ⟨d, op, ty, p, a, none⟩ (awpOps P ops K l) := Eq.trans rfl rfl
theorem awpOps_if : awpOps P ops K (⟨d, op, ty, p, a, some (j, w)⟩ :: l) σ = guardA (awpO P ⟨d, op, ty, p, a, some (j, w)⟩) (awpOps P ops K l) d w (yieldA ops σ j) σ := Eq.trans rfl rfl
theorem awpOpsD_nil : awpOpsD P ops K [] σ = K σ := Eq.trans rfl rfl
theorem awpOpsD_one : awpOpsD P ops K (⟨d, op, ty, p, a, none⟩ :: l) σ = if keepOp op = true then awpOpD P σ ⟨d, op, ty, p, a, none⟩ (awpOpsD P ops K l) else awpOps P ops K (⟨d, op, ty, p, a, none⟩ :: l) σ := Eq.trans rfl rfl
theorem awpOpsD_if : awpOpsD P ops K (⟨d, op, ty, p, a, some (j, w)⟩ :: l) σ = if keepOp op = true then guardA (awpOD P ⟨d, op, ty, p, a, some (j, w)⟩) (awpOpsD P ops K l) d w (yieldA ops σ j) σ else awpOps P ops K (⟨d, op, ty, p, a, some (j, w)⟩ :: l) σ := Eq.trans rfl rfl
theorem awpOp_is (g : Option (Nat × Bool)) : awpOp P σ ⟨d, op, ty, p, a, g⟩ K = if pureOp op = true then apureO P σ op (putK σ d K) else if isCallV op = true then callW P σ d K op else astepO P σ op (updK σ d K) := Eq.trans rfl rfl
theorem callW_is (f : Operand) (args : Array Operand) (ats : Array TypeId) : callW P σ d K (.call ⟨.value f, args, ats⟩) = callV P σ d (args.toList.map (aev σ)) K (aev σ f) := Eq.trans rfl rfl
theorem callV_is (xs : List AV) (g : FuncId) (cap : List AV) : callV P σ d xs K (.fn g cap) = CallS P σ d g (xs ++ cap) K := Eq.trans rfl rfl
theorem inlQ_is (rs : List ResultVar) (N m : Nat) (e : AX) : inlQ P rs N m d K e σ = (notExit e ∧ resA P σ rs fun vs => K (retT N m d (oneA vs) σ)) := Eq.trans rfl rfl
theorem retT_n (N m : Nat) : retT N m none v ⟨n, t, h⟩ = ⟨m, unshift N t, h⟩ := Eq.trans rfl rfl
theorem retT_s (N m : Nat) : retT N m (some s) v ⟨n, t, h⟩ = ⟨m, (s, v) :: unshift N t, h⟩ := Eq.trans rfl rfl
theorem awpOpD_is (g : Option (Nat × Bool)) : awpOpD P σ ⟨d, op, ty, p, a, g⟩ K = if pureOp op = true then apureO P σ op (putK σ d K) else if isCallV op = true then callWD P σ d K op else astepO P σ op (updD σ d K) := Eq.trans rfl rfl
theorem callWD_is (f : Operand) (args : Array Operand) (ats : Array TypeId) : callWD P σ d K (.call ⟨.value f, args, ats⟩) = callVD P σ d (args.toList.map (aev σ)) K (aev σ f) := Eq.trans rfl rfl
theorem callVD_is (xs : List AV) (g : FuncId) (cap : List AV) : callVD P σ d xs K (.fn g cap) = CallD P σ d g (xs ++ cap) K := Eq.trans rfl rfl
theorem awpO_is (o : Oper) : awpO P o σ K = awpOp P σ o K := Eq.trans rfl rfl
theorem awpOD_is (o : Oper) : awpOD P o σ K = awpOpD P σ o K := Eq.trans rfl rfl
theorem putK_is : putK σ d K v = K (σ.put d v) := Eq.trans rfl rfl
theorem updK_is (hk : Heap) (ks : List Nat) (h' : Heap) : updK σ d K v hk ks h' = K (σ.upd d v hk ks h') := Eq.trans rfl rfl
theorem updD_is (hk : Heap) (ks : List Nat) (h' : Heap) : updD σ d K v hk ks h' = (hk = [] ∧ ks = [] ∧ h' = σ.h ∧ K (σ.put d v)) := Eq.trans rfl rfl
theorem put_n : AS.put ⟨n, t, h⟩ none v = ⟨n, t, h⟩ := Eq.trans rfl rfl
theorem put_s : AS.put ⟨n, t, h⟩ (some s) v = ⟨n, (s, v) :: t, h⟩ := Eq.trans rfl rfl
theorem upd_n (hk : Heap) (ks : List Nat) (h' : Heap) : AS.upd ⟨n, t, h⟩ none v hk ks h' = ⟨n, killT hk ks t, h'⟩ := Eq.trans rfl rfl
theorem upd_s (hk : Heap) (ks : List Nat) (h' : Heap) : AS.upd ⟨n, t, h⟩ (some s) v hk ks h' = ⟨n, (s, v) :: killT hk ks t, h'⟩ := Eq.trans rfl rfl
theorem slot_is (v : AV) (r : List (Nat × AV)) : slot ((i, v) :: r) j = if i = j then v else slot r j := Eq.trans rfl rfl
theorem retA_is (rs : List ResultVar) (res : AV) (e : AX) : retA P rs res e σ = (notExit e ∧ resA P σ rs fun vs => toD σ.h (oneA vs) = some res) := Eq.trans rfl rfl
end


theorem RepDL.split {ok : Nat → Prop} {w : World} : ∀ {pre : List AV} {x : AV} {post : List AV} {l : List Value}, RepDL ok w (pre ++ x :: post) l → ∃ us v vs, l = us ++ v :: vs ∧ RepDL ok w pre us ∧ RepD ok w x v ∧ RepDL ok w post vs
  | [], x, post, l, ⟨u, us, hl, hx, hr⟩ => ⟨[], u, us, hl, rfl, hx, hr⟩
  | y :: pre, x, post, l, ⟨u, us, hl, hx, hr⟩ => by
    obtain ⟨a, v, b, rfl, h1, h2, h3⟩ := RepDL.split hr
    exact ⟨u :: a, v, b, hl, ⟨u, a, rfl, hx, h1⟩, h2, h3⟩
theorem RepDL.join {ok : Nat → Prop} {w : World} : ∀ {pre : List AV} {x : AV} {post : List AV} {us : List Value} {v : Value} {vs : List Value}, RepDL ok w pre us → RepD ok w x v → RepDL ok w post vs → RepDL ok w (pre ++ x :: post) (us ++ v :: vs)
  | [], _, _, _, _, _, h1, h2, h3 => by cases h1; exact ⟨_, _, rfl, h2, h3⟩
  | y :: pre, _, _, _, _, _, ⟨u, us, hl, hx, hr⟩, h2, h3 => by subst hl; exact ⟨u, _, rfl, hx, RepDL.join hr h2 h3⟩

/-- A slice is nil, or it is not. -/
theorem Meets.parts {P : Program} {f : FuncId} {pre post : List AV} {st : Nat} {es : List (List AV)} {res : AV} (h1 : Meets P f (pre ++ .sl true st es :: post) res) (h2 : es = [] → Meets P f (pre ++ .nils :: post) res) : Meets P f (pre ++ .sl false st es :: post) res := by
  refine ⟨h1.1, fun ok w vs hok hd => ?_⟩
  obtain ⟨us, v, vs', rfl, a1, a2, a3⟩ := hd.split
  obtain ⟨A, cap, rfl, ⟨_, hc⟩, hr⟩ := a2
  cases A with
  | none =>
    obtain rfl := hc rfl
    have he : es = [] := by
      rcases Nat.eq_zero_or_pos es.length with h0 | h0
      · exact List.eq_nil_of_length_eq_zero h0
      · obtain ⟨b, o, h, _⟩ := hr h0; cases h
    subst he
    exact (h2 rfl).2 ok w _ hok (RepDL.join a1 rfl a3)
  | some a => exact h1.2 ok w _ hok (RepDL.join a1 ⟨_, cap, rfl, ⟨fun _ h => (by cases h), fun h => (by cases h)⟩, hr⟩ a3)
theorem Meets.nil {P : Program} {f : FuncId} {pre post : List AV} {st : Nat} {res : AV} (h : Meets P f (pre ++ .sl false st [] :: post) res) : Meets P f (pre ++ .nils :: post) res :=
  ⟨h.1, fun ok w vs hok hd => by
    obtain ⟨us, v, vs', rfl, a1, a2, a3⟩ := hd.split
    exact h.2 ok w _ hok (RepDL.join a1 ⟨none, 0, a2, ⟨fun h => (by cases h), fun _ => rfl⟩, fun h0 => by simp at h0⟩ a3)⟩


theorem oneA_1 (v : AV) : oneA [v] = v := rfl
theorem oneA_2 (a b : AV) (l : List AV) : oneA (a :: b :: l) = .tup (a :: b :: l) := rfl
theorem oneA_0 : oneA [] = .tup [] := rfl
theorem resA_nil (P : Program) (σ : AS) (K : List AV → Prop) : resA P σ [] K = K [] := Eq.trans rfl rfl
theorem resA_tmp (P : Program) (σ : AS) (t : Tmp) (r : List ResultVar) (K : List AV → Prop) : resA P σ (.tmp t :: r) K = resA P σ r fun vs => K (slot σ.t t :: vs) := Eq.trans rfl rfl
theorem resA_cell (P : Program) (σ : AS) (a : Tmp) (t : TypeId) (r : List ResultVar) (K : List AV → Prop) : resA P σ (.cell a t :: r) K = elO (td P t) fun D => loadA σ.h D.agg D.size (slot σ.t a) fun v => resA P σ r fun vs => K (v :: vs) := Eq.trans rfl rfl


section
variable (h : Heap) (ks : List Nat) (L i j st n : Nat) (x : AV) (xs : List AV) (f : FuncId) (v : Value) (es : List (List AV)) (nn : Bool)
theorem flat_c : flat (.c v) = true := Eq.trans rfl rfl
theorem flat_nils : flat .nils = true := Eq.trans rfl rfl
theorem flat_junk : flat .junk = true := Eq.trans rfl rfl
theorem flat_tup : flat (.tup xs) = flatL xs := Eq.trans rfl rfl
theorem flat_agg : flat (.agg xs) = flatL xs := Eq.trans rfl rfl
theorem flat_sl : flat (.sl nn st es) = false := Eq.trans rfl rfl
theorem flat_own : flat (.own L st n) = false := Eq.trans rfl rfl
theorem flat_fn : flat (.fn f xs) = false := Eq.trans rfl rfl
theorem flat_dptr : flat (.dptr xs) = false := Eq.trans rfl rfl
theorem flat_ptr : flat (.ptr L j) = false := Eq.trans rfl rfl
theorem flatL_nil : flatL [] = true := Eq.trans rfl rfl
theorem flatL_cons : flatL (x :: xs) = (flat x && flatL xs) := Eq.trans rfl rfl
theorem isD_c : isD (.c v) = true := Eq.trans rfl rfl
theorem isD_nils : isD .nils = true := Eq.trans rfl rfl
theorem isD_junk : isD .junk = true := Eq.trans rfl rfl
theorem isD_tup : isD (.tup xs) = isDL xs := Eq.trans rfl rfl
theorem isD_agg : isD (.agg xs) = isDL xs := Eq.trans rfl rfl
theorem isD_sl : isD (.sl nn st es) = true := Eq.trans rfl rfl
theorem isD_own : isD (.own L st n) = false := Eq.trans rfl rfl
theorem isD_fn : isD (.fn f xs) = isDL xs := Eq.trans rfl rfl
theorem isD_dptr : isD (.dptr xs) = true := Eq.trans rfl rfl
theorem isD_ptr : isD (.ptr L j) = false := Eq.trans rfl rfl
theorem isDL_nil : isDL [] = true := Eq.trans rfl rfl
theorem isDL_cons : isDL (x :: xs) = (isD x && isDL xs) := Eq.trans rfl rfl
theorem ownsV_c : ownsV (.c v) = [] := Eq.trans rfl rfl
theorem ownsV_nils : ownsV .nils = [] := Eq.trans rfl rfl
theorem ownsV_junk : ownsV .junk = [] := Eq.trans rfl rfl
theorem ownsV_tup : ownsV (.tup xs) = ownsL xs := Eq.trans rfl rfl
theorem ownsV_agg : ownsV (.agg xs) = ownsL xs := Eq.trans rfl rfl
theorem ownsV_sl : ownsV (.sl nn st es) = [] := Eq.trans rfl rfl
theorem ownsV_own : ownsV (.own L st n) = [L] := Eq.trans rfl rfl
theorem ownsV_fn : ownsV (.fn f xs) = ownsL xs := Eq.trans rfl rfl
theorem ownsV_dptr : ownsV (.dptr xs) = [] := Eq.trans rfl rfl
theorem ownsV_ptr : ownsV (.ptr L j) = [L] := Eq.trans rfl rfl
theorem ownsL_nil : ownsL [] = [] := Eq.trans rfl rfl
theorem ownsL_cons : ownsL (x :: xs) = ownsV x ++ ownsL xs := Eq.trans rfl rfl
theorem toD_c : toD h (.c v) = some (.c v) := Eq.trans rfl rfl
theorem toD_nils : toD h .nils = some .nils := Eq.trans rfl rfl
theorem toD_junk : toD h .junk = some .junk := Eq.trans rfl rfl
theorem toD_tup : toD h (.tup xs) = (toDL h xs).map .tup := Eq.trans rfl rfl
theorem toD_agg : toD h (.agg xs) = (toDL h xs).map .agg := Eq.trans rfl rfl
theorem toD_sl : toD h (.sl nn st es) = some (.sl false st es) := Eq.trans rfl rfl
theorem toD_own : toD h (.own L st n) = (elemsA h (.own L st n)).map fun p => .sl false p.1 p.2 := Eq.trans rfl rfl
theorem toD_fn : toD h (.fn f xs) = (toDL h xs).map (.fn f) := Eq.trans rfl rfl
theorem toD_dptr : toD h (.dptr xs) = some (.dptr xs) := Eq.trans rfl rfl
theorem toD_ptr : toD h (.ptr L j) = match h[L]? with
    | some (some (.var _ cs)) => if isDL cs = true then some (.dptr (cs.drop j)) else none
    | _ => none := Eq.trans rfl rfl
def consO : Option AV → Option (List AV) → Option (List AV)
  | some y, some ys => some (y :: ys)
  | _, _ => none
theorem consO_some (y : AV) (ys : List AV) : consO (some y) (some ys) = some (y :: ys) := rfl
theorem toDL_nil : toDL h [] = some [] := Eq.trans rfl rfl
theorem toDL_cons : toDL h (x :: xs) = consO (toD h x) (toDL h xs) := by
  rw [toDL]
  unfold consO
  rfl
theorem killV_c : killV h ks (.c v) = .c v := Eq.trans rfl rfl
theorem killV_nils : killV h ks .nils = .nils := Eq.trans rfl rfl
theorem killV_junk : killV h ks .junk = .junk := Eq.trans rfl rfl
theorem killV_tup : killV h ks (.tup xs) = .tup (killL h ks xs) := Eq.trans rfl rfl
theorem killV_agg : killV h ks (.agg xs) = .agg (killL h ks xs) := Eq.trans rfl rfl
theorem killV_sl : killV h ks (.sl nn st es) = .sl nn st es := Eq.trans rfl rfl
theorem killV_own : killV h ks (.own L st n) = if L ∈ ks then (match elemsA h (.own L st n) with
    | some (st', es) => .sl false st' es
    | none => .junk) else .own L st n := Eq.trans rfl rfl
theorem killV_fn : killV h ks (.fn f xs) = .fn f (killL h ks xs) := Eq.trans rfl rfl
theorem killV_dptr : killV h ks (.dptr xs) = .dptr xs := Eq.trans rfl rfl
theorem killV_ptr : killV h ks (.ptr L j) = if L ∈ ks then .junk else .ptr L j := Eq.trans rfl rfl
theorem killV_rp : killV h ks (.rp L i j) = if L ∈ ks then .junk else .rp L i j := Eq.trans rfl rfl
theorem killL_nil : killL h ks [] = [] := Eq.trans rfl rfl
theorem killL_cons : killL h ks (x :: xs) = killV h ks x :: killL h ks xs := Eq.trans rfl rfl
end


theorem convA_c {P : Program} {σ : AS} {s d : TypeId} {x : Operand} {k : IntKind} {n : Int} {K : AV → Prop} : convA P σ s d x (.c (.int k n)) K = apureO P σ (.convert s d x) K := Eq.trans rfl rfl
theorem convA_own {P : Program} {σ : AS} {s d : TypeId} {x : Operand} {L st n : Nat} {K : AV → Prop} : convA P σ s d x (.own L st n) K = if s = d then convM P σ.h s L n (K (.own L st n)) else convS P σ.h s d (.own L st n) K := Eq.trans rfl rfl
theorem convM_is {P : Program} {h : Heap} {s : TypeId} {L n : Nat} {K : Prop} : convM P h s L n K = elO (td P s) fun S => elO S.elem fun e => elO (td P e) fun E => E.ik = some .u8 ∧ 0 < n ∧ elO (rowE h L) fun _ => K := Eq.trans rfl rfl
theorem convA_sl {P : Program} {σ : AS} {s d : TypeId} {x : Operand} {nn : Bool} {st : Nat} {es : List (List AV)} {K : AV → Prop} : convA P σ s d x (.sl nn st es) K = convS P σ.h s d (.sl nn st es) K := Eq.trans rfl rfl
theorem convS_is {P : Program} {h : Heap} {s d : TypeId} {x : AV} {K : AV → Prop} : convS P h s d x K = elO (td P s) fun S => elO (td P d) fun D => D.str = true ∧ elO S.elem fun e => elO (td P e) fun E => E.ik = some .u8 ∧ elO (elemsN h 1 x) fun es => elO (bytesA es) fun bs => K (.c (.string (bytesS bs))) := Eq.trans rfl rfl
section
variable {P : Program} {σ : AS} {t t' : TypeId} {s x : Operand} {K : AV → Heap → List Nat → Heap → Prop}
theorem appA_c (bs : ByteArray) : appA P σ t t' s x K (.c (.string bs)) = appS P σ t t' bs K (aev σ s) := Eq.trans rfl rfl
theorem appA_own (L st n : Nat) : appA P σ t t' s x K (.own L st n) = appV P σ t t' s x K := Eq.trans rfl rfl
theorem appA_sl (nn : Bool) (st : Nat) (es : List (List AV)) : appA P σ t t' s x K (.sl nn st es) = appV P σ t t' s x K := Eq.trans rfl rfl
theorem appA_nils : appA P σ t t' s x K .nils = appV P σ t t' s x K := Eq.trans rfl rfl
end
theorem bytesA_nil : bytesA [] = some [] := rfl
theorem bytesA_cons (n : Int) (r : List (List AV)) : bytesA ([.c (.int .u8 n)] :: r) = (bytesA r).map (n :: ·) := rfl
theorem bytesA_map (ns : List Int) : bytesA (ns.map fun n => [.c (.int .u8 n)]) = some ns := by
  induction ns with
  | nil => rfl
  | cons n ns ih => rw [List.map_cons, bytesA_cons, ih]; rfl

theorem elO_s {α : Type} (a : α) (K : α → Prop) : elO (some a) K = K a := Eq.trans rfl rfl
theorem loadA_d (h : Heap) (agg : Bool) (size : Nat) (xs : List AV) (K : AV → Prop) : loadA h agg size (.dptr xs) K = if agg then size ≤ xs.length ∧ K (.agg (xs.take size)) else elO xs[0]? K := Eq.trans rfl rfl
theorem loadA_p (h : Heap) (agg : Bool) (size : Nat) (L j : Nat) (K : AV → Prop) : loadA h agg size (.ptr L j) K = match h[L]? with
    | some (some (.var _ cs)) => if agg then j + size ≤ cs.length ∧ K (.agg ((cs.drop j).take size)) else elO cs[j]? K
    | _ => False := Eq.trans rfl rfl
theorem loadA_r (h : Heap) (agg : Bool) (size : Nat) (L i j : Nat) (K : AV → Prop) : loadA h agg size (.rp L i j) K = match h[L]? with
    | some (some (.row _ st es)) => st ≠ 0 ∧ i % st = 0 ∧ elO es[i / st]? fun e => if agg then j + size ≤ e.length ∧ K (.agg ((e.drop j).take size)) else elO e[j]? K
    | _ => False := Eq.trans rfl rfl


/-! Results that say less. -/
theorem Meets.weak {P : Program} {f : FuncId} {args : List AV} {r0 r : AV} (h : Meets P f args r0) (hr : ∀ ok w v, RepD ok w r0 v → RepD ok w r v) : Meets P f args r :=
  ⟨h.1, fun ok w vs hok hd => (h.2 ok w vs hok hd).mono fun e w' ⟨v, he, hv, hB⟩ => ⟨v, he, hr _ _ _ hv, hB⟩⟩
section
variable {ok : Nat → Prop} {w : World} {v : Value} {l : List Value} {x y : AV} {xs ys : List AV}
theorem nil_imp {st : Nat} (h : RepD ok w .nils v) : RepD ok w (.sl false st []) v :=
  ⟨none, 0, h, ⟨fun h => (by cases h), fun _ => rfl⟩, fun h0 => by simp at h0⟩
theorem cons_imp (h1 : ∀ u, RepD ok w x u → RepD ok w y u) (h2 : ∀ us, RepDL ok w xs us → RepDL ok w ys us) (h : RepDL ok w (x :: xs) l) : RepDL ok w (y :: ys) l := by
  obtain ⟨u, us, e, a, b⟩ := h
  exact ⟨u, us, e, h1 u a, h2 us b⟩
theorem agg_imp (h : ∀ us, RepDL ok w xs us → RepDL ok w ys us) (k : RepD ok w (.agg xs) v) : RepD ok w (.agg ys) v := by
  obtain ⟨vs, e, a, b⟩ := k
  exact ⟨vs, e, h _ a, b⟩
theorem tup_imp (h : ∀ us, RepDL ok w xs us → RepDL ok w ys us) (k : RepD ok w (.tup xs) v) : RepD ok w (.tup ys) v := by
  obtain ⟨vs, e, a⟩ := k
  exact ⟨vs, e, h _ a⟩
end

/-! A law: whatever lies in memory, the call returns true. -/
theorem law_of {P : Program} {f : FuncId} {args : List AV} {b : Bool} (h : Meets P f args (.c (.bool b))) {w : World} {vs : List Value} (hd : RepDL (fun k => k < w.heap.size) w args vs) :
    Calls P f vs.toArray w fun e w' => e = .returned (.bool b) ∧ Below w.heap.size w w' :=
  (h.2 _ w vs (fun _ h => h) hd).mono fun e w' ⟨v, he, hv, hB⟩ => ⟨by rw [he]; simp only [RepD] at hv; rw [hv], hB⟩
end

end Go.Proofs.YtnoaknemndjpmaaDoor.Eng
