/- A walk over values in the place of memory: what a call knows of its slots and of its own blocks, and how each operation turns it. No program is named here. -/
import Derived.Orders
import Derived.Below
import Derived.Maps.AppendAt
import Derived.Laws.IdiomCopy
import Derived.Laws.MakeOwn
import Derived.RangeFuncWrites
import Derived.MapKept
import Derived.WalkKit
import Derived.Laws.Small
import Derived.Laws.Cover3
import Derived.Laws.StructEq
import Derived.ChangeMaps
import Derived.Great.BuildSlice
import Derived.Lib.AppendStr
import Derived.Shelf.Abstract
import Derived.Lib.AppendZeros
import Derived.Lib.AppendZerosOnto
namespace Go.Proofs.Ytgjamefpphhobaa.Eng
set_option linter.unusedVariables false
set_option linter.unusedSimpArgs false
set_option linter.unusedSectionVars false

-- part 1
section
/-- What a slot holds, as far as a walk knows it. -/
inductive AV where
  | junk
  | c (v : Value)
  | nils
  | sl (nn : Bool) (st : Nat) (es : List (List AV))
  | cut (st : Nat) (es : List (List AV))
  | dptr (xs : List AV)
  | ptr (L j : Nat)
  | rp (L i j : Nat)
  | mp (L : Nat)
  | own (L st n : Nat)
  | agg (xs : List AV)
  | tup (xs : List AV)
  | fn (f : FuncId) (cap : List AV)
  | mv (f : FuncId) (fst : List AV)

/-- The kind of a map's keys, and a key. -/
inductive KT where
  | s
  | i (q : IntKind)
deriving DecidableEq
inductive MK where
  | s (b : ByteArray)
  | i (n : Int)
deriving DecidableEq
def keyV : KT → MK → Value
  | _, .s b => .string b
  | .i q, .i n => .int q n
  | .s, .i n => .int .i64 n
def keyOk : KT → MK → Bool
  | .s, .s _ => true
  | .i _, .i _ => true
  | _, _ => false

inductive Blk where
  | var (t : TypeId) (cs : List AV)
  | row (e : TypeId) (st : Nat) (es : List (List AV))
  | map (k : KT) (es : List (MK × AV))

abbrev Heap := List (Option Blk)

structure AS where
  n : Nat
  t : List (Nat × AV)
  h : Heap

mutual
/-- Data: a value that is as it is known, all in blocks that 'ok' lets by. -/
def RepD (ok : Nat → Prop) (w : World) : AV → Value → Prop
  | .junk, _ => True
  | .c u, v => v = u
  | .nils, v => v = .slice none 0 0
  | .sl nn st es, v => ∃ A cap, v = .slice A es.length cap ∧ ((nn = true → A ≠ none) ∧ (A = none → cap = 0) ∧ es.length ≤ cap) ∧ (0 < es.length → ∃ b o, A = some ⟨b, o, none⟩ ∧ ok b ∧ RepEs ok w st b o es)
  | .cut st es, v => ∃ A, v = .slice A es.length es.length ∧ (0 < es.length → ∃ b o, A = some ⟨b, o, none⟩ ∧ ok b ∧ RepEs ok w st b o es)
  | .dptr xs, v => ∃ b o, v = .pointer (some ⟨b, o, none⟩) ∧ ok b ∧ RepCs ok w b o xs
  | .ptr _ _, _ => False
  | .rp _ _ _, _ => False
  | .mp _, _ => False
  | .own _ _ _, _ => False
  | .agg xs, v => ∃ vs, v = .agg vs ∧ RepDL ok w xs vs.toList ∧ ∀ u ∈ vs.toList, u.oneCell' = true
  | .tup xs, v => ∃ vs, v = .tuple vs ∧ RepDL ok w xs vs.toList
  | .fn f cap, v => ∃ vs, v = .func (.func f) #[] vs ∧ RepDL ok w cap vs.toList
  | .mv f cap, v => ∃ vs, v = .func (.func f) vs #[] ∧ RepDL ok w cap vs.toList
def RepDL (ok : Nat → Prop) (w : World) : List AV → List Value → Prop
  | [], l => l = []
  | x :: xs, l => ∃ u us, l = u :: us ∧ RepD ok w x u ∧ RepDL ok w xs us
def RepCs (ok : Nat → Prop) (w : World) (b o : Nat) : List AV → Prop
  | [] => True
  | x :: xs => (∃ u, w.cell? ⟨b, o, none⟩ = some u ∧ u.oneCell' = true ∧ RepD ok w x u) ∧ RepCs ok w b (o + 1) xs
def RepEs (ok : Nat → Prop) (w : World) (st b o : Nat) : List (List AV) → Prop
  | [] => True
  | e :: es => e.length = st ∧ RepCs ok w b o e ∧ RepEs ok w st b (o + st) es
end

/-- Where a slice of the call's own lies: nowhere (nil), or at the head of a block. -/
def OwnV (w : World) (st n : Nat) (v : Value) : Option Nat → Prop
  | none => n = 0 ∧ v = .slice none 0 0
  | some b => ∃ cap t, v = .slice (some ⟨b, 0, none⟩) n cap ∧ n ≤ cap ∧ cap ≤ maxLen ∧ w.shape? b = some (t, cap * st)

mutual
/-- A value that is as the walk knows it. -/
def RepV (m : List (Option Nat)) (ok : Nat → Prop) (w : World) : AV → Value → Prop
  | .ptr L j, v => ∃ b, m[L]? = some (some b) ∧ v = .pointer (some ⟨b, j, none⟩)
  | .rp L k j, v => ∃ b, m[L]? = some (some b) ∧ v = .pointer (some ⟨b, k + j, none⟩)
  | .mp L, v => ∃ b, m[L]? = some (some b) ∧ v = .map (some b)
  | .own L st n, v => ∃ ob, m[L]? = some ob ∧ OwnV w st n v ob
  | .agg xs, v => ∃ vs, v = .agg vs ∧ RepL m ok w xs vs.toList ∧ ∀ u ∈ vs.toList, u.oneCell' = true
  | .tup xs, v => ∃ vs, v = .tuple vs ∧ RepL m ok w xs vs.toList
  | .fn f cap, v => ∃ vs, v = .func (.func f) #[] vs ∧ RepL m ok w cap vs.toList
  | .mv f cap, v => ∃ vs, v = .func (.func f) vs #[] ∧ RepL m ok w cap vs.toList
  | .junk, _ => True
  | .c u, v => v = u
  | .nils, v => v = .slice none 0 0
  | .sl nn st es, v => RepD ok w (.sl nn st es) v
  | .cut st es, v => RepD ok w (.cut st es) v
  | .dptr xs, v => RepD ok w (.dptr xs) v
def RepL (m : List (Option Nat)) (ok : Nat → Prop) (w : World) : List AV → List Value → Prop
  | [], l => l = []
  | x :: xs, l => ∃ u us, l = u :: us ∧ RepV m ok w x u ∧ RepL m ok w xs us
end

theorem cell_same {w w' : World} {b o : Nat} (h : w'.heap[b]? = w.heap[b]?) : w'.cell? ⟨b, o, none⟩ = w.cell? ⟨b, o, none⟩ := by
  unfold World.cell?
  simp only [h]

section
variable {ok ok' : Nat → Prop} {w w' : World}
mutual
theorem RepD.mono (g : ∀ b, ok b → ok' b) (c : ∀ b o : Nat, ok b → w'.cell? ⟨b, o, none⟩ = w.cell? ⟨b, o, none⟩) : ∀ (x : AV) {v : Value}, RepD ok w x v → RepD ok' w' x v
  | .junk, _, _ => trivial
  | .c _, _, h => h
  | .nils, _, h => h
  | .sl nn st es, _, ⟨A, cap, hv, hn, h⟩ => ⟨A, cap, hv, hn, fun h0 => by
      obtain ⟨b, o, hA, hb, he⟩ := h h0
      exact ⟨b, o, hA, g b hb, RepEs.mono g c es hb he⟩⟩
  | .cut st es, _, ⟨A, hv, h⟩ => ⟨A, hv, fun h0 => by
      obtain ⟨b, o, hA, hb, he⟩ := h h0
      exact ⟨b, o, hA, g b hb, RepEs.mono g c es hb he⟩⟩
  | .dptr xs, _, ⟨b, o, hv, hb, h⟩ => ⟨b, o, hv, g b hb, RepCs.mono g c xs hb h⟩
  | .agg xs, _, ⟨vs, hv, h, h1⟩ => ⟨vs, hv, RepDL.mono g c xs h, h1⟩
  | .tup xs, _, ⟨vs, hv, h⟩ => ⟨vs, hv, RepDL.mono g c xs h⟩
  | .fn _ xs, _, ⟨vs, hv, h⟩ => ⟨vs, hv, RepDL.mono g c xs h⟩
  | .mv _ xs, _, ⟨vs, hv, h⟩ => ⟨vs, hv, RepDL.mono g c xs h⟩
  | .ptr _ _, _, h => h
  | .rp _ _ _, _, h => h
  | .mp _, _, h => h
  | .own _ _ _, _, h => h
theorem RepDL.mono (g : ∀ b, ok b → ok' b) (c : ∀ b o : Nat, ok b → w'.cell? ⟨b, o, none⟩ = w.cell? ⟨b, o, none⟩) : ∀ (xs : List AV) {l : List Value}, RepDL ok w xs l → RepDL ok' w' xs l
  | [], _, h => h
  | x :: xs, _, ⟨u, us, hl, hx, hr⟩ => ⟨u, us, hl, RepD.mono g c x hx, RepDL.mono g c xs hr⟩
theorem RepCs.mono (g : ∀ b, ok b → ok' b) (c : ∀ b o : Nat, ok b → w'.cell? ⟨b, o, none⟩ = w.cell? ⟨b, o, none⟩) : ∀ (xs : List AV) {b o : Nat}, ok b → RepCs ok w b o xs → RepCs ok' w' b o xs
  | [], _, _, _, _ => trivial
  | x :: xs, b, o, hb, ⟨⟨u, hc, h1, hx⟩, hr⟩ => ⟨⟨u, (c b o hb).trans hc, h1, RepD.mono g c x hx⟩, RepCs.mono g c xs hb hr⟩
theorem RepEs.mono (g : ∀ b, ok b → ok' b) (c : ∀ b o : Nat, ok b → w'.cell? ⟨b, o, none⟩ = w.cell? ⟨b, o, none⟩) : ∀ (es : List (List AV)) {st b o : Nat}, ok b → RepEs ok w st b o es → RepEs ok' w' st b o es
  | [], _, _, _, _, _ => trivial
  | e :: es, st, b, o, hb, ⟨hl, hc, hr⟩ => ⟨hl, RepCs.mono g c e hb hc, RepEs.mono g c es hb hr⟩
end
end

/-- The elements of a slice. -/
def elemsA (h : Heap) : AV → Option (Nat × List (List AV))
  | .sl _ st es => some (st, es)
  | .own L st n => match h[L]? with
    | some (some (.row _ st' es)) => if st' = st ∧ n ≤ es.length then some (st, es.take n) else none
    | _ => none
  | _ => none

mutual
/-- Data, whatever the call's own blocks. -/
def isD : AV → Bool
  | .ptr _ _ => false
  | .rp _ _ _ => false
  | .mp _ => false
  | .own _ _ _ => false
  | .agg xs => isDL xs
  | .tup xs => isDL xs
  | .fn _ xs => isDL xs
  | .mv _ xs => isDL xs
  | .junk => true
  | .c _ => true
  | .nils => true
  | .sl _ _ _ => true
  | .cut _ _ => true
  | .dptr _ => true
def isDL : List AV → Bool
  | [] => true
  | x :: xs => isD x && isDL xs
end
/-- A pointer to a variable of the call's own, as data. -/
def ptrD (h : Heap) (L j : Nat) : Option AV :=
  match h[L]? with
  | some (some (.var _ cs)) => if isDL cs = true then some (.dptr (cs.drop j)) else none
  | _ => none

mutual
/-- What is known of a value behind a step that may turn the blocks of ks; a slice in one of them is data from then on, if h tells its elements. -/
def killV (h : Heap) (ks : List Nat) : AV → AV
  | .ptr L j => if L ∈ ks then (match ptrD h L j with
    | some y => y
    | none => .junk) else .ptr L j
  | .rp L i j => if L ∈ ks then .junk else .rp L i j
  | .mp L => if L ∈ ks then .junk else .mp L
  | .own L st n => if L ∈ ks then (match elemsA h (.own L st n) with
    | some (st', es) => .sl false st' es
    | none => .junk) else .own L st n
  | .agg xs => .agg (killL h ks xs)
  | .tup xs => .tup (killL h ks xs)
  | .fn f xs => .fn f (killL h ks xs)
  | .mv f xs => .mv f (killL h ks xs)
  | .junk => .junk
  | .c v => .c v
  | .nils => .nils
  | .sl nn st es => .sl nn st es
  | .cut st es => .cut st es
  | .dptr xs => .dptr xs
def killL (h : Heap) (ks : List Nat) : List AV → List AV
  | [] => []
  | x :: xs => killV h ks x :: killL h ks xs
end

/-- What a range over a function keeps its books in. -/
def isBook : Obj → Bool
  | .cells .. => false
  | .map .. => false
  | _ => true
/-- Whatever is neither cells nor a map lies as it lay. -/
structure KeepsB (W W' : World) : Prop where
  size : W.heap.size ≤ W'.heap.size
  same : ∀ (k : Nat) (o : Obj), W.heap[k]? = some o → isBook o = true → W'.heap[k]? = some o
theorem KeepsB.refl (W : World) : KeepsB W W := ⟨Nat.le_refl _, fun _ _ h _ => h⟩
theorem KeepsB.trans {A B C : World} (h : KeepsB A B) (k : KeepsB B C) : KeepsB A C :=
  ⟨Nat.le_trans h.size k.size, fun i o hi ho => k.same i o (h.same i o hi ho) ho⟩
theorem KeepsB.of_grownBy {W W' : World} {row : Option Nat} (hg : W.grownBy W' row) (hrow : ∀ (j : Nat) (o : Obj), row = some j → W.heap[j]? = some o → isBook o = false) : KeepsB W W' :=
  ⟨hg.size, fun k o hk ho => by
    refine (hg.block k (Array.getElem?_eq_some_iff.1 hk).1 ?_).trans hk
    intro e
    rw [hrow k o e.symm hk] at ho; cases ho⟩

/-- What a step may do to a world with all that is known of it but for the blocks ks. -/
structure Grow (h : Heap) (ks : List Nat) (m : List (Option Nat)) (ok : Nat → Prop) (w : World) (m' : List (Option Nat)) (ok' : Nat → Prop) (w' : World) : Prop where
  mm : ∀ (L : Nat) b, L ∉ ks → m[L]? = some b → m'[L]? = some b
  mo : ∀ b : Nat, ok b → ok' b
  cells : ∀ b o : Nat, ok b → w'.cell? ⟨b, o, none⟩ = w.cell? ⟨b, o, none⟩
  shape : ∀ (L b : Nat) s, L ∉ ks → m[L]? = some (some b) → w.shape? b = some s → w'.shape? b = some s
  fz : (∀ (L st n : Nat) v st' es, L ∈ ks → RepV m ok w (.own L st n) v → elemsA h (.own L st n) = some (st', es) → RepD ok' w' (.sl false st' es) v) ∧ ∀ (L j : Nat) v y, L ∈ ks → RepV m ok w (.ptr L j) v → ptrD h L j = some y → RepD ok' w' y v
  others : KeepsB w w'

theorem below_others {w w' : World} (h : RowKit.Below w.heap.size w w') : KeepsB w w' := ⟨h.size, fun k o hk _ => (h.block k (Array.getElem?_eq_some_iff.1 hk).1).trans hk⟩
theorem Grow.refl (h : Heap) (m : List (Option Nat)) (ok : Nat → Prop) (w : World) : Grow h [] m ok w m ok w := ⟨fun _ _ _ h => h, fun _ h => h, fun _ _ _ => rfl, fun _ _ _ _ _ h => h, ⟨(fun _ _ _ _ _ _ h => by cases h), fun _ _ _ _ h => by cases h⟩, .refl w⟩

section
variable {m m' : List (Option Nat)} {ok ok' : Nat → Prop} {w w' : World}
mutual
theorem RepV.mono0 (gmm : ∀ (L : Nat) b, m[L]? = some b → m'[L]? = some b) (gmo : ∀ b : Nat, ok b → ok' b) (gc : ∀ b o : Nat, ok b → w'.cell? ⟨b, o, none⟩ = w.cell? ⟨b, o, none⟩) (gs : ∀ (L b : Nat) s, m[L]? = some (some b) → w.shape? b = some s → w'.shape? b = some s) : ∀ (x : AV) {v : Value}, RepV m ok w x v → RepV m' ok' w' x v
  | .junk, _, _ => trivial
  | .c _, _, h => h
  | .nils, _, h => h
  | .sl nn st es, _, h => RepD.mono gmo gc (.sl nn st es) h
  | .cut st es, _, h => RepD.mono gmo gc (.cut st es) h
  | .dptr xs, _, h => RepD.mono gmo gc (.dptr xs) h
  | .ptr _ _, _, ⟨b, hm, hv⟩ => ⟨b, gmm _ _ hm, hv⟩
  | .rp _ _ _, _, ⟨b, hm, hv⟩ => ⟨b, gmm _ _ hm, hv⟩
  | .mp _, _, ⟨b, hm, hv⟩ => ⟨b, gmm _ _ hm, hv⟩
  | .own _ st n, v, ⟨ob, hm, h⟩ => ⟨ob, gmm _ _ hm, by
      cases ob with
      | none => exact h
      | some b => obtain ⟨cap, t, hv, hn, hc, hs⟩ := h; exact ⟨cap, t, hv, hn, hc, gs _ _ _ hm hs⟩⟩
  | .agg xs, _, ⟨vs, hv, h, h1⟩ => ⟨vs, hv, RepL.mono0 gmm gmo gc gs xs h, h1⟩
  | .tup xs, _, ⟨vs, hv, h⟩ => ⟨vs, hv, RepL.mono0 gmm gmo gc gs xs h⟩
  | .fn _ xs, _, ⟨vs, hv, h⟩ => ⟨vs, hv, RepL.mono0 gmm gmo gc gs xs h⟩
  | .mv _ xs, _, ⟨vs, hv, h⟩ => ⟨vs, hv, RepL.mono0 gmm gmo gc gs xs h⟩
theorem RepL.mono0 (gmm : ∀ (L : Nat) b, m[L]? = some b → m'[L]? = some b) (gmo : ∀ b : Nat, ok b → ok' b) (gc : ∀ b o : Nat, ok b → w'.cell? ⟨b, o, none⟩ = w.cell? ⟨b, o, none⟩) (gs : ∀ (L b : Nat) s, m[L]? = some (some b) → w.shape? b = some s → w'.shape? b = some s) : ∀ (xs : List AV) {l : List Value}, RepL m ok w xs l → RepL m' ok' w' xs l
  | [], _, h => h
  | x :: xs, _, ⟨u, us, hl, hx, hr⟩ => ⟨u, us, hl, RepV.mono0 gmm gmo gc gs x hx, RepL.mono0 gmm gmo gc gs xs hr⟩
end
theorem RepV.mono {h : Heap} (g : Grow h [] m ok w m' ok' w') (x : AV) {v : Value} (hx : RepV m ok w x v) : RepV m' ok' w' x v := RepV.mono0 (fun L b => g.mm L b (by simp)) g.mo g.cells (fun L b s => g.shape L b s (by simp)) x hx
theorem RepL.mono {h : Heap} (g : Grow h [] m ok w m' ok' w') (xs : List AV) {l : List Value} (hx : RepL m ok w xs l) : RepL m' ok' w' xs l := RepL.mono0 (fun L b => g.mm L b (by simp)) g.mo g.cells (fun L b s => g.shape L b s (by simp)) xs hx
mutual
/-- Data is known whatever the call's own blocks. -/
theorem RepD.up : ∀ (x : AV) {v : Value}, RepD ok w x v → RepV m ok w x v
  | .junk, _, _ => trivial
  | .c _, _, h => h
  | .nils, _, h => h
  | .sl _ _ _, _, h => h
  | .cut _ _, _, h => h
  | .dptr _, _, h => h
  | .ptr _ _, _, h => h.elim
  | .rp _ _ _, _, h => h.elim
  | .mp _, _, h => h.elim
  | .own _ _ _, _, h => h.elim
  | .agg xs, _, ⟨vs, hv, h, h1⟩ => ⟨vs, hv, RepDL.up xs h, h1⟩
  | .tup xs, _, ⟨vs, hv, h⟩ => ⟨vs, hv, RepDL.up xs h⟩
  | .fn _ xs, _, ⟨vs, hv, h⟩ => ⟨vs, hv, RepDL.up xs h⟩
  | .mv _ xs, _, ⟨vs, hv, h⟩ => ⟨vs, hv, RepDL.up xs h⟩
theorem RepDL.up : ∀ (xs : List AV) {l : List Value}, RepDL ok w xs l → RepL m ok w xs l
  | [], _, h => h
  | x :: xs, _, ⟨u, us, hl, hx, hr⟩ => ⟨u, us, hl, RepD.up x hx, RepDL.up xs hr⟩
end
mutual
theorem RepV.kill {h : Heap} {ks : List Nat} (g : Grow h ks m ok w m' ok' w') : ∀ (x : AV) {v : Value}, RepV m ok w x v → RepV m' ok' w' (killV h ks x) v
  | .junk, _, _ => trivial
  | .c _, _, h => h
  | .nils, _, h => h
  | .sl nn st es, _, h => RepD.mono g.mo g.cells (.sl nn st es) h
  | .cut st es, _, h => RepD.mono g.mo g.cells (.cut st es) h
  | .dptr xs, _, h => RepD.mono g.mo g.cells (.dptr xs) h
  | .ptr L' j, v, ⟨b, hm, hv⟩ => by
    unfold killV
    split
    · rename_i hL
      split
      · rename_i y he
        exact RepD.up y (g.fz.2 L' j v y hL ⟨b, hm, hv⟩ he)
      · trivial
    · exact ⟨b, g.mm _ _ ‹_› hm, hv⟩
  | .rp L' _ _, _, ⟨b, hm, hv⟩ => by
    unfold killV
    split
    · trivial
    · exact ⟨b, g.mm _ _ ‹_› hm, hv⟩
  | .mp L', _, ⟨b, hm, hv⟩ => by
    unfold killV
    split
    · trivial
    · exact ⟨b, g.mm _ _ ‹_› hm, hv⟩
  | .own L' st n, v, ⟨ob, hm, h⟩ => by
    unfold killV
    split
    · rename_i hL
      split
      · rename_i st' es he
        exact g.fz.1 L' st n v st' es hL ⟨ob, hm, h⟩ he
      · trivial
    · refine ⟨ob, g.mm _ _ ‹_› hm, ?_⟩
      cases ob with
      | none => exact h
      | some b => obtain ⟨cap, t, hv, hn, hc, hs⟩ := h; exact ⟨cap, t, hv, hn, hc, g.shape _ _ _ ‹_› hm hs⟩
  | .agg xs, _, ⟨vs, hv, h, h1⟩ => ⟨vs, hv, RepL.kill g xs h, h1⟩
  | .tup xs, _, ⟨vs, hv, h⟩ => ⟨vs, hv, RepL.kill g xs h⟩
  | .fn _ xs, _, ⟨vs, hv, h⟩ => ⟨vs, hv, RepL.kill g xs h⟩
  | .mv _ xs, _, ⟨vs, hv, h⟩ => ⟨vs, hv, RepL.kill g xs h⟩
theorem RepL.kill {h : Heap} {ks : List Nat} (g : Grow h ks m ok w m' ok' w') : ∀ (xs : List AV) {l : List Value}, RepL m ok w xs l → RepL m' ok' w' (killL h ks xs) l
  | [], _, h => h
  | x :: xs, _, ⟨u, us, hl, hx, hr⟩ => ⟨u, us, hl, RepV.kill g x hx, RepL.kill g xs hr⟩
end
end

/-- The entries of a map, in the order in which they were laid. -/
def MapEs (ok : Nat → Prop) (w : World) (k : KT) : List MapEntry → List (MK × AV) → Prop
  | [], es => es = []
  | e :: l, es => ∃ p r, es = p :: r ∧ e.key = keyV k p.1 ∧ keyOk k p.1 = true ∧ RepD ok w p.2 e.val ∧ MapEs ok w k l r
theorem MapEs.mono {ok ok' : Nat → Prop} {w w' : World} {k : KT} (g : ∀ b, ok b → ok' b) (c : ∀ b o : Nat, ok b → w'.cell? ⟨b, o, none⟩ = w.cell? ⟨b, o, none⟩) : ∀ {l : List MapEntry} {es : List (MK × AV)}, MapEs ok w k l es → MapEs ok' w' k l es
  | [], _, h => h
  | _ :: _, _, ⟨p, r, h, hk, ho, hd, hr⟩ => ⟨p, r, h, hk, ho, RepD.mono g c p.2 hd, MapEs.mono g c hr⟩

/-- A mark behind all of k cells, or none. -/
def tailOk' (fz : Nat × Nat) (k : Nat) : Prop := fz = (0, 0) ∨ k ≤ fz.1

/-- A block with no mark on any of its cells. -/
def CellsT (w : World) (b : Nat) (cs : Array Value) (e : TypeId) : Prop := ∃ fz, w.heap[b]? = some (.cells cs e fz) ∧ tailOk' fz cs.size
theorem CellsT.plain {w : World} {b : Nat} {cs : Array Value} {e : TypeId} (h : w.heap[b]? = some (.cells cs e (0, 0))) : CellsT w b cs e := ⟨_, h, .inl rfl⟩
theorem CellsT.same {w w' : World} {b : Nat} {cs : Array Value} {e : TypeId} (k : w'.heap[b]? = w.heap[b]?) (h : CellsT w b cs e) : CellsT w' b cs e := by
  obtain ⟨fz, h1, h2⟩ := h
  exact ⟨fz, k.trans h1, h2⟩
theorem CellsT.shape {w : World} {b : Nat} {cs : Array Value} {e : TypeId} (h : CellsT w b cs e) : w.shape? b = some (e, cs.size) := by
  obtain ⟨fz, h1, h2⟩ := h
  simp [World.shape?, h1]
theorem CellsT.cell {w : World} {b : Nat} {cs : Array Value} {e : TypeId} (h : CellsT w b cs e) (j : Nat) : w.cell? ⟨b, j, none⟩ = cs[j]? := by
  obtain ⟨fz, h1, h2⟩ := h
  unfold World.cell?
  simp only [h1]
  rfl
theorem CellsT.lt {w : World} {b : Nat} {cs : Array Value} {e : TypeId} (h : CellsT w b cs e) : b < w.heap.size := by
  obtain ⟨fz, h1, h2⟩ := h
  exact (Array.getElem?_eq_some_iff.1 h1).1

/-- A block of the call's own. -/
def OwnB (m : List (Option Nat)) (ok : Nat → Prop) (w : World) (L : Nat) : Blk → Prop
  | .var t xs => ∃ b cs, m[L]? = some (some b) ∧ w.heap[b]? = some (.cells cs t (0, 0)) ∧ RepL m ok w xs cs.toList ∧ ∀ u ∈ cs.toList, u.oneCell' = true
  | .row e st es => ∃ ob, m[L]? = some ob ∧ match ob with
    | none => es = []
    | some b => ∃ cs, CellsT w b cs e ∧ es.length * st ≤ cs.size ∧
        ∀ i x, es[i]? = some x → x.length = st ∧ ∀ j y, x[j]? = some y → ∃ u, cs[i * st + j]? = some u ∧ u.oneCell' = true ∧ RepD ok w y u
  | .map k es => ∃ b l clock, m[L]? = some (some b) ∧ w.heap[b]? = some (.map l clock) ∧ MapKept.Stamped l clock ∧ MapEs ok w k l.toList es

abbrev HOwn (m : List (Option Nat)) (ok : Nat → Prop) (h : Heap) (w : World) : Prop := ∀ L blk, h[L]? = some (some blk) → OwnB m ok w L blk

/-- The program's own tables that the walk may read: what lies in the block of which variable. -/
def tabs : List (Nat × List AV) :=
  []
/-- The tables lie there. -/
def TabOk (ok : Nat → Prop) (w : World) : Prop := ∀ g xs, (g, xs) ∈ tabs → ok g ∧ RepCs ok w g 0 xs
theorem TabOk.mono {ok ok' : Nat → Prop} {w w' : World} (h : TabOk ok w) (g : ∀ b, ok b → ok' b) (c : ∀ b o : Nat, ok b → w'.cell? ⟨b, o, none⟩ = w.cell? ⟨b, o, none⟩) : TabOk ok' w' :=
  fun b xs hb => ⟨g b (h b xs hb).1, RepCs.mono g c xs (h b xs hb).1 (h b xs hb).2⟩
theorem tab_none (h : tabs.length = 0) (ok : Nat → Prop) (w : World) : TabOk ok w := fun g xs hm => by rw [List.length_eq_zero_iff.1 h] at hm; cases hm
/-- What 'ok' lets by lies in the world, and so do the tables. -/
def Okb (ok : Nat → Prop) (w : World) : Prop := (∀ b, ok b → b < w.heap.size) ∧ TabOk ok w
def tabV (g : Nat) : AV := match tabs.find? (fun p => p.1 == g) with | some p => .dptr p.2 | none => .junk
theorem TabOk.at {ok : Nat → Prop} {w : World} {m : List (Option Nat)} (h : TabOk ok w) (g : Nat) : RepV m ok w (tabV g) (.pointer (some ⟨g, 0, none⟩)) := by
  unfold tabV
  cases e : tabs.find? (fun p => p.1 == g) with
  | none => trivial
  | some p =>
    have h1 := List.mem_of_find?_eq_some e
    have h2 := List.find?_some e
    obtain ⟨b, xs⟩ := p
    obtain rfl : b = g := by simpa using h2
    exact ⟨b, 0, rfl, (h b xs h1).1, (h b xs h1).2⟩

/-- What is known of the memory. -/
structure HRel (w0 : World) (ok0 : Nat → Prop) (m : List (Option Nat)) (ok : Nat → Prop) (h : Heap) (w : World) : Prop where
  len : m.length = h.length
  own : HOwn m ok h w
  inj : ∀ (L L' b : Nat), m[L]? = some (some b) → m[L']? = some (some b) → L = L'
  nok : ∀ (L b : Nat) blk, h[L]? = some (some blk) → m[L]? = some (some b) → ¬ ok b
  new : ∀ L b : Nat, m[L]? = some (some b) → w0.heap.size ≤ b ∧ b < w.heap.size
  okb : ∀ b : Nat, ok b → b < w.heap.size
  oko : ∀ b : Nat, ok b → ok0 b ∨ w0.heap.size ≤ b
  bel : RowKit.Below w0.heap.size w0 w
  tab : TabOk ok w

theorem OwnB.mono {hh : Heap} {m m' : List (Option Nat)} {ok ok' : Nat → Prop} {w w' : World} (g : Grow hh [] m ok w m' ok' w') {L : Nat} {blk : Blk} (hs : ∀ b, m[L]? = some (some b) → w'.heap[b]? = w.heap[b]?) (h : OwnB m ok w L blk) : OwnB m' ok' w' L blk := by
  cases blk with
  | var t xs =>
    obtain ⟨b, cs, hm, hb, hr, h1⟩ := h
    exact ⟨b, cs, g.mm _ _ (by simp) hm, (hs b hm).trans hb, RepL.mono g xs hr, h1⟩
  | row e st es =>
    obtain ⟨ob, hm, h⟩ := h
    refine ⟨ob, g.mm _ _ (by simp) hm, ?_⟩
    cases ob with
    | none => exact h
    | some b =>
      obtain ⟨cs, hb, hl, hr⟩ := h
      refine ⟨cs, hb.same (hs b hm), hl, fun i x hx => ⟨(hr i x hx).1, fun j y hy => ?_⟩⟩
      obtain ⟨u, hu, h1, hd⟩ := (hr i x hx).2 j y hy
      exact ⟨u, hu, h1, RepD.mono g.mo g.cells y hd⟩
  | map k es =>
    obtain ⟨b, l, clock, hm, hb, hst, hr⟩ := h
    exact ⟨b, l, clock, g.mm _ _ (by simp) hm, (hs b hm).trans hb, hst, hr.mono g.mo g.cells⟩
end

-- part 2
section
/-- A type as the walk asks for it. -/
structure TD where
  agg : Bool
  size : Nat
  elem : Option TypeId
  fields : List (Nat × TypeId)
  arr : Option (Nat × TypeId)
  zero : Option (List Value)
  bytes : Nat
  bool : Bool
  str : Bool
  ik : Option IntKind
  mp : Option (TypeId × TypeId)
  zv : Option Value
  ifc : Bool
  seq : Bool

def isAggD : TypeDesc → Bool
  | .struct _ => true
  | .array _ _ => true
  | _ => false
def elemD : TypeDesc → Option TypeId
  | .slice e => some e
  | _ => none
def fieldsD : TypeDesc → List (Nat × TypeId)
  | .struct fs => fs.toList.map fun f => (f.offset, f.type)
  | _ => []
def arrD : TypeDesc → Option (Nat × TypeId)
  | .array n e => some (n, e)
  | _ => none
def boolD : TypeDesc → Bool
  | .bool => true
  | _ => false
def strD : TypeDesc → Bool
  | .string => true
  | _ => false
def ikD : TypeDesc → Option IntKind
  | .int k => some k
  | _ => none
def mapD : TypeDesc → Option (TypeId × TypeId)
  | .map k e => some (k, e)
  | _ => none
def isIfc : TypeDesc → Bool
  | .interface _ => true
  | _ => false
/-- Structs that may be compared, part by part. -/
def seqD (P : Program) (t : TypeId) : TypeDesc → Bool
  | .struct fs => fs.toList.all (fun f => f.name != "_") && (!P.stoodInHeld t && !P.eqGuardType P.depth t)
  | _ => false
def td (P : Program) (t : TypeId) : Option TD :=
  match P.underlying t, P.info? t with
  | some u, some i => some ⟨isAggD u, i.size, elemD u, fieldsD u, arrD u, i.zero.map (·.cells.toList), i.bytes, boolD u, strD u, ikD u, mapD u, i.zero, isIfc u, seqD P t u⟩
  | _, _ => none

theorem td_some {P : Program} {t : TypeId} {D : TD} (h : td P t = some D) : ∃ u i, P.underlying t = some u ∧ P.info? t = some i ∧ D = ⟨isAggD u, i.size, elemD u, fieldsD u, arrD u, i.zero.map (·.cells.toList), i.bytes, boolD u, strD u, ikD u, mapD u, i.zero, isIfc u, seqD P t u⟩ := by
  unfold td at h
  split at h
  · rename_i u i hu hi
    exact ⟨u, i, hu, hi, (Option.some.inj h).symm⟩
  · cases h

theorem elemD_some {u : TypeDesc} {e : TypeId} (h : elemD u = some e) : u = .slice e := by
  cases u <;> simp_all [elemD]
theorem arrD_some {u : TypeDesc} {x : Nat × TypeId} (h : arrD u = some x) : u = .array x.1 x.2 := by
  cases u <;> simp_all [arrD]
  obtain ⟨rfl, rfl⟩ := h; exact ⟨rfl, rfl⟩
theorem strD_true {u : TypeDesc} (h : strD u = true) : u = .string := by
  cases u <;> simp_all [strD]
theorem boolD_true {u : TypeDesc} (h : boolD u = true) : u = .bool := by
  cases u <;> simp_all [boolD]
theorem ikD_some {u : TypeDesc} {k : IntKind} (h : ikD u = some k) : u = .int k := by
  cases u <;> simp_all [ikD]
theorem mapD_some {u : TypeDesc} {x : TypeId × TypeId} (h : mapD u = some x) : u = .map x.1 x.2 := by
  cases u <;> simp_all [mapD]
  obtain ⟨rfl, rfl⟩ := h; exact ⟨rfl, rfl⟩
theorem isIfc_true {u : TypeDesc} (h : isIfc u = true) : ∃ ms, u = .interface ms := by
  cases u <;> simp_all [isIfc]
theorem fieldsD_some {u : TypeDesc} {f : Nat} {x : Nat × TypeId} (h : (fieldsD u)[f]? = some x) : ∃ fs fd, u = .struct fs ∧ fs[f]? = some fd ∧ fd.offset = x.1 ∧ fd.type = x.2 := by
  cases u <;> simp_all [fieldsD]
  obtain ⟨fd, h1, rfl⟩ := h
  exact ⟨fd, h1, rfl, rfl⟩

theorem isAgg_run {P : Program} {t : TypeId} {D : TD} (h : td P t = some D) (w : World) : (isAgg t).run P w = .ok D.agg w := by
  obtain ⟨u, i, hu, hi, rfl⟩ := td_some h
  unfold isAgg
  rw [Sem.run_bind, run_underlying hu]
  simp only [Result.andThen_ok]
  cases u <;> rfl

theorem sizeOf_run {P : Program} {t : TypeId} {D : TD} (h : td P t = some D) (w : World) : (sizeOf t).run P w = .ok D.size w := by
  obtain ⟨u, i, hu, hi, rfl⟩ := td_some h
  simp [sizeOf, typeInfo, program, Sem.run, hi]

theorem zeroValue_run {P : Program} {t : TypeId} {D : TD} (h : td P t = some D) {z : List Value} (hz : D.zero = some z) (w : World) : ∃ v, (zeroValue t).run P w = .ok v w ∧ v.cells.toList = z := by
  obtain ⟨u, i, hu, hi, rfl⟩ := td_some h
  simp only [Option.map_eq_some_iff] at hz
  obtain ⟨v, hv, rfl⟩ := hz
  exact ⟨v, by simp [zeroValue, typeInfo, program, Sem.run, hi, hv], rfl⟩

def slot : List (Nat × AV) → Nat → AV
  | [], _ => .junk
  | (j, v) :: r, i => if j = i then v else slot r i

def AS.put (σ : AS) (dst : Option Tmp) (v : AV) : AS :=
  match dst with
  | none => σ
  | some d => ⟨σ.n, (d, v) :: σ.t, σ.h⟩

def cvc : Value → AV
  | .slice none 0 0 => .nils
  | v => .c v
def cv : Value → AV
  | .slice none 0 0 => .nils
  | .agg cs => if cs.all (·.oneCell') then .agg (cs.toList.map cvc) else .junk
  | .func (.func f) a b => if a.size = 0 ∧ b.size = 0 then .fn f [] else .junk
  | v => .c v

def aev (σ : AS) : Operand → AV
  | .tmp t => slot σ.t t
  | .const v => cv v
  | .global g => tabV g
  | .func f => .fn f []

theorem cvc_rep (m : List (Option Nat)) (ok : Nat → Prop) (w : World) (v : Value) : RepV m ok w (cvc v) v := by
  unfold cvc
  split <;> simp [RepV]

theorem cvcs_rep (m : List (Option Nat)) (ok : Nat → Prop) (w : World) : ∀ l : List Value, RepL m ok w (l.map cvc) l
  | [] => by simp [RepL]
  | v :: l => by
    simp only [List.map_cons, RepL]
    exact ⟨v, l, rfl, cvc_rep m ok w v, cvcs_rep m ok w l⟩

theorem cv_rep (m : List (Option Nat)) (ok : Nat → Prop) (w : World) (v : Value) : RepV m ok w (cv v) v := by
  unfold cv
  split
  · simp [RepV]
  · rename_i cs
    by_cases h : cs.all (·.oneCell') = true
    · rw [if_pos h]
      simp only [RepV]
      exact ⟨_, rfl, cvcs_rep m ok w _, fun u hu => Array.all_eq_true_iff_forall_mem.1 h u (by simpa using hu)⟩
    · rw [if_neg h]; simp [RepV]
  · rename_i f a b
    by_cases h : a.size = 0 ∧ b.size = 0
    · rw [if_pos h]
      obtain ⟨h1, h2⟩ := h
      obtain rfl := Array.eq_empty_of_size_eq_zero h1
      obtain rfl := Array.eq_empty_of_size_eq_zero h2
      simp [RepV, RepL]
    · rw [if_neg h]; simp [RepV]
  · simp [RepV]

/-- Lists that are known side by side. -/
theorem RepL.get {m : List (Option Nat)} {ok : Nat → Prop} {w : World} : ∀ {xs : List AV} {l : List Value} {i : Nat} {x : AV}, RepL m ok w xs l → xs[i]? = some x → ∃ u, l[i]? = some u ∧ RepV m ok w x u
  | [], _, _, _, _, h => by simp at h
  | y :: ys, _, 0, x, ⟨u, us, rfl, hx, hr⟩, h => by
    simp only [List.getElem?_cons_zero, Option.some.injEq] at h
    subst h
    exact ⟨u, rfl, hx⟩
  | y :: ys, _, i + 1, x, ⟨u, us, rfl, hx, hr⟩, h => by
    simp only [List.getElem?_cons_succ] at h ⊢
    exact RepL.get hr h
theorem RepL.length {m : List (Option Nat)} {ok : Nat → Prop} {w : World} : ∀ {xs : List AV} {l : List Value}, RepL m ok w xs l → l.length = xs.length
  | [], _, h => by cases h; rfl
  | y :: ys, _, ⟨u, us, h, hx, hr⟩ => by subst h; simp [RepL.length hr]
theorem RepL.of {m : List (Option Nat)} {ok : Nat → Prop} {w : World} : ∀ {xs : List AV} {l : List Value}, l.length = xs.length → (∀ (i : Nat) x u, xs[i]? = some x → l[i]? = some u → RepV m ok w x u) → RepL m ok w xs l
  | [], l, h, _ => by
    cases l with
    | nil => rfl
    | cons a l => simp at h
  | x :: xs, l, h, k => by
    cases l with
    | nil => simp at h
    | cons u us => exact ⟨u, us, rfl, k 0 x u rfl rfl, RepL.of (by simpa using h) fun i x u h1 h2 => k (i + 1) x u (by simpa using h1) (by simpa using h2)⟩

theorem RepL.take {m : List (Option Nat)} {ok : Nat → Prop} {w : World} {xs : List AV} {l : List Value} (h : RepL m ok w xs l) (n : Nat) : RepL m ok w (xs.take n) (l.take n) := by
  refine RepL.of (by simp [h.length]) fun i x u h1 h2 => ?_
  rw [List.getElem?_take] at h1 h2
  split at h1
  · rw [if_pos (by assumption)] at h2
    obtain ⟨u', hu, hx⟩ := h.get h1
    rw [h2] at hu; cases hu; exact hx
  · cases h1
theorem RepL.drop {m : List (Option Nat)} {ok : Nat → Prop} {w : World} {xs : List AV} {l : List Value} (h : RepL m ok w xs l) (n : Nat) : RepL m ok w (xs.drop n) (l.drop n) := by
  refine RepL.of (by simp [h.length]) fun i x u h1 h2 => ?_
  rw [List.getElem?_drop] at h1 h2
  obtain ⟨u', hu, hx⟩ := h.get h1
  rw [h2] at hu; cases hu; exact hx
theorem RepL.set {m : List (Option Nat)} {ok : Nat → Prop} {w : World} {xs : List AV} {l : List Value} (h : RepL m ok w xs l) (n : Nat) {x : AV} {u : Value} (hx : RepV m ok w x u) : RepL m ok w (xs.set n x) (l.set n u) := by
  refine RepL.of (by simp [h.length]) fun i x' u' h1 h2 => ?_
  rw [List.getElem?_set] at h1 h2
  have hl := h.length
  split at h1
  · rename_i e
    rw [if_pos e] at h2
    split at h1
    · rw [if_pos (by omega)] at h2
      cases h1; cases h2; exact hx
    · cases h1
  · rename_i e
    rw [if_neg e] at h2
    obtain ⟨u'', hu, hx'⟩ := h.get h1
    rw [h2] at hu; cases hu; exact hx'
theorem RepL.append {m : List (Option Nat)} {ok : Nat → Prop} {w : World} : ∀ {xs ys : List AV} {l k : List Value}, RepL m ok w xs l → RepL m ok w ys k → RepL m ok w (xs ++ ys) (l ++ k)
  | [], _, _, _, h, h2 => by cases h; exact h2
  | x :: xs, _, _, _, ⟨u, us, h, hx, hr⟩, h2 => by subst h; exact ⟨u, us ++ _, rfl, hx, hr.append h2⟩

theorem RepCs.get {ok : Nat → Prop} {w : World} {b : Nat} : ∀ {xs : List AV} {o i : Nat} {x : AV}, RepCs ok w b o xs → xs[i]? = some x → ∃ u, w.cell? ⟨b, o + i, none⟩ = some u ∧ u.oneCell' = true ∧ RepD ok w x u
  | [], _, _, _, _, h => by simp at h
  | y :: ys, o, 0, x, ⟨⟨u, hc, h1, hx⟩, hr⟩, h => by
    simp only [List.getElem?_cons_zero, Option.some.injEq] at h
    subst h
    exact ⟨u, hc, h1, hx⟩
  | y :: ys, o, i + 1, x, ⟨_, hr⟩, h => by
    simp only [List.getElem?_cons_succ] at h
    have := RepCs.get hr h
    rwa [Nat.add_assoc, Nat.add_comm 1 i] at this
theorem RepCs.drop {ok : Nat → Prop} {w : World} {b : Nat} : ∀ (n : Nat) {xs : List AV} {o : Nat}, RepCs ok w b o xs → RepCs ok w b (o + n) (xs.drop n)
  | 0, _, _, h => by simpa using h
  | n + 1, [], _, _ => by simp [RepCs]
  | n + 1, y :: ys, o, ⟨_, hr⟩ => by
    have := RepCs.drop n hr
    rw [List.drop_succ_cons]
    rwa [Nat.add_assoc, Nat.add_comm 1 n] at this
theorem RepEs.get {ok : Nat → Prop} {w : World} {st b : Nat} : ∀ {es : List (List AV)} {o i : Nat} {e : List AV}, RepEs ok w st b o es → es[i]? = some e → e.length = st ∧ RepCs ok w b (o + i * st) e
  | [], _, _, _, _, h => by simp at h
  | y :: ys, o, 0, x, ⟨hl, hc, hr⟩, h => by
    simp only [List.getElem?_cons_zero, Option.some.injEq] at h
    subst h
    exact ⟨hl, by simpa using hc⟩
  | y :: ys, o, i + 1, x, ⟨_, _, hr⟩, h => by
    simp only [List.getElem?_cons_succ] at h
    have := RepEs.get hr h
    have e : (i + 1) * st = st + i * st := by rw [Nat.add_mul, Nat.one_mul, Nat.add_comm]
    rwa [Nat.add_assoc, ← e] at this

theorem add_plain (b o i : Nat) : (⟨b, o, none⟩ : Addr).add i = ⟨b, o + i, none⟩ := by unfold Addr.add; split <;> simp_all
end

-- part 3
section
def elO {α : Type} (o : Option α) (K : α → Prop) : Prop := match o with | some a => K a | none => False
theorem elO_none {α : Type} (K : α → Prop) : elO none K = False := rfl
theorem elO_ex {α : Type} {o : Option α} {K : α → Prop} (h : elO o K) : ∃ a, o = some a ∧ K a := by
  cases o with
  | none => exact h.elim
  | some a => exact ⟨a, rfl, h⟩

/-- Are two parts equal? -/
def eqCK (F : TD) (K : Bool → Prop) : AV → AV → Prop
  | .c (.string a), .c (.string b) => F.str = true ∧ K (a.toList == b.toList)
  | .c (.int k a), .c (.int k' b) => k = k' ∧ F.ik.isSome = true ∧ K (a == b)
  | .c (.bool a), .c (.bool b) => F.bool = true ∧ K (a == b)
  | _, _ => False
def eqFK (P : Program) (xs ys : List AV) : List (Nat × TypeId) → (Bool → Prop) → Prop
  | [], K => K true
  | f :: r, K => elO (td P f.2) fun F => elO xs[f.1]? fun x => elO ys[f.1]? fun y => eqCK F (fun a => eqFK P xs ys r fun b => K (a && b)) x y
def isC : Operand → Bool
  | .const _ => true
  | _ => false
def eqOpK (op : BinOp) (K : AV → Prop) (b : Bool) : Prop :=
  match op with
  | .eql => K (.c (.bool b))
  | .neq => K (.c (.bool (!b)))
  | _ => False
/-- What a binary operation comes to. -/
def binK (P : Program) (cst : Bool) (op : BinOp) (t : TypeId) (x y : AV) (K : AV → Prop) : Prop :=
  match x, y with
  | .c (.int k a), .c (.int k' b) =>
    match op with
    | .shl => 0 ≤ b ∧ K (.c (.int k (k.wrap (a * 2 ^ min b.toNat k.bits))))
    | .shr => 0 ≤ b ∧ K (.c (.int k (a.fdiv (2 ^ min b.toNat k.bits))))
    | .add => k = k' ∧ K (.c (.int k (k.wrap (a + b))))
    | .sub => k = k' ∧ K (.c (.int k (k.wrap (a - b))))
    | .mul => k = k' ∧ K (.c (.int k (k.wrap (a * b))))
    | .quo => k = k' ∧ b ≠ 0 ∧ K (.c (.int k (k.wrap (a.tdiv b))))
    | .rem => k = k' ∧ b ≠ 0 ∧ K (.c (.int k (a.tmod b)))
    | .and => k = k' ∧ K (.c (.int k (bits .and k a b)))
    | .or => k = k' ∧ K (.c (.int k (bits .or k a b)))
    | .xor => k = k' ∧ K (.c (.int k (bits .xor k a b)))
    | .andNot => k = k' ∧ K (.c (.int k (bits .andNot k a b)))
    | .eql => k = k' ∧ K (.c (.bool (a == b)))
    | .neq => k = k' ∧ K (.c (.bool (a != b)))
    | .lss => k = k' ∧ K (.c (.bool (decide (a < b))))
    | .leq => k = k' ∧ K (.c (.bool (decide (a ≤ b))))
    | .gtr => k = k' ∧ K (.c (.bool (decide (b < a))))
    | .geq => k = k' ∧ K (.c (.bool (decide (b ≤ a))))
  | .c (.string a), .c (.string b) =>
    match op with
    | .add => ((a.size + b.size : Nat) : Int) ≤ 9223372036854775807 ∧ K (.c (.string (a ++ b)))
    | .eql => K (.c (.bool (a.toList == b.toList)))
    | .neq => K (.c (.bool (!(a.toList == b.toList))))
    | .lss => K (.c (.bool (Op.bytesLess a.toList b.toList)))
    | .leq => K (.c (.bool (Op.bytesLess a.toList b.toList || a.toList == b.toList)))
    | .gtr => K (.c (.bool (!(Op.bytesLess a.toList b.toList || a.toList == b.toList))))
    | .geq => K (.c (.bool (!(Op.bytesLess a.toList b.toList))))
    | _ => False
  | .c (.bool a), .c (.bool b) =>
    elO (td P t) fun D => D.bool = true ∧ match op with
    | .eql => K (.c (.bool (a == b)))
    | .neq => K (.c (.bool (!(a == b))))
    | _ => False
  | .sl true _ _, .nils =>
    elO (td P t) fun D => D.elem.isSome = true ∧ match op with
    | .eql => K (.c (.bool false))
    | .neq => K (.c (.bool true))
    | _ => False
  | .nils, .nils =>
    elO (td P t) fun D => D.elem.isSome = true ∧ match op with
    | .eql => K (.c (.bool true))
    | .neq => K (.c (.bool false))
    | _ => False
  | .c .nilIface, .c .nilIface => cst = true ∧ elO (td P t) fun D => D.ifc = true ∧ eqOpK op K true
  | .agg xs, .agg ys => elO (td P t) fun D => D.seq = true ∧ eqFK P xs ys D.fields (eqOpK op K)
  | _, _ => False

def lenA : AV → Option Int
  | .c (.string s) => some s.size
  | .nils => some 0
  | .sl _ _ es => some es.length
  | .own _ _ n => some n
  | _ => none

/-- The value of a variable at a place. -/
def loadA (h : Heap) (agg : Bool) (size : Nat) : AV → (AV → Prop) → Prop
  | .dptr xs, K => if agg then size ≤ xs.length ∧ K (.agg (xs.take size)) else elO xs[0]? K
  | .ptr L j, K => match h[L]? with
    | some (some (.var _ cs)) => if agg then j + size ≤ cs.length ∧ K (.agg ((cs.drop j).take size)) else elO cs[j]? K
    | _ => False
  | .rp L i j, K => match h[L]? with
    | some (some (.row _ st es)) => st ≠ 0 ∧ i % st = 0 ∧ elO es[i / st]? fun e => if agg then j + size ≤ e.length ∧ K (.agg ((e.drop j).take size)) else elO e[j]? K
    | some (some (.var _ cs)) => if agg then i + j + size ≤ cs.length ∧ K (.agg ((cs.drop (i + j)).take size)) else elO cs[i + j]? K
    | _ => False
  | _, _ => False

def cellsA : AV → List AV
  | .agg xs => xs
  | v => [v]
/-- The value fills one cell, or is a struct. -/
def cellOk : AV → Bool
  | .c u => u.oneCell'
  | .junk => false
  | .tup _ => false
  | _ => true

def setAll (cs : List AV) : Nat → List AV → List AV
  | _, [] => cs
  | i, x :: xs => setAll (cs.set i x) (i + 1) xs

def fillA (place : Nat → Option (Nat × Nat)) (cs : List AV) : List (Nat × AV) → Option (List AV)
  | [] => some cs
  | (i, x) :: r => match place i with
    | none => none
    | some (off, size) => if cellOk x = true ∧ (cellsA x).length = size ∧ off + size ≤ cs.length then fillA place (setAll cs off (cellsA x)) r else none

def placesA (P : Program) : List (Nat × TypeId) → List (Nat × Nat)
  | [] => []
  | f :: r => match td P f.2 with
    | some F => (f.1, F.size) :: placesA P r
    | none => []
/-- Where the parts of a struct or an array lie. -/
def placeT (P : Program) (D : TD) (K : (Nat → Option (Nat × Nat)) → Prop) : Prop :=
  match D.arr with
  | some (_, e) => elO (td P e) fun E => K fun i => some (i * E.size, E.size)
  | none => D.fields ≠ [] ∧ (placesA P D.fields).length = D.fields.length ∧ K fun i => (placesA P D.fields)[i]?
def lenK (D : TD) : AV → Bool
  | .c _ => D.str
  | _ => D.elem.isSome

def pickA (c a b : AV) (K : AV → Prop) : Prop :=
  match c with
  | .c (.bool t) => (t = true → K a) ∧ (t = false → K b)
  | _ => False
theorem pickA_t (a b : AV) (K : AV → Prop) : pickA (.c (.bool true)) a b K = K a := by simp [pickA]
theorem pickA_f (a b : AV) (K : AV → Prop) : pickA (.c (.bool false)) a b K = K b := by simp [pickA]
/-- The bounds of a part of n elements. -/
def boundsA (n : Nat) (lo hi mx : Option AV) (K : Nat → Nat → Prop) : Prop :=
  match lo, hi, mx with
  | none, none, none => K 0 n
  | some (.c (.int _ a)), none, none => 0 ≤ a ∧ a ≤ (n : Int) ∧ K a.toNat n
  | none, some (.c (.int _ b)), none => 0 ≤ b ∧ b ≤ (n : Int) ∧ K 0 b.toNat
  | some (.c (.int _ a)), some (.c (.int _ b)), none => 0 ≤ a ∧ a ≤ b ∧ b ≤ (n : Int) ∧ K a.toNat b.toNat
  | some (.c (.int _ a)), some (.c (.int _ b)), some (.c (.int _ m)) => 0 ≤ a ∧ a ≤ b ∧ b ≤ m ∧ m ≤ (n : Int) ∧ K a.toNat b.toNat
  | none, some (.c (.int _ b)), some (.c (.int _ m)) => 0 ≤ b ∧ b ≤ m ∧ m ≤ (n : Int) ∧ K 0 b.toNat
  | _, _, _ => False
/-- The elements of an array, one by one. -/
def chunk (n st : Nat) (cs : List AV) : List (List AV) := (List.range n).map fun i => (cs.drop (i * st)).take st
/-- A part of data: cut off behind, where its bound says so. -/
def capK (mx : Option AV) (K : AV → Prop) (nn : Bool) (st : Nat) (es : List (List AV)) (b : Nat) : Prop :=
  match mx with
  | some (.c (.int _ m)) => if b = m.toNat then K (.cut st es) else K (.sl nn st es)
  | _ => K (.sl nn st es)
/-- Parts of strings and slices. -/
def sliceA (P : Program) (t : TypeId) (lo hi mx : Option AV) (K : AV → Prop) : AV → Prop
  | .c (.string s) => mx = none ∧ elO (td P t) fun D => D.str = true ∧ (match lo, hi with
      | some (.c (.int _ a)), some (.c (.int _ b)) => 0 ≤ a ∧ a ≤ b ∧ b ≤ (s.size : Int) ∧ K (.c (.string (s.extract a.toNat b.toNat)))
      | none, some (.c (.int _ b)) => 0 ≤ b ∧ b ≤ (s.size : Int) ∧ K (.c (.string (s.extract 0 b.toNat)))
      | some (.c (.int _ a)), none => 0 ≤ a ∧ a ≤ (s.size : Int) ∧ K (.c (.string (s.extract a.toNat s.size)))
      | _, _ => False)
  | .sl nn st es => elO (td P t) fun D => elO D.elem fun e => elO (td P e) fun E => E.size = st ∧ boundsA es.length lo hi mx fun a b => capK mx K nn st ((es.drop a).take (b - a)) b
  | .own L st n => lo = none ∧ mx = none ∧ elO (td P t) fun D => elO D.elem fun e => elO (td P e) fun E => E.size = st ∧ boundsA n none hi none fun _ b => K (.own L st b)
  | .dptr xs => elO (td P t) fun D => elO D.arr fun a => elO (td P a.2) fun E => a.1 * E.size ≤ xs.length ∧ 0 < E.size ∧ boundsA a.1 lo hi mx fun i j => K (.sl true E.size (((chunk a.1 E.size xs).drop i).take (j - i)))
  | .nils => lo = none ∧ mx = none ∧ elO (td P t) fun D => elO D.elem fun e => elO (td P e) fun _ => boundsA 0 none hi none fun _ _ => K .nils
  | _ => False
/-- The capacity, where it is known. -/
def capA (K : Prop) : AV → Prop
  | .nils => K
  | _ => False

/-! Maps. -/
def mget (k : MK) : List (MK × AV) → Option AV
  | [] => none
  | p :: r => if p.1 = k then some p.2 else mget k r
def mput (k : MK) (x : AV) : List (MK × AV) → List (MK × AV)
  | [] => [(k, x)]
  | p :: r => if p.1 = k then (k, x) :: r else p :: mput k x r
/-- The kind of a type of keys. -/
def kindK (P : Program) (k : TypeId) (K : KT → Prop) : Prop := elO (td P k) fun D => if D.str = true then K .s else elO D.ik fun q => K (.i q)
def keyA : KT → AV → Option MK
  | .s, .c (.string b) => some (.s b)
  | .i q, .c (.int q' n) => if q' = q then some (.i n) else none
  | _, _ => none
def lookK (ok : Bool) (z : AV) (K : AV → Prop) : Option AV → Prop
  | none => if ok = true then K (.tup [z, .c (.bool false)]) else K z
  | some x => if ok = true then K (.tup [x, .c (.bool true)]) else K x
/-- The types of a map's keys and elements. -/
def mapT (P : Program) (t : TypeId) (K : KT → TypeId → Prop) : Prop := elO (td P t) fun D => elO D.mp fun p => kindK P p.1 fun kt => K kt p.2
def lookA (P : Program) (h : Heap) (t : TypeId) (ok : Bool) (K : AV → Prop) (k : AV) : AV → Prop
  | .mp L => match h[L]? with
    | some (some (.map kt es)) => mapT P t fun kt' e => kt' = kt ∧ elO (keyA kt k) fun key => elO (td P e) fun E => elO E.zv fun z => lookK ok (cv z) K (mget key es)
    | _ => False
  | .c (.map none) => mapT P t fun kt e => elO (keyA kt k) fun key => elO (td P e) fun E => elO E.zv fun z => lookK ok (cv z) K none
  | _ => False
/-- A function value, bound to what it closes over or to a receiver. -/
def mkfA (f : FuncId) (cap : List AV) (K : AV → Prop) : List AV → Prop
  | [] => K (.fn f cap)
  | x :: r => cap = [] ∧ K (.mv f (x :: r))
/-- A pointer that is not nil. -/
def nilA (K : AV → Prop) : AV → Prop
  | .ptr L j => K (.ptr L j)
  | .rp L i j => K (.rp L i j)
  | .dptr xs => K (.dptr xs)
  | .fn f xs => K (.fn f xs)
  | _ => False
def mlenA (P : Program) (h : Heap) (t : TypeId) (K : AV → Prop) : AV → Prop
  | .mp L => match h[L]? with
    | some (some (.map _ es)) => elO (td P t) fun D => D.mp.isSome = true ∧ K (.c (.int .i64 es.length))
    | _ => False
  | x => elO (td P t) fun D => lenK D x = true ∧ elO (lenA x) fun n => K (.c (.int .i64 n))

/-- Two integers. -/
def int2 (K : IntKind → Int → Int → Prop) : AV → AV → Prop
  | .c (.int k a), .c (.int _ b) => K k a b
  | _, _ => False
theorem int2_ex {K : IntKind → Int → Int → Prop} {x y : AV} (h : int2 K x y) : ∃ k k' a b, x = .c (.int k a) ∧ y = .c (.int k' b) ∧ K k a b := by
  unfold int2 at h
  split at h
  · exact ⟨_, _, _, _, rfl, rfl, h⟩
  · exact h.elim

/-- Operations that leave the memory. -/
def apureO (P : Program) (σ : AS) (op : Op) (K : AV → Prop) : Prop :=
  match op with
  | .move x => K (aev σ x)
  | .assign x => K (aev σ x)
  | .pick c a b => pickA (aev σ c) (aev σ a) (aev σ b) K
  | .extract x k => match aev σ x with
    | .tup xs => elO xs[k]? K
    | _ => False
  | .binOp op t x y _ => binK P (isC x || isC y) op t (aev σ x) (aev σ y) K
  | .unOp .not _ x => match aev σ x with
    | .c (.bool b) => K (.c (.bool (!b)))
    | _ => False
  | .unOp .neg _ x => match aev σ x with
    | .c (.int k n) => K (.c (.int k (k.wrap (0 - n))))
    | _ => False
  | .slice t x lo hi mx => sliceA P t (lo.map (aev σ)) (hi.map (aev σ)) (mx.map (aev σ)) K (aev σ x)
  | .convert s d x => match aev σ x with
    | .c (.int _ n) => elO (td P s) fun _ => elO (td P d) fun D => elO D.ik fun k => K (.c (.int k (k.wrap n)))
    | _ => False
  | .fieldAddr s x f => elO (td P s) fun D => elO D.fields[f]? fun p => elO (td P p.2) fun F => F.size ≠ 0 ∧ match aev σ x with
    | .ptr L j => K (.ptr L (j + p.1))
    | .rp L i j => K (.rp L i (j + p.1))
    | .dptr xs => K (.dptr (xs.drop p.1))
    | _ => False
  | .field s x f => elO (td P s) fun D => elO D.fields[f]? fun p => elO (td P p.2) fun F => match aev σ x with
    | .agg xs => if F.agg then p.1 + F.size ≤ xs.length ∧ K (.agg ((xs.drop p.1).take F.size)) else elO xs[p.1]? K
    | _ => False
  | .indexAddr t x i => elO (td P t) fun D => match aev σ i with
    | .c (.int _ n) => 0 ≤ n ∧ (match aev σ x with
      | .sl _ st es => elO D.elem fun e => elO (td P e) fun E => E.size = st ∧ elO es[n.toNat]? fun x => K (.dptr x)
      | .own L st k => elO D.elem fun e => elO (td P e) fun E => E.size = st ∧ n.toNat < k ∧ K (.rp L (n.toNat * st) 0)
      | .ptr L j => elO D.arr fun a => elO (td P a.2) fun E => n.toNat < a.1 ∧ K (.ptr L (j + n.toNat * E.size))
      | .dptr xs => elO D.arr fun a => elO (td P a.2) fun E => n.toNat < a.1 ∧ K (.dptr (xs.drop (n.toNat * E.size)))
      | _ => False)
    | _ => False
  | .index t x i => match aev σ x, aev σ i with
    | .c (.string s), .c (.int _ n) => elO (td P t) fun D => D.str = true ∧ 0 ≤ n ∧ elO s[n.toNat]? fun b => K (.c (.int .u8 b.toNat))
    | .agg xs, .c (.int _ n) => elO (td P t) fun D => elO D.arr fun a => elO (td P a.2) fun F => 0 ≤ n ∧ n.toNat < a.1 ∧ if F.agg then n.toNat * F.size + F.size ≤ xs.length ∧ K (.agg ((xs.drop (n.toNat * F.size)).take F.size)) else elO xs[n.toNat * F.size]? K
    | _, _ => False
  | .load t p => elO (td P t) fun D => loadA σ.h D.agg D.size (aev σ p) K
  | .makeFunc (.func f) first cap => mkfA f (cap.toList.map (aev σ)) K (first.toList.map (aev σ))
  | .build t parts => elO (td P t) fun D => elO D.zero fun z => z.all (·.oneCell') = true ∧ placeT P D fun pl => elO (fillA pl (z.map cvc) (parts.toList.map fun p => (p.1, aev σ p.2))) fun cs => K (.agg cs)
  | .call ⟨.builtin .len, args, ats⟩ => match args.toList, ats.toList with
    | [x], [t] => mlenA P σ.h t K (aev σ x)
    | _, _ => False
  | .call ⟨.builtin .cap, args, ats⟩ => match args.toList, ats.toList with
    | [x], [t] => elO (td P t) fun D => lenK D (aev σ x) = true ∧ capA (K (.c (.int .i64 0))) (aev σ x)
    | _, _ => False
  | .call ⟨.builtin .max, args, _⟩ => match args.toList with
    | [x, y] => int2 (fun k a b => K (.c (.int k (max a b)))) (aev σ x) (aev σ y)
    | _ => False
  | .call ⟨.builtin .min, args, _⟩ => match args.toList with
    | [x, y] => int2 (fun k a b => K (.c (.int k (min a b)))) (aev σ x) (aev σ y)
    | _ => False
  | .lookup t m k ok => lookA P σ.h t ok K (aev σ k) (aev σ m)
  | .nilCheck x => nilA K (aev σ x)
  | _ => False

def apure (P : Program) (σ : AS) (o : Oper) (K : AV → Prop) : Prop := apureO P σ o.op K

/-- An operation that leaves the world. -/
def OpOkP (P : Program) (σ : AS) (o : Oper) (v : AV) : Prop :=
  ∀ m ok ρ w, (∀ x ∈ o.op.operands, RepV m ok w (aev σ x) (ρ x)) → HOwn m ok σ.h w → ∃ u, (execOp ρ o).run P w = .ok (.value u) w ∧ RepV m ok w v u

theorem run_value {P : Program} {s : Sem Value} {u : Value} {w : World} (h : s.run P w = .ok u w) : (do pure (Next.value (← s)) : Sem Next).run P w = .ok (.value u) w := by
  simp [h]

theorem run_equalIn_nil {P : Program} (w : World) (d : Nat) (t : TypeId) (ms : Array (String × TypeId)) (h : P.underlying t = some (.interface ms)) : (Op.equalIn (d + 1) t .nilIface .nilIface).run P w = .ok true w := by
  simp [Op.equalIn, run_underlying h]
theorem run_nil_eql {P : Program} (w : World) (t : TypeId) (ms : Array (String × TypeId)) (h : P.underlying t = some (.interface ms)) : (binOp .eql t .nilIface .nilIface).run P w = .ok (.bool true) w ∧ (binOp .neq t .nilIface .nilIface).run P w = .ok (.bool false) w := by
  have e := run_equalIn_nil w 9999 t ms h
  constructor
  · have : (binOp .eql t .nilIface .nilIface).run P w = ((Op.equalIn 10000 t .nilIface .nilIface).run P w).andThen fun b w' => .ok (.bool b) w' := by
      simp only [binOp]
      simp [Op.equal, Op.maxDepth]
    rw [this, e]; rfl
  · have : (binOp .neq t .nilIface .nilIface).run P w = ((Op.equalIn 10000 t .nilIface .nilIface).run P w).andThen fun b w' => .ok (.bool (!b)) w' := by
      simp only [binOp]
      simp [Op.equal, Op.maxDepth]
    rw [this, e]; rfl
theorem eqFK_ok {P : Program} {xs ys : List AV} : ∀ (fs : List Field) {K : Bool → Prop}, fs.all (fun f => f.name != "_") = true → eqFK P xs ys (fs.map fun f => (f.offset, f.type)) K → ∃ b, K b ∧ ∀ (m : List (Option Nat)) (ok : Nat → Prop) (w : World) (vs us : Array Value), RepL m ok w xs vs.toList → RepL m ok w ys us.toList → (Op.eqFields 9999 vs us fs).run P w = .ok b w
  | [], K, _, h => ⟨true, h, fun m ok w vs us _ _ => rfl⟩
  | f :: fs, K, hn, h => by
    simp only [List.all_cons, Bool.and_eq_true] at hn
    obtain ⟨hn1, hn2⟩ := hn
    have hn1' : f.name ≠ "_" := by simpa using hn1
    obtain ⟨F, hF, h1⟩ := elO_ex h
    obtain ⟨x, hx, h2⟩ := elO_ex h1
    obtain ⟨y, hy, h3⟩ := elO_ex h2
    clear h h1 h2
    simp only at hF hx hy
    have fin : ∀ (a : Bool) (p q : Value), F.agg = false → x = .c p → y = .c q → (∀ w : World, (Op.equalIn 9999 f.type p q).run P w = .ok a w) → eqFK P xs ys (fs.map fun f => (f.offset, f.type)) (fun b => K (a && b)) →
        ∃ b, K b ∧ ∀ (m : List (Option Nat)) (ok : Nat → Prop) (w : World) (vs us : Array Value), RepL m ok w xs vs.toList → RepL m ok w ys us.toList → (Op.eqFields 9999 vs us (f :: fs)).run P w = .ok b w := fun a p q hag hxp hyq hrun h => by
      obtain ⟨b, hb, hr⟩ := eqFK_ok fs hn2 h
      refine ⟨a && b, hb, fun m ok w vs us h1 h2 => ?_⟩
      obtain ⟨p', hp', hpr⟩ := h1.get hx
      obtain ⟨q', hq', hqr⟩ := h2.get hy
      rw [hxp] at hpr
      rw [hyq] at hqr
      simp only [RepV] at hpr hqr
      subst hpr hqr
      have e1 : (part f.type vs f.offset).run P w = .ok p' w := by
        have : vs[f.offset]? = some p' := by simpa using hp'
        simp [part, isAgg_run hF, hag, this]
      have e2 : (part f.type us f.offset).run P w = .ok q' w := by
        have : us[f.offset]? = some q' := by simpa using hq'
        simp [part, isAgg_run hF, hag, this]
      rw [Op.eqFields, if_pos hn1']
      simp only [Sem.run_bind, e1, e2, hrun w, Result.andThen_ok]
      cases a with
      | true => simpa using hr m ok w vs us h1 h2
      | false => simp
    unfold eqCK at h3
    split at h3
    · obtain ⟨hs, h⟩ := h3
      obtain ⟨u, i, hu, hi, rfl⟩ := td_some hF
      obtain rfl := strD_true hs
      exact fin _ _ _ rfl rfl rfl (fun w => run_equalIn_string w 9998 f.type _ _ hu) h
    · obtain ⟨rfl, hs, h⟩ := h3
      obtain ⟨u, i, hu, hi, rfl⟩ := td_some hF
      obtain ⟨k', hk'⟩ := Option.isSome_iff_exists.1 hs
      obtain rfl := ikD_some hk'
      exact fin _ _ _ rfl rfl rfl (fun w => run_equalIn_int w 9998 f.type _ _ _ _ hu) h
    · obtain ⟨hs, h⟩ := h3
      obtain ⟨u, i, hu, hi, rfl⟩ := td_some hF
      obtain rfl := boolD_true hs
      exact fin _ _ _ rfl rfl rfl (fun w => run_equalIn_bool' w 9998 f.type _ _ hu) h
    · exact h3.elim

theorem binK_ok {P : Program} {op : BinOp} {t : TypeId} {x y : Operand} {a b : AV} {K : AV → Prop} (h : binK P (isC x || isC y) op t a b K) : ∃ v, K v ∧ ∀ (m : List (Option Nat)) (ok : Nat → Prop) (w : World) (p q : Value), RepV m ok w a p → RepV m ok w b q →
    ∃ u, (do eqGuard op t x y p q; binOp op t p q : Sem Value).run P w = .ok u w ∧ RepV m ok w v u := by
  unfold binK at h
  split at h
  · rename_i k n k' n'
    have key : ∀ r, K (.c r) → (∀ w : World, (do eqGuard op t x y (.int k n) (.int k' n'); binOp op t (.int k n) (.int k' n') : Sem Value).run P w = .ok r w) → ∃ v, K v ∧ ∀ (m : List (Option Nat)) (ok : Nat → Prop) (w : World) (p q : Value), RepV m ok w (.c (.int k n)) p → RepV m ok w (.c (.int k' n')) q →
        ∃ u, (do eqGuard op t x y p q; binOp op t p q : Sem Value).run P w = .ok u w ∧ RepV m ok w v u := fun r hK hr => by
      refine ⟨_, hK, fun m ok w p q hp hq => ⟨r, ?_, by simp [RepV]⟩⟩
      simp only [RepV] at hp hq
      subst hp hq
      exact hr w
    cases op <;> simp only [] at h <;> first
      | exact h.elim
      | (obtain ⟨rfl, h0, h⟩ := h
         refine key _ h fun w => ?_
         simp [eqGuard, binOp, Op.intArith, Op.intDiv, Op.intBits, Op.intCmp, h0])
      | (obtain ⟨rfl, h⟩ := h
         refine key _ h fun w => ?_
         simp [eqGuard, binOp, Op.intArith, Op.intDiv, Op.intBits, Op.intCmp, bits])
      | (obtain ⟨h0, h⟩ := h
         refine key _ h fun w => ?_
         simp [eqGuard, binOp, Op.shift, show ¬ n' < 0 by omega])
  · rename_i a b
    have key : ∀ r, K (.c r) → (∀ w : World, (do eqGuard op t x y (.string a) (.string b); binOp op t (.string a) (.string b) : Sem Value).run P w = .ok r w) → ∃ v, K v ∧ ∀ (m : List (Option Nat)) (ok : Nat → Prop) (w : World) (p q : Value), RepV m ok w (.c (.string a)) p → RepV m ok w (.c (.string b)) q →
        ∃ u, (do eqGuard op t x y p q; binOp op t p q : Sem Value).run P w = .ok u w ∧ RepV m ok w v u := fun r hK hr => by
      refine ⟨_, hK, fun m ok w p q hp hq => ⟨r, ?_, by simp [RepV]⟩⟩
      simp only [RepV] at hp hq
      subst hp hq
      exact hr w
    cases op <;> simp only [] at h <;> first
      | exact h.elim
      | (obtain ⟨h0, h⟩ := h
         refine key _ h fun w => ?_
         have h1 : ¬ (IntKind.i64.max < ((a.size + b.size : Nat) : Int)) := by show ¬ (9223372036854775807 < _); omega
         simp only [eqGuard, binOp, Op.stringOp]
         simp only [Int.natCast_add] at h1
         simp
         omega)
      | (refine key _ h fun w => ?_
         simp [eqGuard, binOp, Op.stringOp])
  · rename_i a b
    obtain ⟨D, hD, hb, h⟩ := elO_ex h
    obtain ⟨u, i, hu, hi, rfl⟩ := td_some hD
    obtain rfl := boolD_true hb
    have key : ∀ r, K (.c r) → (∀ w : World, (do eqGuard op t x y (.bool a) (.bool b); binOp op t (.bool a) (.bool b) : Sem Value).run P w = .ok r w) → ∃ v, K v ∧ ∀ (m : List (Option Nat)) (ok : Nat → Prop) (w : World) (p q : Value), RepV m ok w (.c (.bool a)) p → RepV m ok w (.c (.bool b)) q →
        ∃ u, (do eqGuard op t x y p q; binOp op t p q : Sem Value).run P w = .ok u w ∧ RepV m ok w v u := fun r hK hr => by
      refine ⟨_, hK, fun m ok w p q hp hq => ⟨r, ?_, by simp [RepV]⟩⟩
      simp only [RepV] at hp hq
      subst hp hq
      exact hr w
    cases op <;> simp only [] at h <;> first
      | exact h.elim
      | (refine key _ h fun w => ?_
         simp [eqGuard, binOp, run_equal_bool w t a b hu])
  · rename_i st es
    obtain ⟨D, hD, hb, h⟩ := elO_ex h
    obtain ⟨u, i, hu, hi, rfl⟩ := td_some hD
    obtain ⟨e, he⟩ := Option.isSome_iff_exists.1 hb
    obtain rfl := elemD_some he
    have run : ∀ (A : Option Addr) (n c : Nat) (w : World), A ≠ none → (Op.equal t (.slice A n c) (.slice none 0 0)).run P w = .ok false w := fun A n c w hA => by
      rw [run_equal_slice_nil w t e A n c hu]
      cases A with
      | none => exact absurd rfl hA
      | some a => rfl
    cases op <;> simp only [] at h <;> first
      | exact h.elim
      | (refine ⟨_, h, fun m ok w p q hp hq => ?_⟩
         obtain ⟨A, cap, rfl, hn, _⟩ := hp
         simp only [RepV] at hq
         subst hq
         exact ⟨_, by simp [eqGuard, binOp, run A _ cap w (hn.1 rfl)], rfl⟩)
  · obtain ⟨D, hD, hb, h⟩ := elO_ex h
    obtain ⟨u, i, hu, hi, rfl⟩ := td_some hD
    obtain ⟨e, he⟩ := Option.isSome_iff_exists.1 hb
    obtain rfl := elemD_some he
    cases op <;> simp only [] at h <;> first
      | exact h.elim
      | (refine ⟨_, h, fun m ok w p q hp hq => ?_⟩
         simp only [RepV] at hp hq
         subst hp hq
         exact ⟨_, by simp [eqGuard, binOp, run_equal_slice_nil w t e none 0 0 hu], rfl⟩)
  · obtain ⟨hcst, h⟩ := h
    obtain ⟨D, hD, hi, h2⟩ := elO_ex h
    clear h
    obtain ⟨u, i, hu, hii, rfl⟩ := td_some hD
    obtain ⟨ms, rfl⟩ := isIfc_true hi
    have hg : ∀ w : World, ((eqGuard op t x y .nilIface .nilIface).run P w) = .ok () w := fun w => by
      have hc : (∃ v, x = .const v) ∨ ∃ v, y = .const v := by
        rcases Bool.or_eq_true_iff.1 hcst with h | h
        · cases x with
          | const v => exact Or.inl ⟨v, rfl⟩
          | tmp _ => cases h
          | global _ => cases h
          | func _ => cases h
        · cases y with
          | const v => exact Or.inr ⟨v, rfl⟩
          | tmp _ => cases h
          | global _ => cases h
          | func _ => cases h
      rcases hc with ⟨v, rfl⟩ | ⟨v, rfl⟩
      · cases op <;> simp [eqGuard]
      · cases op <;> simp [eqGuard]
    cases op <;> simp only [eqOpK] at h2 <;> first
      | exact h2.elim
      | (refine ⟨_, h2, fun m ok w p q hp hq => ?_⟩
         simp only [RepV] at hp hq
         subst hp hq
         exact ⟨_, by rw [Sem.run_bind, hg w]; first | exact (run_nil_eql w t ms hu).1 | exact (run_nil_eql w t ms hu).2, rfl⟩)
  · rename_i xs ys
    obtain ⟨D, hD, hi, h2⟩ := elO_ex h
    clear h
    obtain ⟨u, i, hu, hii, rfl⟩ := td_some hD
    obtain ⟨fs, rfl⟩ : ∃ fs, u = .struct fs := by
      cases u <;> simp_all [seqD]
    simp only [seqD, Bool.and_eq_true] at hi
    obtain ⟨hn, hst, hgt⟩ := hi
    obtain ⟨b, hb, hrun⟩ := eqFK_ok fs.toList hn h2
    have hf : P.fieldsOf t = fs := by simp [Program.fieldsOf, hu]
    have hrun2 : ∀ (m : List (Option Nat)) (ok : Nat → Prop) (w : World) (vs us : Array Value), RepL m ok w xs vs.toList → RepL m ok w ys us.toList → (Op.equalIn 10000 t (.agg vs) (.agg us)).run P w = .ok b w := fun m ok w vs us h1 h2 => by
      rw [run_equalIn_agg w 9999 t vs us (by rw [hf]; exact hu) (by simpa using hst), hf]
      exact hrun m ok w vs us h1 h2
    cases op <;> simp only [eqOpK] at hb <;> first
      | exact hb.elim
      | (refine ⟨_, hb, fun m ok w p q hp hq => ?_⟩
         obtain ⟨vs, rfl, h1, _⟩ := hp
         obtain ⟨us, rfl, h3, _⟩ := hq
         refine ⟨_, ?_, rfl⟩
         rw [Sem.run_bind, run_eqGuard_agg w _ t x y vs us (by simpa using hgt)]
         first
           | (show (binOp .eql t (.agg vs) (.agg us)).run P w = _
              rw [run_eql_struct w t vs us, hrun2 m ok w vs us h1 h3]
              rfl)
           | (show (binOp .neq t (.agg vs) (.agg us)).run P w = _
              rw [run_neq_struct w t vs us, hrun2 m ok w vs us h1 h3]
              rfl))
  · exact h.elim
end

-- part 4
section
theorem cell_of_block {w : World} {b o : Nat} {cs : Array Value} {t : TypeId} {f : Nat × Nat} (h : w.heap[b]? = some (.cells cs t f)) : w.cell? ⟨b, o, none⟩ = cs[o]? := by
  unfold World.cell?
  simp [h]

theorem RepCs.vals {ok : Nat → Prop} {w : World} {b : Nat} : ∀ {xs : List AV} {o : Nat}, RepCs ok w b o xs → ∃ vs, RepDL ok w xs vs ∧ (∀ (j : Nat) v, vs[j]? = some v → w.cell? ⟨b, o + j, none⟩ = some v) ∧ ∀ u ∈ vs, u.oneCell' = true
  | [], _, _ => ⟨[], by simp [RepDL], by simp, by simp⟩
  | x :: xs, o, ⟨⟨u, hc, h1, hx⟩, hr⟩ => by
    obtain ⟨vs, a, b', c⟩ := RepCs.vals hr
    refine ⟨u :: vs, ⟨u, vs, rfl, hx, a⟩, fun j v hj => ?_, fun v hv => ?_⟩
    · cases j with
      | zero => simp at hj; subst hj; exact hc
      | succ j =>
        have := b' j v (by simpa using hj)
        rwa [Nat.add_assoc, Nat.add_comm 1 j] at this
    · rcases List.mem_cons.1 hv with rfl | h
      · exact h1
      · exact c v h

theorem run_loadVar_cell {P : Program} {t : TypeId} {D : TD} (h : td P t = some D) (ha : D.agg = false) {w : World} {a : Addr} {v : Value} (hc : w.cell? a = some v) : (loadVar t a).run P w = .ok v w := by
  unfold loadVar
  rw [Sem.run_bind, isAgg_run h, Result.andThen_ok, ha]
  simp [hc]

theorem run_loadVar_list {P : Program} {t : TypeId} {D : TD} (h : td P t = some D) (ha : D.agg = true) {w : World} {a : Addr} {vs : List Value} (hl : vs.length = D.size) (hc : ∀ (j : Nat) v, vs[j]? = some v → w.cell? (a.add j) = some v) : (loadVar t a).run P w = .ok (.agg vs.toArray) w := by
  unfold loadVar
  rw [Sem.run_bind, isAgg_run h, Result.andThen_ok, ha]
  simp only [if_true, Sem.run_bind, sizeOf_run h, Result.andThen_ok, ← hl]
  rw [run_loadCells_list (P := P) w a vs hc]
  rfl

theorem loadA_ok {P : Program} {t : TypeId} {D : TD} (hD : td P t = some D) {h : Heap} {a : AV} {K : AV → Prop} (hK : loadA h D.agg D.size a K) :
    ∃ v, K v ∧ ∀ (m : List (Option Nat)) (ok : Nat → Prop) (w : World) (p : Value), RepV m ok w a p → HOwn m ok h w → ∃ u, (Instr.loadAt t p).run P w = .ok u w ∧ RepV m ok w v u := by
  unfold loadA at hK
  split at hK
  · rename_i xs
    cases hag : D.agg with
    | true =>
      rw [hag, if_pos rfl] at hK
      obtain ⟨hlen, hK⟩ := hK
      refine ⟨_, hK, fun m ok w p hp _ => ?_⟩
      obtain ⟨b, o, rfl, hb, hc⟩ := hp
      obtain ⟨vs, h1, h2, h3⟩ := hc.vals
      have h1' : RepL m ok w xs vs := RepDL.up xs h1
      have hl := h1'.length
      refine ⟨.agg (vs.take D.size).toArray, ?_, ⟨_, rfl, by simpa using h1'.take D.size, fun u hu => h3 u (List.mem_of_mem_take (by simpa using hu))⟩⟩
      show (loadVar t ⟨b, o, none⟩).run P w = _
      refine run_loadVar_list hD hag (by simp; omega) fun j v hj => ?_
      rw [add_plain]
      rw [List.getElem?_take] at hj
      split at hj
      · exact h2 j v hj
      · cases hj
    | false =>
      rw [hag, if_neg (by simp)] at hK
      obtain ⟨x, hx, hK⟩ := elO_ex hK
      refine ⟨_, hK, fun m ok w p hp _ => ?_⟩
      obtain ⟨b, o, rfl, hb, hc⟩ := hp
      obtain ⟨u, h1, _, h2⟩ := hc.get hx
      exact ⟨u, run_loadVar_cell hD hag h1, RepD.up _ h2⟩
  · rename_i L j
    split at hK
    · rename_i t' cs hL
      cases hag : D.agg with
      | true =>
        rw [hag, if_pos rfl] at hK
        obtain ⟨hlen, hK⟩ := hK
        refine ⟨_, hK, fun m ok w p hp ho => ?_⟩
        obtain ⟨b, hm, rfl⟩ := hp
        obtain ⟨b', vs, hm', hb, hr, h1⟩ := ho L _ hL
        rw [hm] at hm'; cases hm'
        have hl := hr.length
        refine ⟨.agg ((vs.toList.drop j).take D.size).toArray, ?_, ⟨_, rfl, by simpa using (hr.drop j).take D.size, fun u hu => h1 u (List.mem_of_mem_drop (List.mem_of_mem_take (by simpa using hu)))⟩⟩
        show (loadVar t ⟨b, j, none⟩).run P w = _
        refine run_loadVar_list hD hag (by simp at hl ⊢; omega) fun k v hk => ?_
        rw [add_plain, cell_of_block hb]
        rw [List.getElem?_take] at hk
        split at hk
        · rw [List.getElem?_drop] at hk
          simpa using hk
        · cases hk
      | false =>
        rw [hag, if_neg (by simp)] at hK
        obtain ⟨x, hx, hK⟩ := elO_ex hK
        refine ⟨_, hK, fun m ok w p hp ho => ?_⟩
        obtain ⟨b, hm, rfl⟩ := hp
        obtain ⟨b', vs, hm', hb, hr, h1⟩ := ho L _ hL
        rw [hm] at hm'; cases hm'
        obtain ⟨u, hu, hv⟩ := hr.get hx
        exact ⟨u, run_loadVar_cell hD hag (by rw [cell_of_block hb]; simpa using hu), hv⟩
    · exact hK.elim
  · rename_i L i j
    split at hK
    · rename_i t' st es hL
      obtain ⟨hst, him, hK⟩ := hK
      obtain ⟨e, he, hK⟩ := elO_ex hK
      have hii : i / st * st = i := by have := Nat.div_add_mod i st; rw [Nat.mul_comm] at this; omega
      cases hag : D.agg with
      | true =>
        rw [hag, if_pos rfl] at hK
        obtain ⟨hlen, hK⟩ := hK
        refine ⟨_, hK, fun m ok w p hp ho => ?_⟩
        obtain ⟨b, hm, rfl⟩ := hp
        obtain ⟨ob, hm', hr⟩ := ho L _ hL
        rw [hm] at hm'; cases hm'
        obtain ⟨cs, hb, _, hr⟩ := hr
        have hr := (hr _ e he).2
        rw [hii] at hr
        have hq : ∀ k, k < e.length → ∃ u, cs[i + k]? = some u ∧ u.oneCell' = true ∧ RepD ok w (e[k]?.getD .junk) u := fun k hk => by
          obtain ⟨u, h1, h2, h3⟩ := hr k e[k] (by simp [hk])
          exact ⟨u, h1, h2, by simpa [hk] using h3⟩
        have hsz : ∀ k, k < e.length → i + k < cs.size := fun k hk => by
          obtain ⟨u, h1, _⟩ := hq k hk
          exact (Array.getElem?_eq_some_iff.1 h1).1
        have hend : i + (j + D.size) ≤ cs.size := by
          rcases Nat.eq_zero_or_pos (j + D.size) with h0 | h0
          · have : es.length * st ≤ cs.size := by assumption
            have hlt : i / st < es.length := (List.getElem?_eq_some_iff.1 he).1
            have : i / st * st ≤ es.length * st := Nat.mul_le_mul_right _ (by omega)
            omega
          · have := hsz (j + D.size - 1) (by omega)
            omega
        refine ⟨.agg ((cs.toList.drop (i + j)).take D.size).toArray, ?_, ⟨_, rfl, ?_, fun u hu => ?_⟩⟩
        · show (loadVar t ⟨b, i + j, none⟩).run P w = _
          refine run_loadVar_list hD hag (by simp; omega) fun k v hk => ?_
          rw [add_plain, hb.cell]
          rw [List.getElem?_take] at hk
          split at hk
          · rw [List.getElem?_drop] at hk
            simpa using hk
          · cases hk
        · refine RepL.of (by simp; omega) fun k x u h1 h2 => ?_
          simp only [List.getElem?_take, List.getElem?_drop, Array.getElem?_toList] at h1 h2
          split at h1
          · rw [if_pos (by assumption)] at h2
            obtain ⟨u', a1, _, a2⟩ := hr (j + k) x h1
            rw [← Nat.add_assoc] at a1
            rw [a1] at h2; cases h2
            exact RepD.up _ a2
          · cases h1
        · obtain ⟨k, hk, rfl⟩ := List.getElem_of_mem hu
          simp at hk
          obtain ⟨u', a1, a2, _⟩ := hq (j + k) (by omega)
          have : cs[i + j + k] = u' := by
            have := a1
            rw [← Nat.add_assoc] at this
            exact (Array.getElem?_eq_some_iff.1 this).2
          simp [this, a2]
      | false =>
        rw [hag, if_neg (by simp)] at hK
        obtain ⟨x, hx, hK⟩ := elO_ex hK
        refine ⟨_, hK, fun m ok w p hp ho => ?_⟩
        obtain ⟨b, hm, rfl⟩ := hp
        obtain ⟨ob, hm', hr⟩ := ho L _ hL
        rw [hm] at hm'; cases hm'
        obtain ⟨cs, hb, _, hr⟩ := hr
        obtain ⟨u, h1, _, h2⟩ := (hr _ e he).2 j x hx
        rw [hii] at h1
        exact ⟨u, run_loadVar_cell hD hag (by rw [hb.cell]; exact h1), RepD.up _ h2⟩
    · rename_i t' cs hL
      cases hag : D.agg with
      | true =>
        rw [hag, if_pos rfl] at hK
        obtain ⟨hlen, hK⟩ := hK
        refine ⟨_, hK, fun m ok w p hp ho => ?_⟩
        obtain ⟨b, hm, rfl⟩ := hp
        obtain ⟨b', vs, hm', hb, hr, h1⟩ := ho L _ hL
        rw [hm] at hm'; cases hm'
        have hl := hr.length
        refine ⟨.agg ((vs.toList.drop (i + j)).take D.size).toArray, ?_, ⟨_, rfl, by simpa using (hr.drop (i + j)).take D.size, fun u hu => h1 u (List.mem_of_mem_drop (List.mem_of_mem_take (by simpa using hu)))⟩⟩
        show (loadVar t ⟨b, i + j, none⟩).run P w = _
        refine run_loadVar_list hD hag (by simp at hl ⊢; omega) fun k v hk => ?_
        rw [add_plain, cell_of_block hb]
        rw [List.getElem?_take] at hk
        split at hk
        · rw [List.getElem?_drop] at hk
          simpa using hk
        · cases hk
      | false =>
        rw [hag, if_neg (by simp)] at hK
        obtain ⟨x, hx, hK⟩ := elO_ex hK
        refine ⟨_, hK, fun m ok w p hp ho => ?_⟩
        obtain ⟨b, hm, rfl⟩ := hp
        obtain ⟨b', vs, hm', hb, hr, h1⟩ := ho L _ hL
        rw [hm] at hm'; cases hm'
        obtain ⟨u, hu, hv⟩ := hr.get hx
        exact ⟨u, run_loadVar_cell hD hag (by rw [cell_of_block hb]; simpa using hu), hv⟩
    · exact hK.elim
  · exact hK.elim

/-- One or more cells of a value. -/
theorem cells_ok {m : List (Option Nat)} {ok : Nat → Prop} {w : World} {x : AV} {v : Value} (h : cellOk x = true) (hr : RepV m ok w x v) : RepL m ok w (cellsA x) v.cells.toList ∧ ∀ u ∈ v.cells.toList, u.oneCell' = true := by
  have one : ∀ {y : AV} {u : Value}, RepV m ok w y u → u.cells = #[u] → u.oneCell' = true → RepL m ok w [y] u.cells.toList ∧ ∀ q ∈ u.cells.toList, q.oneCell' = true := fun hy hu h1 => by
    rw [hu]
    exact ⟨⟨_, [], rfl, hy, rfl⟩, fun q hq => by simp at hq; subst hq; exact h1⟩
  cases x with
  | junk => simp [cellOk] at h
  | tup xs => simp [cellOk] at h
  | c u =>
    have hr' := hr
    simp only [RepV] at hr
    subst hr
    refine one hr' ?_ h
    cases v <;> simp_all [cellOk, Value.cells, Value.oneCell']
  | nils =>
    have hr' := hr
    simp only [RepV] at hr
    subst hr
    exact one hr' rfl rfl
  | sl nn st es =>
    have hr' := hr
    obtain ⟨A, cap, rfl, _⟩ := hr
    exact one hr' rfl rfl
  | cut st es =>
    have hr' := hr
    obtain ⟨A, rfl, _⟩ := hr
    exact one hr' rfl rfl
  | dptr xs =>
    have hr' := hr
    obtain ⟨b, o, rfl, _⟩ := hr
    exact one hr' rfl rfl
  | ptr L j =>
    have hr' := hr
    obtain ⟨b, _, rfl⟩ := hr
    exact one hr' rfl rfl
  | rp L i j =>
    have hr' := hr
    obtain ⟨b, _, rfl⟩ := hr
    exact one hr' rfl rfl
  | mp L =>
    have hr' := hr
    obtain ⟨b, _, rfl⟩ := hr
    exact one hr' rfl rfl
  | own L st n =>
    have hr' := hr
    obtain ⟨ob, _, ho⟩ := hr
    cases ob with
    | none => obtain ⟨_, rfl⟩ := ho; exact one hr' rfl rfl
    | some b => obtain ⟨cap, t, rfl, _⟩ := ho; exact one hr' rfl rfl
  | agg xs =>
    obtain ⟨vs, rfl, hl, h1⟩ := hr
    exact ⟨hl, h1⟩
  | fn f cap =>
    have hr' := hr
    obtain ⟨vs, rfl, _⟩ := hr
    exact one hr' rfl rfl
  | mv f cap =>
    have hr' := hr
    obtain ⟨vs, rfl, _⟩ := hr
    exact one hr' rfl rfl

theorem setAll_length : ∀ (xs cs : List AV) (i : Nat), (setAll cs i xs).length = cs.length
  | [], _, _ => rfl
  | x :: xs, cs, i => by rw [setAll, setAll_length xs]; simp

theorem setAll_fold {m : List (Option Nat)} {ok : Nat → Prop} {w : World} (off : Nat) : ∀ (xs : List AV) (us : List Value) (k : Nat) (cs : List AV) (vs : Array Value), RepL m ok w xs us → RepL m ok w cs vs.toList → (∀ u ∈ us, u.oneCell' = true) → (∀ u ∈ vs.toList, u.oneCell' = true) →
    RepL m ok w (setAll cs (off + k) xs) ((us.zipIdx k).foldl (fun cs (c, j) => cs.setIfInBounds (off + j) c) vs).toList ∧ (∀ u ∈ ((us.zipIdx k).foldl (fun cs (c, j) => cs.setIfInBounds (off + j) c) vs).toList, u.oneCell' = true)
  | [], _, _, _, _, h, hc, _, h1 => by cases h; exact ⟨hc, h1⟩
  | x :: xs, _, k, cs, vs, ⟨u, us, rfl, hx, hr⟩, hc, h1, h2 => by
    rw [setAll, List.zipIdx_cons, List.foldl_cons]
    refine setAll_fold off xs us (k + 1) _ _ hr ?_ (fun q hq => h1 q (by simp [hq])) fun q hq => ?_
    · have := hc.set (off + k) hx
      simpa using this
    · simp only [Array.toList_setIfInBounds] at hq
      rcases List.mem_or_eq_of_mem_set hq with h | h
      · exact h2 q h
      · subst h; exact h1 _ (by simp)

theorem fillA_ok {m : List (Option Nat)} {ok : Nat → Prop} {w : World} (place : Nat → Option (Nat × Nat)) : ∀ (ps : List (Nat × AV)) (qs : List (Nat × Value)) (cs : List AV) (vs : Array Value) (out : List AV), fillA place cs ps = some out → RepL m ok w cs vs.toList → (∀ u ∈ vs.toList, u.oneCell' = true) →
    qs.length = ps.length → (∀ (i : Nat) (p : Nat × AV) (q : Nat × Value), ps[i]? = some p → qs[i]? = some q → p.1 = q.1 ∧ RepV m ok w p.2 q.2) → ∃ vs', Instr.fill place vs qs = some vs' ∧ RepL m ok w out vs'.toList ∧ ∀ u ∈ vs'.toList, u.oneCell' = true
  | [], qs, cs, vs, out, h, hc, h1, hl, _ => by
    simp [fillA] at h
    subst h
    obtain rfl := List.eq_nil_of_length_eq_zero hl
    exact ⟨vs, rfl, hc, h1⟩
  | (i, x) :: ps, [], _, _, _, _, _, _, hl, _ => by simp at hl
  | (i, x) :: ps, (k, v) :: qs, cs, vs, out, h, hc, h1, hl, hp => by
    obtain ⟨h0, hx⟩ := hp 0 _ _ rfl rfl
    simp only at h0 hx
    subst h0
    unfold fillA at h
    split at h
    · cases h
    · rename_i off size hpl
      split at h
      · rename_i hcond
        obtain ⟨hco, hsz, hle⟩ := hcond
        obtain ⟨hr, hone⟩ := cells_ok hco hx
        have hlen := hr.length
        have hlv := hc.length
        unfold Instr.fill
        rw [hpl]
        simp only
        rw [if_neg (by simp at hlen hlv ⊢; omega)]
        have key := setAll_fold off (cellsA x) v.cells.toList 0 cs vs hr hc hone h1
        rw [Nat.add_zero] at key
        have e : (Array.foldl (fun cs (x : Value × Nat) => cs.setIfInBounds (off + x.2) x.1) vs v.cells.zipIdx) = (v.cells.toList.zipIdx 0).foldl (fun cs (c, j) => cs.setIfInBounds (off + j) c) vs := by
          rw [← Array.foldl_toList, Array.toList_zipIdx]
        refine fillA_ok place ps qs _ _ out h ?_ ?_ (by simpa using hl) fun i p q a b => hp (i + 1) p q (by simpa using a) (by simpa using b)
        · exact e ▸ key.1
        · exact e ▸ key.2
      · cases h

/-! Maps. -/
theorem kindK_ex {P : Program} {k : TypeId} {K : KT → Prop} (h : kindK P k K) : ∃ kt d, P.underlying k = some d ∧ K kt ∧ ∀ mk, keyOk kt mk = true → MapKept.IsKey d (keyV kt mk) := by
  obtain ⟨D, hD, h⟩ := elO_ex h
  obtain ⟨u, i, hu, hi, rfl⟩ := td_some hD
  simp only at h
  split at h
  · rename_i hs
    obtain rfl := strD_true hs
    refine ⟨.s, _, hu, h, fun mk ho => ?_⟩
    cases mk <;> simp [keyOk, keyV, MapKept.IsKey] at *
  · obtain ⟨q, hq, h2⟩ := elO_ex h
    obtain rfl := ikD_some hq
    refine ⟨.i q, _, hu, h2, fun mk ho => ?_⟩
    cases mk <;> simp [keyOk, keyV, MapKept.IsKey] at *
theorem mapT_ex {P : Program} {t : TypeId} {K : KT → TypeId → Prop} (h : mapT P t K) : ∃ k e kt d, P.underlying t = some (.map k e) ∧ P.underlying k = some d ∧ K kt e ∧ ∀ mk, keyOk kt mk = true → MapKept.IsKey d (keyV kt mk) := by
  obtain ⟨D, hD, h⟩ := elO_ex h
  obtain ⟨u, i, hu, hi, rfl⟩ := td_some hD
  obtain ⟨p, hp, h2⟩ := elO_ex h
  clear h
  obtain rfl := mapD_some hp
  obtain ⟨kt, d, hd, hK, hk⟩ := kindK_ex h2
  exact ⟨_, _, kt, d, hu, hd, hK, hk⟩
theorem keyA_ok {kt : KT} {x : AV} {mk : MK} (h : keyA kt x = some mk) : keyOk kt mk = true ∧ x = .c (keyV kt mk) := by
  unfold keyA at h
  split at h
  · cases h; exact ⟨rfl, rfl⟩
  · split at h
    · rename_i e
      cases h; subst e; exact ⟨rfl, rfl⟩
    · cases h
  · cases h
theorem keyV_inj {kt : KT} {a b : MK} (ha : keyOk kt a = true) (hb : keyOk kt b = true) (h : keyV kt a = keyV kt b) : a = b := by
  cases kt <;> cases a <;> cases b <;> simp_all [keyOk, keyV]

section
variable {ok : Nat → Prop} {w : World} {kt : KT}
theorem MapEs.keys : ∀ {l : List MapEntry} {es : List (MK × AV)}, MapEs ok w kt l es → ∀ e ∈ l, ∃ mk, e.key = keyV kt mk ∧ keyOk kt mk = true
  | [], _, _, _, h => by cases h
  | e :: l, _, ⟨p, r, _, hk, ho, _, hr⟩, e', h => by
    rcases List.mem_cons.1 h with rfl | h
    · exact ⟨p.1, hk, ho⟩
    · exact MapEs.keys hr e' h
theorem MapEs.length : ∀ {l : List MapEntry} {es : List (MK × AV)}, MapEs ok w kt l es → l.length = es.length
  | [], _, h => by cases h; rfl
  | e :: l, _, ⟨p, r, he, _, _, _, hr⟩ => by rw [he, List.length_cons, List.length_cons, MapEs.length hr]
theorem MapEs.none {mk : MK} (hm : keyOk kt mk = true) : ∀ {l : List MapEntry} {es : List (MK × AV)}, MapEs ok w kt l es → (∀ e ∈ l, e.key ≠ keyV kt mk) → mget mk es = none ∧ ∀ u y born, RepD ok w y u → MapEs ok w kt (l ++ [⟨keyV kt mk, u, born⟩]) (mput mk y es)
  | [], _, h, _ => by
    cases h
    exact ⟨rfl, fun u y born hu => ⟨_, [], rfl, rfl, hm, hu, rfl⟩⟩
  | e :: l, _, ⟨p, r, he, hk, ho, hd, hr⟩, hne => by
    have hp : p.1 ≠ mk := fun h => hne e (by simp) (by rw [hk, h])
    obtain ⟨h1, h2⟩ := MapEs.none hm hr fun e' h => hne e' (by simp [h])
    subst he
    refine ⟨by rw [mget, if_neg hp]; exact h1, fun u y born hu => ?_⟩
    rw [mput, if_neg hp]
    exact ⟨p, _, rfl, hk, ho, hd, h2 u y born hu⟩
theorem MapEs.at {mk : MK} (hm : keyOk kt mk = true) : ∀ {l : List MapEntry} {es : List (MK × AV)} {j : Nat} {e : MapEntry}, MapEs ok w kt l es → (l.map (·.key)).Nodup → l[j]? = some e → e.key = keyV kt mk → (∃ x, mget mk es = some x ∧ RepD ok w x e.val) ∧ ∀ u y, RepD ok w y u → MapEs ok w kt (l.set j { e with key := keyV kt mk, val := u }) (mput mk y es)
  | [], _, _, _, _, _, h, _ => by simp at h
  | e0 :: l, _, 0, e, ⟨p, r, he, hk, ho, hd, hr⟩, _, hj, hek => by
    simp only [List.getElem?_cons_zero, Option.some.injEq] at hj
    subst hj
    have hp : p.1 = mk := keyV_inj ho hm (hk.symm.trans hek)
    subst he
    refine ⟨⟨p.2, by rw [mget, if_pos hp], hd⟩, fun u y hu => ?_⟩
    rw [mput, if_pos hp]
    exact ⟨_, r, rfl, rfl, hm, hu, hr⟩
  | e0 :: l, _, j + 1, e, ⟨p, r, he, hk, ho, hd, hr⟩, hn, hj, hek => by
    simp only [List.getElem?_cons_succ] at hj
    simp only [List.map_cons, List.nodup_cons] at hn
    have hp : p.1 ≠ mk := fun h => hn.1 (List.mem_map.2 ⟨e, List.mem_of_getElem? hj, by rw [hek, hk, h]⟩)
    obtain ⟨⟨x, h1, h2⟩, h3⟩ := MapEs.at hm hr hn.2 hj hek
    subst he
    refine ⟨⟨x, by rw [mget, if_neg hp]; exact h1, h2⟩, fun u y hu => ?_⟩
    rw [mput, if_neg hp]
    exact ⟨p, _, rfl, hk, ho, hd, h3 u y hu⟩

/-- What a lookup finds. -/
theorem run_look {P : Program} {t k e : TypeId} {d : TypeDesc} {l : Array MapEntry} {clock : Nat} {b : Nat} {es : List (MK × AV)} {mk : MK} {z : Value} (ht : P.underlying t = some (.map k e)) (hd : P.underlying k = some d) (hk : ∀ mk, keyOk kt mk = true → MapKept.IsKey d (keyV kt mk)) (hm : keyOk kt mk = true)
    (hb : w.heap[b]? = some (.map l clock)) (hs : MapKept.Stamped l clock) (hr : MapEs ok w kt l.toList es) (hz : (zeroValue e).run P w = .ok z w) (c : Bool) :
    (mget mk es = .none ∧ (Instr.lookup t (.map (some b)) (keyV kt mk) c).run P w = .ok (if c then .tuple #[z, .bool false] else z) w) ∨ ∃ x v, mget mk es = some x ∧ RepD ok w x v ∧ (Instr.lookup t (.map (some b)) (keyV kt mk) c).run P w = .ok (if c then .tuple #[v, .bool true] else v) w := by
  have hks : ∀ x ∈ l.toList, MapKept.IsKey d x.key := fun x hx => by
    obtain ⟨mk', h1, h2⟩ := hr.keys x hx
    rw [h1]; exact hk _ h2
  have hc := fun em => MapKept.run_checkKey (w := w) hd (hk mk hm) em 9999
  rcases MapKept.findNow_spec (hk mk hm) l.toList 0 hks with ⟨h1, h2⟩ | ⟨j, e0, h1, h2, h3⟩
  · have hf := MapKept.run_findKey (w := w) hd h1
    exact Or.inl ⟨(MapEs.none hm hr h2).1, by simp [Instr.lookup, run_underlying ht, MapKept.run_getObj_map hb, hc, hf, hz, Result.andThen]⟩
  · have hf := MapKept.run_findKey (w := w) hd h1
    obtain ⟨⟨x, h4, h5⟩, _⟩ := MapEs.at hm hr hs.2.2 h2 h3
    exact Or.inr ⟨x, _, h4, h5, by simp [Instr.lookup, run_underlying ht, MapKept.run_getObj_map hb, hc, hf, Result.andThen]⟩
/-- What a store into a map makes of it. -/
theorem run_mput {P : Program} {t k e : TypeId} {d : TypeDesc} {l : Array MapEntry} {clock : Nat} {b : Nat} {es : List (MK × AV)} {mk : MK} {u : Value} {y : AV} (ht : P.underlying t = some (.map k e)) (hd : P.underlying k = some d) (hk : ∀ mk, keyOk kt mk = true → MapKept.IsKey d (keyV kt mk)) (hm : keyOk kt mk = true)
    (hb : w.heap[b]? = some (.map l clock)) (hs : MapKept.Stamped l clock) (hr : MapEs ok w kt l.toList es) (hu : RepD ok w y u) :
    ∃ l' clock', (Instr.mapUpdate t (.map (some b)) (keyV kt mk) u).run P w = .ok () { w with heap := w.heap.setIfInBounds b (.map l' clock') } ∧ MapKept.Stamped l' clock' ∧ MapEs ok w kt l'.toList (mput mk y es) := by
  have hks : ∀ x ∈ l.toList, MapKept.IsKey d x.key := fun x hx => by
    obtain ⟨mk', h1, h2⟩ := hr.keys x hx
    rw [h1]; exact hk _ h2
  have hc := fun em => MapKept.run_checkKey (w := w) hd (hk mk hm) em 9999
  rcases MapKept.findNow_spec (hk mk hm) l.toList 0 hks with ⟨h1, h2⟩ | ⟨j, e0, h1, h2, h3⟩
  · have hf := MapKept.run_findKey (w := w) hd h1
    refine ⟨l.push ⟨keyV kt mk, u, clock⟩, clock + 1, by simp [Instr.mapUpdate, run_underlying ht, MapKept.run_getObj_map hb, hc, hf, MapKept.run_setObj_map _ hb, Result.andThen], MapKept.stamped_push hs h2, ?_⟩
    rw [Array.toList_push]
    exact (MapEs.none hm hr h2).2 u y clock hu
  · have hf := MapKept.run_findKey (w := w) hd h1
    have hj : l[j]? = some e0 := by simpa using h2
    refine ⟨l.modify j (fun e' => { e' with key := keyV kt mk, val := u }), clock, by simp [Instr.mapUpdate, run_underlying ht, MapKept.run_getObj_map hb, hc, hf, hj, h3, MapKept.run_keyThatStays (hk mk hm), MapKept.run_setObj_map _ hb, Result.andThen], MapKept.stamped_modify hs _ _ (fun _ _ => rfl) (fun e' _ he' => by rw [hj] at he'; cases he'; exact h3.symm), ?_⟩
    rw [Array.toList_modify, ChangeMaps.modify_eq_set _ _ _ _ h2]
    exact (MapEs.at hm hr hs.2.2 h2 h3).2 u y hu
end
end

-- part 5
section
theorem lenA_ok {P : Program} {t : TypeId} {D : TD} (hD : td P t = some D) {x : AV} {n : Int} (hn : lenA x = some n) (hk : lenK D x = true) {m : List (Option Nat)} {ok : Nat → Prop} {w : World} {v : Value} (hr : RepV m ok w x v) (ty : TypeId) :
    (Builtin.len_ #[t] ty #[v]).run P w = .ok (.int .i64 n) w := by
  obtain ⟨u, i, hu, hi, rfl⟩ := td_some hD
  have sl : ∀ (A : Option Addr) (k cap : Nat), (elemD u).isSome = true → (Builtin.len_ #[t] ty #[.slice A k cap]).run P w = .ok (.int .i64 k) w := fun A k cap he => by
    obtain ⟨e, he⟩ := Option.isSome_iff_exists.1 he
    obtain rfl := elemD_some he
    simp [Builtin.len_, run_underlying hu, goInt]
  unfold lenA at hn
  split at hn <;> simp only [lenK] at hk
  · cases hn
    simp only [RepV] at hr
    subst hr
    obtain rfl := strD_true hk
    simp [Builtin.len_, run_underlying hu, goInt]
  · cases hn
    simp only [RepV] at hr
    subst hr
    exact sl none 0 0 hk
  · cases hn
    obtain ⟨A, cap, rfl, _⟩ := hr
    exact sl A _ cap hk
  · cases hn
    obtain ⟨ob, _, ho⟩ := hr
    cases ob with
    | none => obtain ⟨rfl, rfl⟩ := ho; exact sl none 0 0 hk
    | some b => obtain ⟨cap, t, rfl, _⟩ := ho; exact sl _ _ cap hk
  · cases hn

theorem run_indexAt {P : Program} {t e : TypeId} {E : TD} (hu : P.underlying t = some (.slice e)) (hE : td P e = some E) {b o len cap : Nat} {k : IntKind} {n : Int} (h0 : 0 ≤ n) (hn : n.toNat < len) (w : World) :
    (Instr.indexAt t (.slice (some ⟨b, o, none⟩) len cap) (.int k n)).run P w = .ok (.pointer (some ⟨b, o + n.toNat * E.size, none⟩)) w := by
  have h1 : n < len := by omega
  simp [Instr.indexAt, asIntOf, run_underlying hu, h0, h1, sizeOf_run hE, add_plain]

theorem run_indexAt_arr {P : Program} {t e : TypeId} {E : TD} {len : Nat} (hu : P.underlying t = some (.array len e)) (hE : td P e = some E) {b o : Nat} {k : IntKind} {n : Int} (h0 : 0 ≤ n) (hn : n.toNat < len) (w : World) :
    (Instr.indexAt t (.pointer (some ⟨b, o, none⟩)) (.int k n)).run P w = .ok (.pointer (some ⟨b, o + n.toNat * E.size, none⟩)) w := by
  have h1 : n < len := by omega
  simp [Instr.indexAt, asIntOf, run_underlying hu, h0, h1, sizeOf_run hE, add_plain, Instr.sureAddr]

theorem run_fieldAt {P : Program} {s : TypeId} {fs : Array Field} {fd : Field} {f : Nat} {F : TD} (hu : P.underlying s = some (.struct fs)) (hf : fs[f]? = some fd) (hF : td P fd.type = some F) (h0 : F.size ≠ 0) (b o : Nat) (w : World) :
    (Instr.fieldAt s (.pointer (some ⟨b, o, none⟩)) f).run P w = .ok (.pointer (some ⟨b, o + fd.offset, none⟩)) w := by
  unfold Instr.fieldAt
  simp only [Sem.run_bind, run_underlying hu, Result.andThen_ok, hf]
  simp [Instr.sureAddr, fieldPlace, sizeOf_run hF, h0, add_plain]

theorem placesA_ok {P : Program} : ∀ (fs : List Field), (placesA P (fs.map fun f => (f.offset, f.type))).length = fs.length → fs.mapM (fun f => (P.info? f.type).map fun i => (f.offset, i.size)) = some (placesA P (fs.map fun f => (f.offset, f.type)))
  | [], _ => rfl
  | f :: fs, h => by
    rw [List.map_cons, placesA] at h ⊢
    split at h
    · rename_i F hF
      obtain ⟨u, i, hu, hi, rfl⟩ := td_some hF
      have := placesA_ok fs (by simpa using h)
      simp [List.mapM_cons, hi, this, hF]
    · simp at h

theorem build_ok {P : Program} {σ : AS} {dst : Option Tmp} {t : TypeId} {parts : Array (Nat × Operand)} {type : TypeId} {pos : String} {after : Array Edge} {guard : Option (Nat × Bool)} {K : AV → Prop} {D : TD} (hD : td P t = some D) {z : List Value} (hz : D.zero = some z) (hz1 : z.all (·.oneCell') = true)
    (h : placeT P D fun pl => elO (fillA pl (z.map cvc) (parts.toList.map fun p => (p.1, aev σ p.2))) fun cs => K (.agg cs)) : ∃ v, K v ∧ OpOkP P σ ⟨dst, .build t parts, type, pos, after, guard⟩ v := by
  have key : ∀ (pl : Nat → Option (Nat × Nat)) (cs : List AV), (∀ (zv : Value) (ps : List (Nat × Value)) vs', zv.cells.toList = z → (P.info? t).bind (·.zero) = some zv → Instr.fill pl zv.cells ps = some vs' → P.built t ps = some vs') →
      fillA pl (z.map cvc) (parts.toList.map fun p => (p.1, aev σ p.2)) = some cs → OpOkP P σ ⟨dst, .build t parts, type, pos, after, guard⟩ (.agg cs) := fun pl cs hb hcs m ok ρ w hx _ => by
    obtain ⟨u, inf, hu, hi, rfl⟩ := td_some hD
    simp only [Option.map_eq_some_iff] at hz
    obtain ⟨zv, hzv, hzl⟩ := hz
    obtain ⟨vs', hf, hl, h1⟩ := fillA_ok (m := m) (ok := ok) (w := w) pl _ ((parts.map fun (i, x) => (i, ρ x)).toList) (z.map cvc) zv.cells cs hcs (by rw [hzl]; exact cvcs_rep m ok w z) (fun q hq => by rw [hzl] at hq; exact List.all_eq_true.1 hz1 q hq) (by simp) (fun i p q hp hq => by
      simp only [Array.toList_map, List.getElem?_map, Option.map_eq_some_iff] at hp hq
      obtain ⟨a, ha, rfl⟩ := hp
      obtain ⟨b, hb, rfl⟩ := hq
      rw [ha] at hb; cases hb
      exact ⟨rfl, hx _ (by simp [Op.operands]; exact ⟨_, by simpa using List.mem_of_getElem? ha⟩)⟩)
    exact ⟨.agg vs', run_value (run_build w t _ vs' (hb zv _ vs' hzl (by rw [hi]; simpa using hzv) hf)), ⟨_, rfl, hl, h1⟩⟩
  unfold placeT at h
  obtain ⟨u, inf, hu, hi, rfl⟩ := td_some hD
  split at h
  · rename_i n e ha
    have q_ := elO_ex h
    clear h
    obtain ⟨E, hE, h⟩ := q_
    have q_ := elO_ex h
    clear h
    obtain ⟨cs, hcs, h⟩ := q_
    obtain ⟨u', inf', hu', hi', rfl⟩ := td_some hE
    refine ⟨_, h, key _ cs (fun zv ps vs' hzl hzv hf => ?_) hcs⟩
    have := arrD_some ha
    simp only at this
    subst this
    rw [hi] at hzv
    simp only [Option.bind_some] at hzv
    simp [Program.built, hi, hu, hzv, hi', hf]
  · rename_i ha
    obtain ⟨hne, hlen, h⟩ := h
    have q_ := elO_ex h
    clear h
    obtain ⟨cs, hcs, h⟩ := q_
    refine ⟨_, h, key _ cs (fun zv ps vs' hzl hzv hf => ?_) hcs⟩
    cases u <;> try (simp [fieldsD] at hne; done)
    rename_i fs
    have hp := placesA_ok (P := P) fs.toList (by simpa [fieldsD] using hlen)
    rw [hi] at hzv
    simp only [Option.bind_some] at hzv
    simp only [fieldsD] at hf
    simp [Program.built, hi, hu, hzv, hp, hf]

theorem RepEs.drop {ok : Nat → Prop} {w : World} {st b : Nat} : ∀ (k : Nat) {es : List (List AV)} {o : Nat}, RepEs ok w st b o es → RepEs ok w st b (o + k * st) (es.drop k)
  | 0, _, _, h => by simpa using h
  | k + 1, [], _, _ => by simp [RepEs]
  | k + 1, e :: es, o, ⟨_, _, h⟩ => by
    have := RepEs.drop k h
    rw [List.drop_succ_cons]
    rwa [Nat.add_assoc, show st + k * st = (k + 1) * st by rw [Nat.add_mul, Nat.one_mul, Nat.add_comm]] at this
theorem RepEs.take {ok : Nat → Prop} {w : World} {st b : Nat} : ∀ (k : Nat) {es : List (List AV)} {o : Nat}, RepEs ok w st b o es → RepEs ok w st b o (es.take k)
  | 0, _, _, _ => by simp [RepEs]
  | k + 1, [], _, _ => by simp [RepEs]
  | k + 1, e :: es, o, ⟨hl, hc, h⟩ => ⟨hl, hc, RepEs.take k h⟩

theorem boundsA_ok {P : Program} {σ : AS} {n : Nat} {lo hi mx : Option Operand} {K : Nat → Nat → Prop} (h : boundsA n (lo.map (aev σ)) (hi.map (aev σ)) (mx.map (aev σ)) K) :
    ∃ a b, a ≤ b ∧ b ≤ n ∧ K a b ∧ (lo = none → a = 0) ∧ ∀ (isS : Bool) (m : List (Option Nat)) (ok : Nat → Prop) (ρ : Operand → Value) (w : World), (∀ x ∈ lo.toList ++ hi.toList ++ mx.toList, RepV m ok w (aev σ x) (ρ x)) → ∀ cap, n ≤ cap → ∃ c, b ≤ c ∧ c ≤ cap ∧ ((mx = none → c = cap) ∧ ∀ k q, mx.map (aev σ) = some (.c (.int k q)) → c = q.toNat) ∧ (Instr.sliceBounds isS n cap (lo.map ρ) (hi.map ρ) (mx.map ρ)).run P w = .ok (a, b, c) w := by
  unfold boundsA at h
  split at h
  · rename_i ha hb hm
    rw [Option.map_eq_none_iff] at ha hb hm
    subst ha hb hm
    exact ⟨0, n, Nat.zero_le _, Nat.le_refl _, h, fun _ => rfl, fun isS m ok ρ w hx cap hc => ⟨cap, hc, Nat.le_refl _, ⟨fun _ => rfl, fun _ _ h => by simp at h⟩, by simp [Instr.sliceBounds]⟩⟩
  · rename_i k a ha hb hm
    obtain ⟨h0, h1, h⟩ := h
    rw [Option.map_eq_none_iff] at hb hm
    rw [Option.map_eq_some_iff] at ha
    subst hb hm
    obtain ⟨lo, rfl, ha⟩ := ha
    refine ⟨a.toNat, n, by omega, Nat.le_refl _, h, fun h => (by cases h), fun isS m ok ρ w hx cap hc => ⟨cap, hc, Nat.le_refl _, ⟨fun _ => rfl, fun _ _ h => by simp at h⟩, ?_⟩⟩
    have q := hx lo (by simp)
    rw [ha] at q
    simp only [RepV] at q
    simp [Instr.sliceBounds, Instr.sliceBound, asIntOf, q, h0, h1]
  · rename_i k b ha hb hm
    obtain ⟨h0, h1, h⟩ := h
    rw [Option.map_eq_none_iff] at ha hm
    rw [Option.map_eq_some_iff] at hb
    subst ha hm
    obtain ⟨hi, rfl, hb⟩ := hb
    refine ⟨0, b.toNat, by omega, by omega, h, fun _ => rfl, fun isS m ok ρ w hx cap hc => ⟨cap, by omega, Nat.le_refl _, ⟨fun _ => rfl, fun _ _ h => by simp at h⟩, ?_⟩⟩
    have q := hx hi (by simp)
    rw [hb] at q
    simp only [RepV] at q
    simp [Instr.sliceBounds, Instr.sliceBound, asIntOf, q, h0, show b ≤ (cap : Int) by omega]
  · rename_i k a k' b ha hb hm
    obtain ⟨h0, h1, h2, h⟩ := h
    rw [Option.map_eq_none_iff] at hm
    rw [Option.map_eq_some_iff] at ha hb
    subst hm
    obtain ⟨lo, rfl, ha⟩ := ha
    obtain ⟨hi, rfl, hb⟩ := hb
    refine ⟨a.toNat, b.toNat, by omega, by omega, h, fun h => (by cases h), fun isS m ok ρ w hx cap hc => ⟨cap, by omega, Nat.le_refl _, ⟨fun _ => rfl, fun _ _ h => by simp at h⟩, ?_⟩⟩
    have q1 := hx lo (by simp)
    have q2 := hx hi (by simp)
    rw [ha] at q1
    rw [hb] at q2
    simp only [RepV] at q1 q2
    have eb : (b.toNat : Int) = b := Int.toNat_of_nonneg (by omega)
    simp [Instr.sliceBounds, Instr.sliceBound, asIntOf, q1, q2, h0, h1, eb, show 0 ≤ b by omega, show b ≤ (cap : Int) by omega]
  · rename_i k a k' b k2 mm ha hb hm
    obtain ⟨h0, h1, h2, h3, h⟩ := h
    rw [Option.map_eq_some_iff] at ha hb hm
    obtain ⟨lo, rfl, ha⟩ := ha
    obtain ⟨hi, rfl, hb⟩ := hb
    obtain ⟨mx, rfl, hm⟩ := hm
    refine ⟨a.toNat, b.toNat, by omega, by omega, h, fun h => (by cases h), fun isS m ok ρ w hx cap hc => ⟨mm.toNat, by omega, by omega, ⟨fun h => (by cases h), fun _ _ e => by
      simp only [Option.map_some, hm, Option.some.injEq, AV.c.injEq, Value.int.injEq] at e
      rw [e.2]⟩, ?_⟩⟩
    have q1 := hx lo (by simp)
    have q2 := hx hi (by simp)
    have q3 := hx mx (by simp)
    rw [ha] at q1
    rw [hb] at q2
    rw [hm] at q3
    simp only [RepV] at q1 q2 q3
    have eb : (b.toNat : Int) = b := Int.toNat_of_nonneg (by omega)
    have em : (mm.toNat : Int) = mm := Int.toNat_of_nonneg (by omega)
    simp [Instr.sliceBounds, Instr.sliceBound, asIntOf, q1, q2, q3, h0, h1, h2, eb, em, show 0 ≤ b by omega, show 0 ≤ mm by omega, show mm ≤ (cap : Int) by omega]
  · rename_i k' b k2 mm ha hb hm
    obtain ⟨h0, h2, h3, h⟩ := h
    rw [Option.map_eq_none_iff] at ha
    rw [Option.map_eq_some_iff] at hb hm
    subst ha
    obtain ⟨hi, rfl, hb⟩ := hb
    obtain ⟨mx, rfl, hm⟩ := hm
    refine ⟨0, b.toNat, by omega, by omega, h, fun _ => rfl, fun isS m ok ρ w hx cap hc => ⟨mm.toNat, by omega, by omega, ⟨fun h => (by cases h), fun _ _ e => by
      simp only [Option.map_some, hm, Option.some.injEq, AV.c.injEq, Value.int.injEq] at e
      rw [e.2]⟩, ?_⟩⟩
    have q2 := hx hi (by simp)
    have q3 := hx mx (by simp)
    rw [hb] at q2
    rw [hm] at q3
    simp only [RepV] at q2 q3
    have em : (mm.toNat : Int) = mm := Int.toNat_of_nonneg (by omega)
    simp [Instr.sliceBounds, Instr.sliceBound, asIntOf, q2, q3, h0, h2, em, show 0 ≤ mm by omega, show mm ≤ (cap : Int) by omega]
  · exact h.elim

theorem run_part {P : Program} {t e : TypeId} {E : TD} (hu : P.underlying t = some (.slice e)) (hE : td P e = some E) {w : World} {A : Option Addr} {n cap a b c : Nat} {lo hi mx : Option Value} (h : (Instr.sliceBounds true n cap lo hi mx).run P w = .ok (a, b, c) w) :
    (Instr.sliceAt t (.slice A n cap) lo hi mx).run P w = .ok (.slice (if c = a then A else A.map (·.add (a * E.size))) (b - a) (c - a)) w := by
  simp [Instr.sliceAt, Instr.slice, run_underlying hu, h, sizeOf_run hE]

theorem slice_ok {P : Program} {σ : AS} {dst : Option Tmp} {type : TypeId} {pos : String} {after : Array Edge} {guard : Option (Nat × Bool)} {t : TypeId} {x : Operand} {lo hi mx : Option Operand} {K : AV → Prop} {nn : Bool} {st : Nat} {es : List (List AV)} (hs : aev σ x = .sl nn st es)
    (h : elO (td P t) fun D => elO D.elem fun e => elO (td P e) fun E => E.size = st ∧ boundsA es.length (lo.map (aev σ)) (hi.map (aev σ)) (mx.map (aev σ)) fun a b => capK (mx.map (aev σ)) K nn st ((es.drop a).take (b - a)) b) : ∃ v, K v ∧ OpOkP P σ ⟨dst, .slice t x lo hi mx, type, pos, after, guard⟩ v := by
  have q_ := elO_ex h
  clear h
  obtain ⟨D, hD, h⟩ := q_
  have q_ := elO_ex h
  clear h
  obtain ⟨e, he, h⟩ := q_
  have q_ := elO_ex h
  clear h
  obtain ⟨E, hE, hst, h⟩ := q_
  obtain ⟨a, b, hab, hbn, hK, _, hrun⟩ := boundsA_ok (P := P) h
  have hl : ((es.drop a).take (b - a)).length = b - a := by rw [List.length_take, List.length_drop]; omega
  have hK2 : (K (.sl nn st ((es.drop a).take (b - a)))) ∨ (∃ k q, mx.map (aev σ) = some (.c (.int k q)) ∧ b = q.toNat) ∧ K (.cut st ((es.drop a).take (b - a))) := by
    unfold capK at hK
    split at hK
    · rename_i k q hq
      split at hK
      · rename_i hbq
        exact .inr ⟨⟨k, q, hq, hbq⟩, hK⟩
      · exact .inl hK
    · exact .inl hK
  obtain ⟨u, i, hu, hi', rfl⟩ := td_some hD
  obtain rfl := elemD_some he
  rcases hK2 with hK | ⟨⟨k, q, hq, hbq⟩, hK⟩
  rotate_left
  · refine ⟨_, hK, fun m ok ρ w hx ho => ?_⟩
    have q1 := hx x (by simp [Op.operands])
    rw [hs] at q1
    obtain ⟨A, cap, hv, ⟨hn1, hn2, hn3⟩, hr⟩ := q1
    obtain ⟨c, hc1, hc2, hc3, hb⟩ := hrun true m ok ρ w (fun y hy => hx y (by
      simp only [List.mem_append, Option.mem_toList] at hy
      simp only [Op.operands, Array.mem_append]
      rcases hy with (hy | hy) | hy <;> subst hy <;> simp)) cap hn3
    obtain rfl : c = b := by rw [hc3.2 k q hq, hbq]
    refine ⟨_, by simp only [execOp, hv]; exact run_value (run_part hu hE hb), ?_⟩
    refine ⟨_, by rw [hl], fun h0 => ?_⟩
    rw [hl] at h0
    obtain ⟨bb, o, rfl, hok, he⟩ := hr (by omega)
    rw [if_neg (by omega)]
    exact ⟨bb, o + a * E.size, by simp [Eng.add_plain], hok, by rw [hst]; exact (he.drop a).take (c - a)⟩
  refine ⟨_, hK, fun m ok ρ w hx ho => ?_⟩
  have q1 := hx x (by simp [Op.operands])
  rw [hs] at q1
  obtain ⟨A, cap, hv, ⟨hn1, hn2, hn3⟩, hr⟩ := q1
  obtain ⟨c, hc1, hc2, _, hb⟩ := hrun true m ok ρ w (fun y hy => hx y (by
    simp only [List.mem_append, Option.mem_toList] at hy
    simp only [Op.operands, Array.mem_append]
    rcases hy with (hy | hy) | hy <;> subst hy <;> simp)) cap hn3
  refine ⟨_, by simp only [execOp, hv]; exact run_value (run_part hu hE hb), ?_⟩
  refine ⟨_, c - a, by rw [hl], ⟨fun h0 => ?_, fun h0 => ?_, by omega⟩, fun h0 => ?_⟩
  · have := hn1 h0
    split
    · exact this
    · cases A with
      | none => exact absurd rfl this
      | some a => simp
  · have : A = none := by
      split at h0
      · exact h0
      · simpa using h0
    have := hn2 this
    omega
  · rw [hl] at h0
    obtain ⟨bb, o, rfl, hok, he⟩ := hr (by omega)
    rw [if_neg (by omega)]
    exact ⟨bb, o + a * E.size, by simp [Eng.add_plain], hok, by rw [hst]; exact (he.drop a).take (b - a)⟩

theorem RepCs.take {ok : Nat → Prop} {w : World} {b : Nat} : ∀ (n : Nat) {xs : List AV} {o : Nat}, RepCs ok w b o xs → RepCs ok w b o (xs.take n)
  | 0, _, _, _ => by simp [RepCs]
  | n + 1, [], _, _ => by simp [RepCs]
  | n + 1, y :: ys, o, ⟨h1, hr⟩ => by
    rw [List.take_succ_cons]
    exact ⟨h1, RepCs.take n hr⟩
theorem chunk_succ (n st : Nat) (xs : List AV) : chunk (n + 1) st xs = xs.take st :: chunk n st (xs.drop st) := by
  unfold chunk
  rw [List.range_succ_eq_map, List.map_cons, List.map_map]
  simp only [Nat.zero_mul, List.drop_zero]
  congr 1
  apply List.map_congr_left
  intro i _
  simp only [Function.comp, List.drop_drop]
  rw [show Nat.succ i * st = st + i * st by rw [Nat.succ_mul, Nat.add_comm]]
theorem RepCs.chunk {ok : Nat → Prop} {w : World} {b st : Nat} : ∀ (n : Nat) {xs : List AV} {o : Nat}, n * st ≤ xs.length → RepCs ok w b o xs → RepEs ok w st b o (chunk n st xs)
  | 0, _, _, _, _ => trivial
  | n + 1, xs, o, hl, h => by
    rw [chunk_succ]
    rw [Nat.add_mul, Nat.one_mul] at hl
    exact ⟨by rw [List.length_take]; omega, h.take st, RepCs.chunk n (by rw [List.length_drop]; omega) (h.drop st)⟩

theorem run_part_arr {P : Program} {t e : TypeId} {E : TD} {N : Nat} (hu : P.underlying t = some (.array N e)) (hE : td P e = some E) {w : World} {b o x y c : Nat} {lo hi mx : Option Value} (h : (Instr.sliceBounds false N N lo hi mx).run P w = .ok (x, y, c) w) :
    (Instr.sliceAt t (.pointer (some ⟨b, o, none⟩)) lo hi mx).run P w = .ok (.slice (some (if c = x then ⟨b, o, none⟩ else ⟨b, o + x * E.size, none⟩)) (y - x) (c - x)) w := by
  simp [Instr.sliceAt, run_underlying hu, Instr.sureAddr, h, sizeOf_run hE, Eng.add_plain]

/-- A part of an array that is data. -/
theorem slice_dptr {P : Program} {σ : AS} {t : TypeId} {x : Operand} {lo hi mx : Option Operand} {K : AV → Prop} {xs : List AV} (h : sliceA P t (lo.map (aev σ)) (hi.map (aev σ)) (mx.map (aev σ)) K (.dptr xs)) : ∃ v, K v ∧ ∀ (m m2 : List (Option Nat)) (ok ok2 : Nat → Prop) (ρ : Operand → Value) (w : World), RepD ok w (.dptr xs) (ρ x) → (∀ y ∈ lo.toList ++ hi.toList ++ mx.toList, RepV m2 ok2 w (aev σ y) (ρ y)) →
    ∃ u, (Instr.sliceAt t (ρ x) (lo.map ρ) (hi.map ρ) (mx.map ρ)).run P w = .ok u w ∧ RepD ok w v u := by
  unfold sliceA at h
  have q_ := elO_ex h
  clear h
  obtain ⟨D, hD, h⟩ := q_
  have q_ := elO_ex h
  clear h
  obtain ⟨⟨N, e⟩, ha, h⟩ := q_
  have q_ := elO_ex h
  clear h
  obtain ⟨E, hE, hl, h0, h⟩ := q_
  obtain ⟨a, b, hab, hbn, hK, _, hrun⟩ := boundsA_ok (P := P) h
  refine ⟨_, hK, fun m m2 ok ok2 ρ w hx hy => ?_⟩
  obtain ⟨u, i, hu, hi', rfl⟩ := td_some hD
  have ha' := arrD_some ha
  simp only at ha'
  subst ha'
  obtain ⟨bb, o, hv, hok, hc⟩ := hx
  obtain ⟨c, hc1, hc2, _, hb⟩ := hrun false m2 ok2 ρ w hy N (Nat.le_refl _)
  refine ⟨_, by rw [hv]; exact run_part_arr hu hE hb, ?_⟩
  have hln : (chunk N E.size xs).length = N := by simp [chunk]
  have hl' : (((chunk N E.size xs).drop a).take (b - a)).length = b - a := by rw [List.length_take, List.length_drop, hln]; omega
  refine ⟨_, c - a, by rw [hl'], ⟨fun _ => by simp, fun h => (by simp at h), by rw [hl']; omega⟩, fun h1 => ?_⟩
  rw [hl'] at h1
  rw [if_neg (by omega)]
  exact ⟨bb, o + a * E.size, rfl, hok, ((hc.chunk N hl).drop a).take (b - a)⟩

theorem slice_own {P : Program} {σ : AS} {dst : Option Tmp} {type : TypeId} {pos : String} {after : Array Edge} {guard : Option (Nat × Bool)} {t : TypeId} {x : Operand} {lo hi mx : Option Operand} {K : AV → Prop} {L st n : Nat} (hs : aev σ x = .own L st n)
    (h : lo.map (aev σ) = none ∧ mx.map (aev σ) = none ∧ elO (td P t) fun D => elO D.elem fun e => elO (td P e) fun E => E.size = st ∧ boundsA n none (hi.map (aev σ)) none fun _ b => K (.own L st b)) : ∃ v, K v ∧ OpOkP P σ ⟨dst, .slice t x lo hi mx, type, pos, after, guard⟩ v := by
  obtain ⟨h1, h2, h⟩ := h
  rw [Option.map_eq_none_iff] at h1 h2
  subst h1 h2
  have q_ := elO_ex h
  clear h
  obtain ⟨D, hD, h⟩ := q_
  have q_ := elO_ex h
  clear h
  obtain ⟨e, he, h⟩ := q_
  have q_ := elO_ex h
  clear h
  obtain ⟨E, hE, hst, h⟩ := q_
  obtain ⟨a, b, hab, hbn, hK, ha, hrun⟩ := boundsA_ok (P := P) (lo := none) (mx := none) h
  obtain rfl := ha rfl
  refine ⟨_, hK, fun m ok ρ w hx ho => ?_⟩
  obtain ⟨u, i, hu, hi', rfl⟩ := td_some hD
  obtain rfl := elemD_some he
  have q1 := hx x (by simp [Op.operands])
  rw [hs] at q1
  obtain ⟨ob, hm, hv⟩ := q1
  have hcap : ∃ A cap, ρ x = .slice A n cap ∧ n ≤ cap ∧ (if cap = 0 then A else A.map (·.add (0 * E.size))) = A := by
    cases ob with
    | none =>
      obtain ⟨rfl, hv⟩ := hv
      exact ⟨none, 0, hv, Nat.le_refl _, by simp⟩
    | some bb =>
      obtain ⟨cap, t', hv, hnc, _⟩ := hv
      exact ⟨_, cap, hv, hnc, by simp [Eng.add_plain]⟩
  obtain ⟨A, cap, hvx, hnc, hA⟩ := hcap
  obtain ⟨c, hc1, hc2, hc3, hb⟩ := hrun true m ok ρ w (fun y hy => hx y (by
    simp only [List.mem_append, Option.mem_toList] at hy
    simp only [Op.operands, Array.mem_append]
    rcases hy with (hy | hy) | hy <;> first | (cases hy; done) | (subst hy; simp))) cap hnc
  obtain rfl := hc3.1 rfl
  refine ⟨_, by simp only [execOp, hvx]; exact run_value (run_part hu hE hb), ob, hm, ?_⟩
  rw [hA, Nat.sub_zero, Nat.sub_zero]
  cases ob with
  | none =>
    obtain ⟨rfl, hv⟩ := hv
    rw [hvx] at hv
    cases hv
    exact ⟨by omega, by rw [show b = 0 by omega]⟩
  | some bb =>
    obtain ⟨cap', t', hv, hnc', hcm, hsh⟩ := hv
    rw [hvx] at hv
    cases hv
    exact ⟨_, t', rfl, by omega, hcm, hsh⟩

theorem slice_nil {P : Program} {σ : AS} {dst : Option Tmp} {type : TypeId} {pos : String} {after : Array Edge} {guard : Option (Nat × Bool)} {t : TypeId} {x : Operand} {lo hi mx : Option Operand} {K : AV → Prop} (hs : aev σ x = .nils)
    (h : lo.map (aev σ) = none ∧ mx.map (aev σ) = none ∧ elO (td P t) fun D => elO D.elem fun e => elO (td P e) fun _ => boundsA 0 none (hi.map (aev σ)) none fun _ _ => K .nils) : ∃ v, K v ∧ OpOkP P σ ⟨dst, .slice t x lo hi mx, type, pos, after, guard⟩ v := by
  obtain ⟨h1, h2, h⟩ := h
  rw [Option.map_eq_none_iff] at h1 h2
  subst h1 h2
  have q_ := elO_ex h
  clear h
  obtain ⟨D, hD, h⟩ := q_
  have q_ := elO_ex h
  clear h
  obtain ⟨e, he, h⟩ := q_
  have q_ := elO_ex h
  clear h
  obtain ⟨E, hE, h⟩ := q_
  obtain ⟨a, b, hab, hbn, hK, ha, hrun⟩ := boundsA_ok (P := P) (lo := none) (mx := none) h
  obtain rfl := ha rfl
  refine ⟨_, hK, fun m ok ρ w hx ho => ?_⟩
  obtain ⟨u, i, hu, hi', rfl⟩ := td_some hD
  obtain rfl := elemD_some he
  have q1 := hx x (by simp [Op.operands])
  rw [hs] at q1
  simp only [RepV] at q1
  obtain ⟨c, hc1, hc2, hc3, hb⟩ := hrun true m ok ρ w (fun y hy => hx y (by
    simp only [List.mem_append, Option.mem_toList] at hy
    simp only [Op.operands, Array.mem_append]
    rcases hy with (hy | hy) | hy <;> first | (cases hy; done) | (subst hy; simp))) 0 (Nat.le_refl _)
  obtain rfl := hc3.1 rfl
  refine ⟨_, by simp only [execOp, q1]; exact run_value (run_part hu hE hb), ?_⟩
  obtain rfl : b = 0 := by omega
  simp [RepV]

theorem apure_ok {P : Program} {σ : AS} {o : Oper} {K : AV → Prop} (h : apure P σ o K) : ∃ v, K v ∧ OpOkP P σ o v := by
  obtain ⟨dst, op, type, pos, after, guard⟩ := o
  unfold apure apureO at h
  simp only at h
  split at h
  -- move
  · rename_i x
    exact ⟨_, h, fun m ok ρ w hx _ => ⟨ρ x, rfl, hx x (by simp [Op.operands])⟩⟩
  -- assign
  · rename_i x
    exact ⟨_, h, fun m ok ρ w hx _ => ⟨ρ x, rfl, hx x (by simp [Op.operands])⟩⟩
  -- pick
  · rename_i c a b
    unfold pickA at h
    split at h
    · rename_i t ht
      have hc : ∀ (m : List (Option Nat)) (ok : Nat → Prop) (ρ : Operand → Value) (w : World), (∀ x ∈ (Op.pick c a b).operands, RepV m ok w (aev σ x) (ρ x)) → ρ c = .bool t := fun m ok ρ w hx => by
        have := hx c (by simp [Op.operands])
        rw [ht] at this
        exact this
      cases t with
      | true => exact ⟨_, h.1 rfl, fun m ok ρ w hx _ => ⟨ρ a, by simp [execOp, hc m ok ρ w hx, asBool], hx a (by simp [Op.operands])⟩⟩
      | false => exact ⟨_, h.2 rfl, fun m ok ρ w hx _ => ⟨ρ b, by simp [execOp, hc m ok ρ w hx, asBool], hx b (by simp [Op.operands])⟩⟩
    · exact h.elim
  -- extract
  · rename_i x k
    split at h
    · rename_i xs hxs
      have q_ := elO_ex h
      clear h
      obtain ⟨y, hy, h⟩ := q_
      refine ⟨_, h, fun m ok ρ w hx _ => ?_⟩
      have := hx x (by simp [Op.operands])
      rw [hxs] at this
      obtain ⟨vs, hv, hl⟩ := this
      obtain ⟨u, hu, hr⟩ := hl.get hy
      have hu' : vs[k]? = some u := by simpa using hu
      exact ⟨u, by simp [execOp, Instr.extract, hv, hu'], hr⟩
    · exact h.elim
  -- binOp
  · rename_i op t x y yt
    obtain ⟨v, hK, hv⟩ := binK_ok (x := x) (y := y) h
    refine ⟨v, hK, fun m ok ρ w hx _ => ?_⟩
    obtain ⟨u, hr, hu⟩ := hv m ok w (ρ x) (ρ y) (hx x (by simp [Op.operands])) (hx y (by simp [Op.operands]))
    exact ⟨u, run_value hr, hu⟩
  -- not
  · rename_i t x
    split at h
    · rename_i b hb
      refine ⟨_, h, fun m ok ρ w hx _ => ⟨.bool (!b), ?_, by simp [RepV]⟩⟩
      have := hx x (by simp [Op.operands])
      rw [hb] at this
      simp only [RepV] at this
      simp [execOp, Op.unary, this]
    · exact h.elim
  -- neg
  · rename_i t x
    split at h
    · rename_i k n hb
      refine ⟨_, h, fun m ok ρ w hx _ => ⟨.int k (k.wrap (0 - n)), ?_, by simp [RepV]⟩⟩
      have := hx x (by simp [Op.operands])
      rw [hb] at this
      simp only [RepV] at this
      simp [execOp, Op.unary, Op.intArith, this]
    · exact h.elim
  -- a part
  · rename_i t x lo hi mx
    unfold sliceA at h
    split at h
    · rename_i s hs
      obtain ⟨hmx, h⟩ := h
      rw [Option.map_eq_none_iff] at hmx
      subst hmx
      have q_ := elO_ex h
      clear h
      obtain ⟨D, hD, hstr, h⟩ := q_
      obtain ⟨u, inf, hu, hi', rfl⟩ := td_some hD
      obtain rfl := strD_true hstr
      split at h
      · rename_i k a k' b ha hb
        obtain ⟨h0, h1, h2, h⟩ := h
        rw [Option.map_eq_some_iff] at ha hb
        obtain ⟨lo, rfl, ha⟩ := ha
        obtain ⟨hi, rfl, hb⟩ := hb
        refine ⟨_, h, fun m ok ρ w hx _ => ⟨_, ?_, rfl⟩⟩
        have q1 := hx x (by simp [Op.operands])
        have q2 := hx lo (by simp [Op.operands])
        have q3 := hx hi (by simp [Op.operands])
        rw [hs] at q1
        rw [ha] at q2
        rw [hb] at q3
        simp only [RepV] at q1 q2 q3
        refine run_value ?_
        have eb : (b.toNat : Int) = b := Int.toNat_of_nonneg (by omega)
        simp [Instr.sliceAt, Instr.slice, run_underlying hu, Instr.sliceBounds, Instr.sliceBound, asIntOf, q1, q2, q3, eb, h0, h1, h2, show 0 ≤ b by omega]
      · rename_i k' b ha hb
        obtain ⟨h0, h2, h⟩ := h
        rw [Option.map_eq_some_iff] at hb
        rw [Option.map_eq_none_iff] at ha
        subst ha
        obtain ⟨hi, rfl, hb⟩ := hb
        refine ⟨_, h, fun m ok ρ w hx _ => ⟨_, ?_, rfl⟩⟩
        have q1 := hx x (by simp [Op.operands])
        have q3 := hx hi (by simp [Op.operands])
        rw [hs] at q1
        rw [hb] at q3
        simp only [RepV] at q1 q3
        refine run_value ?_
        simp [Instr.sliceAt, Instr.slice, run_underlying hu, Instr.sliceBounds, Instr.sliceBound, asIntOf, q1, q3, h0, h2]
      · rename_i k a ha hb
        obtain ⟨h0, h2, h⟩ := h
        rw [Option.map_eq_some_iff] at ha
        rw [Option.map_eq_none_iff] at hb
        subst hb
        obtain ⟨lo, rfl, ha⟩ := ha
        refine ⟨_, h, fun m ok ρ w hx _ => ⟨_, ?_, rfl⟩⟩
        have q1 := hx x (by simp [Op.operands])
        have q2 := hx lo (by simp [Op.operands])
        rw [hs] at q1
        rw [ha] at q2
        simp only [RepV] at q1 q2
        refine run_value ?_
        simp [Instr.sliceAt, Instr.slice, run_underlying hu, Instr.sliceBounds, Instr.sliceBound, asIntOf, q1, q2, h0, h2]
      · exact h.elim
    · rename_i nn st es hs
      exact slice_ok (dst := dst) (type := type) (pos := pos) (after := after) (guard := guard) hs h
    · rename_i L st n hs
      exact slice_own (dst := dst) (type := type) (pos := pos) (after := after) (guard := guard) hs h
    · rename_i xs hs
      obtain ⟨v, hK, hv⟩ := slice_dptr (x := x) (K := K) (xs := xs) (by unfold sliceA; exact h)
      refine ⟨v, hK, fun m ok ρ w hx ho => ?_⟩
      have q1 := hx x (by simp [Op.operands])
      rw [hs] at q1
      obtain ⟨u, h1, h2⟩ := hv m m ok ok ρ w q1 fun y hy => hx y (by
        simp only [List.mem_append, Option.mem_toList] at hy
        simp only [Op.operands, Array.mem_append]
        rcases hy with (hy | hy) | hy <;> subst hy <;> simp)
      exact ⟨u, by simp only [execOp]; exact run_value h1, RepD.up _ h2⟩
    · rename_i hs
      exact slice_nil (dst := dst) (type := type) (pos := pos) (after := after) (guard := guard) hs h
    · exact h.elim
  -- convert
  · rename_i s d x
    split at h
    · rename_i k n hn
      have q_ := elO_ex h
      clear h
      obtain ⟨S, hS, h⟩ := q_
      have q_ := elO_ex h
      clear h
      obtain ⟨D, hD, h⟩ := q_
      have q_ := elO_ex h
      clear h
      obtain ⟨q, hq, h⟩ := q_
      obtain ⟨u, i, hu, hi, rfl⟩ := td_some hD
      obtain ⟨u', i', hu', hi', rfl⟩ := td_some hS
      obtain rfl := ikD_some hq
      refine ⟨_, h, fun m ok ρ w hx _ => ⟨.int q (q.wrap n), ?_, by simp [RepV]⟩⟩
      have := hx x (by simp [Op.operands])
      rw [hn] at this
      simp only [RepV] at this
      simp only [execOp, this]
      refine run_value ?_
      simp [convert, run_underlying hu, run_underlying hu', Conv.intToInt]
    · exact h.elim
  -- fieldAddr
  · rename_i s x f
    have q_ := elO_ex h
    clear h
    obtain ⟨D, hD, h⟩ := q_
    have q_ := elO_ex h
    clear h
    obtain ⟨p, hp, h⟩ := q_
    have q_ := elO_ex h
    clear h
    obtain ⟨F, hF, h0, h⟩ := q_
    obtain ⟨u, i, hu, hi, rfl⟩ := td_some hD
    obtain ⟨fs, fd, rfl, hfd, ho, ht⟩ := fieldsD_some hp
    rw [← ht] at hF
    have run : ∀ (b o : Nat) (w : World), (Instr.fieldAt s (.pointer (some ⟨b, o, none⟩)) f).run P w = .ok (.pointer (some ⟨b, o + p.1, none⟩)) w := fun b o w => by
      rw [run_fieldAt hu hfd hF h0 b o w, ho]
    split at h
    · rename_i L j hx'
      refine ⟨_, h, fun m ok ρ w hx _ => ?_⟩
      have := hx x (by simp [Op.operands])
      rw [hx'] at this
      obtain ⟨b, hm, hv⟩ := this
      exact ⟨_, by simp only [execOp, hv]; exact run_value (run b j w), ⟨b, hm, rfl⟩⟩
    · rename_i L i j hx'
      refine ⟨_, h, fun m ok ρ w hx _ => ?_⟩
      have := hx x (by simp [Op.operands])
      rw [hx'] at this
      obtain ⟨b, hm, hv⟩ := this
      exact ⟨_, by simp only [execOp, hv]; exact run_value (run b _ w), ⟨b, hm, by rw [Nat.add_assoc]⟩⟩
    · rename_i xs hx'
      refine ⟨_, h, fun m ok ρ w hx _ => ?_⟩
      have := hx x (by simp [Op.operands])
      rw [hx'] at this
      obtain ⟨b, o, hv, hb, hc⟩ := this
      exact ⟨_, by simp only [execOp, hv]; exact run_value (run b o w), ⟨b, o + p.1, rfl, hb, hc.drop p.1⟩⟩
    · exact h.elim
  -- field
  · rename_i s x f
    have q_ := elO_ex h
    clear h
    obtain ⟨D, hD, h⟩ := q_
    have q_ := elO_ex h
    clear h
    obtain ⟨p, hp, h⟩ := q_
    have q_ := elO_ex h
    clear h
    obtain ⟨F, hF, h⟩ := q_
    obtain ⟨u, i, hu, hi, rfl⟩ := td_some hD
    obtain ⟨fs, fd, rfl, hfd, h1, h2⟩ := fieldsD_some hp
    split at h
    · rename_i xs hx0
      cases hag : F.agg with
      | true =>
        rw [hag, if_pos rfl] at h
        obtain ⟨hle, h⟩ := h
        refine ⟨_, h, fun m ok ρ w hx _ => ?_⟩
        have q1 := hx x (by simp [Op.operands])
        rw [hx0] at q1
        obtain ⟨vs, hv, hl, hone⟩ := q1
        have hlen := hl.length
        refine ⟨.agg (vs.extract fd.offset (fd.offset + F.size)), ?_, _, rfl, ?_, fun u hu => ?_⟩
        · simp only [execOp, hv]
          refine run_value ?_
          rw [← h2] at hF
          simp [Instr.field, run_underlying hu, hfd, asAgg, part, isAgg_run hF, hag, sizeOf_run hF]
        · have := (hl.drop p.1).take F.size
          rw [Array.toList_extract, h1]
          simpa [List.extract] using this
        · rw [Array.toList_extract] at hu
          exact hone u (List.mem_of_mem_drop (List.mem_of_mem_take hu))
      | false =>
        rw [hag, if_neg (by simp)] at h
        obtain ⟨y, hy, h⟩ := elO_ex h
        refine ⟨_, h, fun m ok ρ w hx _ => ?_⟩
        have q1 := hx x (by simp [Op.operands])
        rw [hx0] at q1
        obtain ⟨vs, hv, hl, hone⟩ := q1
        obtain ⟨u, hu1, hu2⟩ := hl.get hy
        refine ⟨u, ?_, hu2⟩
        simp only [execOp, hv]
        refine run_value ?_
        rw [← h2] at hF
        have hu1' : vs[fd.offset]? = some u := by rw [h1]; simpa using hu1
        simp [Instr.field, run_underlying hu, hfd, asAgg, part, isAgg_run hF, hag, hu1']
    · exact h.elim
  -- indexAddr
  · rename_i t x i
    have q_ := elO_ex h
    clear h
    obtain ⟨D, hD, h⟩ := q_
    obtain ⟨u, inf, hu, hi, rfl⟩ := td_some hD
    split at h
    · rename_i k n hn
      obtain ⟨h0, h⟩ := h
      have hidx : ∀ (m : List (Option Nat)) (ok : Nat → Prop) (ρ : Operand → Value) (w : World), (∀ y ∈ (Op.indexAddr t x i).operands, RepV m ok w (aev σ y) (ρ y)) → ρ i = .int k n := fun m ok ρ w hx => by
        have := hx i (by simp [Op.operands])
        rw [hn] at this
        exact this
      split at h
      · rename_i nn st es hx'
        have q_ := elO_ex h
        clear h
        obtain ⟨e, he, h⟩ := q_
        have q_ := elO_ex h
        clear h
        obtain ⟨E, hE, hst, h⟩ := q_
        have q_ := elO_ex h
        clear h
        obtain ⟨y, hy, h⟩ := q_
        obtain rfl := elemD_some he
        have hlt : n.toNat < es.length := (List.getElem?_eq_some_iff.1 hy).1
        refine ⟨_, h, fun m ok ρ w hx _ => ?_⟩
        have := hx x (by simp [Op.operands])
        rw [hx'] at this
        obtain ⟨A, cap, hv, _, hr⟩ := this
        obtain ⟨b, o, rfl, hb, hes⟩ := hr (by omega)
        obtain ⟨hl, hc⟩ := hes.get hy
        exact ⟨_, by simp only [execOp, hv, hidx m ok ρ w hx]; exact run_value (run_indexAt hu hE h0 hlt w), ⟨b, o + n.toNat * E.size, rfl, hb, by rw [hst]; exact hc⟩⟩
      · rename_i L st kk hx'
        have q_ := elO_ex h
        clear h
        obtain ⟨e, he, h⟩ := q_
        have q_ := elO_ex h
        clear h
        obtain ⟨E, hE, hst, hlt, h⟩ := q_
        obtain rfl := elemD_some he
        refine ⟨_, h, fun m ok ρ w hx _ => ?_⟩
        have := hx x (by simp [Op.operands])
        rw [hx'] at this
        obtain ⟨ob, hm, ho⟩ := this
        cases ob with
        | none => obtain ⟨rfl, _⟩ := ho; omega
        | some b =>
          obtain ⟨cap, ty, hv, _⟩ := ho
          exact ⟨_, by simp only [execOp, hv, hidx m ok ρ w hx]; exact run_value (run_indexAt hu hE h0 hlt w), ⟨b, hm, by rw [hst]; simp⟩⟩
      · rename_i L j hx'
        have q_ := elO_ex h
        clear h
        obtain ⟨a, ha, h⟩ := q_
        have q_ := elO_ex h
        clear h
        obtain ⟨E, hE, hlt, h⟩ := q_
        obtain rfl := arrD_some ha
        refine ⟨_, h, fun m ok ρ w hx _ => ?_⟩
        have := hx x (by simp [Op.operands])
        rw [hx'] at this
        obtain ⟨b, hm, hv⟩ := this
        exact ⟨_, by simp only [execOp, hv, hidx m ok ρ w hx]; exact run_value (run_indexAt_arr hu hE h0 hlt w), ⟨b, hm, rfl⟩⟩
      · rename_i xs hx'
        have q_ := elO_ex h
        clear h
        obtain ⟨a, ha, h⟩ := q_
        have q_ := elO_ex h
        clear h
        obtain ⟨E, hE, hlt, h⟩ := q_
        obtain rfl := arrD_some ha
        refine ⟨_, h, fun m ok ρ w hx _ => ?_⟩
        have := hx x (by simp [Op.operands])
        rw [hx'] at this
        obtain ⟨b, o, hv, hb, hc⟩ := this
        exact ⟨_, by simp only [execOp, hv, hidx m ok ρ w hx]; exact run_value (run_indexAt_arr hu hE h0 hlt w), ⟨b, _, rfl, hb, hc.drop _⟩⟩
      · exact h.elim
    · exact h.elim
  -- index
  · rename_i t x i
    split at h
    · rename_i s k n hs hn
      have q_ := elO_ex h
      clear h
      obtain ⟨D, hD, hstr, h0, h⟩ := q_
      have q_ := elO_ex h
      clear h
      obtain ⟨y, hy, h⟩ := q_
      obtain ⟨u, inf, hu, hi, rfl⟩ := td_some hD
      obtain rfl := strD_true hstr
      refine ⟨_, h, fun m ok ρ w hx _ => ⟨.int .u8 y.toNat, ?_, by simp [RepV]⟩⟩
      have h1 := hx x (by simp [Op.operands])
      have h2 := hx i (by simp [Op.operands])
      rw [hs] at h1
      rw [hn] at h2
      simp only [RepV] at h1 h2
      simp only [execOp, h1, h2]
      refine run_value ?_
      simp [Instr.index, asIntOf, run_underlying hu, h0, hy]
    · rename_i xs k n hs hn
      have q_ := elO_ex h
      clear h
      obtain ⟨D, hD, h⟩ := q_
      have q_ := elO_ex h
      clear h
      obtain ⟨a, ha, h⟩ := q_
      have q_ := elO_ex h
      clear h
      obtain ⟨F, hF, h0, hlt, h⟩ := q_
      obtain ⟨u, inf, hu, hi, rfl⟩ := td_some hD
      obtain rfl := arrD_some ha
      have hlt' : n < (a.1 : Int) := by omega
      cases hag : F.agg with
      | true =>
        rw [hag, if_pos rfl] at h
        obtain ⟨hle, h⟩ := h
        refine ⟨_, h, fun m ok ρ w hx _ => ?_⟩
        have q1 := hx x (by simp [Op.operands])
        have q2 := hx i (by simp [Op.operands])
        rw [hs] at q1
        rw [hn] at q2
        have q3 : ρ i = .int k n := q2
        obtain ⟨vs, hv, hl, hone⟩ := q1
        refine ⟨.agg (vs.extract (n.toNat * F.size) (n.toNat * F.size + F.size)), ?_, _, rfl, ?_, fun u hu => ?_⟩
        · simp only [execOp, hv, q3]
          refine run_value ?_
          simp [Instr.index, asIntOf, run_underlying hu, h0, hlt', part, isAgg_run hF, hag, sizeOf_run hF]
        · have := (hl.drop (n.toNat * F.size)).take F.size
          rw [Array.toList_extract]
          simpa [List.extract] using this
        · rw [Array.toList_extract] at hu
          exact hone u (List.mem_of_mem_drop (List.mem_of_mem_take hu))
      | false =>
        rw [hag, if_neg (by simp)] at h
        have q_ := elO_ex h
        clear h
        obtain ⟨y, hy, h⟩ := q_
        refine ⟨_, h, fun m ok ρ w hx _ => ?_⟩
        have q1 := hx x (by simp [Op.operands])
        have q2 := hx i (by simp [Op.operands])
        rw [hs] at q1
        rw [hn] at q2
        have q3 : ρ i = .int k n := q2
        obtain ⟨vs, hv, hl, hone⟩ := q1
        obtain ⟨u, hu1, hu2⟩ := hl.get hy
        refine ⟨u, ?_, hu2⟩
        simp only [execOp, hv, q3]
        refine run_value ?_
        have hu1' : vs[n.toNat * F.size]? = some u := by simpa using hu1
        simp [Instr.index, asIntOf, run_underlying hu, h0, hlt', part, isAgg_run hF, hag, sizeOf_run hF, hu1']
    · exact h.elim
  -- load
  · rename_i t p
    have q_ := elO_ex h
    clear h
    obtain ⟨D, hD, h⟩ := q_
    obtain ⟨v, hK, hv⟩ := loadA_ok hD h
    refine ⟨v, hK, fun m ok ρ w hx ho => ?_⟩
    obtain ⟨u, hr, hu⟩ := hv m ok w (ρ p) (hx p (by simp [Op.operands])) ho
    exact ⟨u, run_value hr, hu⟩
  -- makeFunc
  · rename_i f first cap
    unfold mkfA at h
    have hl : ∀ (l : Array Operand) (m : List (Option Nat)) (ok : Nat → Prop) (ρ : Operand → Value) (w : World), (∀ x ∈ l, RepV m ok w (aev σ x) (ρ x)) → RepL m ok w (l.toList.map (aev σ)) (l.map ρ).toList := fun l m ok ρ w hx => by
      refine RepL.of (by simp) fun i a b h1 h2 => ?_
      simp only [List.getElem?_map, Array.toList_map, Option.map_eq_some_iff] at h1 h2
      obtain ⟨q, h1, rfl⟩ := h1
      obtain ⟨q', h2, rfl⟩ := h2
      rw [h1] at h2; cases h2
      exact hx q (by simpa using List.mem_of_getElem? h1)
    split at h
    · rename_i h0
      rw [List.map_eq_nil_iff] at h0
      obtain rfl : first = #[] := by cases first; simpa using h0
      refine ⟨_, h, fun m ok ρ w hx _ => ⟨.func (.func f) #[] (cap.map ρ), by simp [execOp, Instr.makeFunc], ⟨_, rfl, hl cap m ok ρ w fun x hm => hx x (by simp [Op.operands]; exact hm)⟩⟩⟩
    · rename_i x r h0
      obtain ⟨h1, h⟩ := h
      rw [List.map_eq_nil_iff] at h1
      obtain rfl : cap = #[] := by cases cap; simpa using h1
      refine ⟨_, h, fun m ok ρ w hx _ => ⟨.func (.func f) (first.map ρ) #[], by simp [execOp, Instr.makeFunc], ⟨_, rfl, ?_⟩⟩⟩
      rw [← h0]
      exact hl first m ok ρ w fun x hm => hx x (by simp [Op.operands]; exact hm)
  -- build
  · rename_i t parts
    have q_ := elO_ex h
    clear h
    obtain ⟨D, hD, h⟩ := q_
    have q_ := elO_ex h
    clear h
    obtain ⟨z, hz, hz1, h⟩ := q_
    exact build_ok hD hz hz1 h
  -- len
  · rename_i args ats
    split at h
    · rename_i x t hargs hats
      obtain rfl : args = #[x] := by cases args; simpa using hargs
      obtain rfl : ats = #[t] := by cases ats; simpa using hats
      unfold mlenA at h
      split at h
      · rename_i L hL
        split at h
        · rename_i kt es hh
          have q_ := elO_ex h
          clear h
          obtain ⟨D, hD, hk, h⟩ := q_
          obtain ⟨u, i, hu, hi, rfl⟩ := td_some hD
          obtain ⟨p, hp⟩ := Option.isSome_iff_exists.1 hk
          obtain rfl := mapD_some hp
          refine ⟨_, h, fun m ok ρ w hx ho => ⟨.int .i64 es.length, ?_, by simp [RepV]⟩⟩
          have q1 := hx x (by simp [Op.operands, Call.operands])
          rw [hL] at q1
          obtain ⟨b, hm, hv⟩ := q1
          obtain ⟨b', l, clock, hm', hb, hst, hr⟩ := ho L _ hh
          rw [hm] at hm'; cases hm'
          have hl : l.size = es.length := by rw [← hr.length]; simp
          simp only [execOp, resolve, Sem.run_bind]
          simp [invoke, builtin, Builtin.len_, run_underlying hu, MapKept.run_getObj_map hb, goInt, hv, hl, Result.andThen]
        · exact h.elim
      · have q_ := elO_ex h
        clear h
        obtain ⟨D, hD, hk, h⟩ := q_
        have q_ := elO_ex h
        clear h
        obtain ⟨n, hn, h⟩ := q_
        refine ⟨_, h, fun m ok ρ w hx _ => ⟨.int .i64 n, ?_, by simp [RepV]⟩⟩
        have := lenA_ok hD hn hk (hx x (by simp [Op.operands, Call.operands])) type
        simp only [execOp, resolve, Sem.run_bind]
        simp [invoke, builtin, this]
    · exact h.elim
  -- cap
  · rename_i args ats
    split at h
    · rename_i x t hargs hats
      have q_ := elO_ex h
      clear h
      obtain ⟨D, hD, hk, h⟩ := q_
      unfold capA at h
      split at h
      · rename_i hv
        refine ⟨_, h, fun m ok ρ w hx _ => ⟨.int .i64 0, ?_, by simp [RepV]⟩⟩
        obtain rfl : args = #[x] := by cases args; simpa using hargs
        obtain rfl : ats = #[t] := by cases ats; simpa using hats
        have q1 := hx x (by simp [Op.operands, Call.operands])
        rw [hv] at q1 hk
        simp only [RepV] at q1
        obtain ⟨u, i, hu, hi, rfl⟩ := td_some hD
        obtain ⟨e, he⟩ := Option.isSome_iff_exists.1 (show (elemD u).isSome = true from hk)
        obtain rfl := elemD_some he
        simp only [execOp, resolve, Sem.run_bind]
        simp [invoke, builtin, Builtin.cap_, run_underlying hu, goInt, q1]
      · exact h.elim
    · exact h.elim
  -- max
  · rename_i args ats
    split at h
    · rename_i x y hargs
      obtain ⟨k, k', a, b, hxv, hyv, h⟩ := int2_ex h
      refine ⟨_, h, fun m ok ρ w hx _ => ⟨.int k (max a b), ?_, by simp [RepV]⟩⟩
      obtain rfl : args = #[x, y] := by cases args; simpa using hargs
      have q1 := hx x (by simp [Op.operands, Call.operands])
      have q2 := hx y (by simp [Op.operands, Call.operands])
      rw [hxv] at q1
      rw [hyv] at q2
      simp only [RepV] at q1 q2
      have e : (if b > a then b else a) = max a b := by
        rw [Int.max_def]
        split <;> split <;> omega
      simp only [execOp, resolve, Sem.run_bind]
      simp [invoke, builtin, Builtin.max_, Builtin.max2, q1, q2, e]
    · exact h.elim
  -- min
  · rename_i args ats
    split at h
    · rename_i x y hargs
      obtain ⟨k, k', a, b, hxv, hyv, h⟩ := int2_ex h
      refine ⟨_, h, fun m ok ρ w hx _ => ⟨.int k (min a b), ?_, by simp [RepV]⟩⟩
      obtain rfl : args = #[x, y] := by cases args; simpa using hargs
      have q1 := hx x (by simp [Op.operands, Call.operands])
      have q2 := hx y (by simp [Op.operands, Call.operands])
      rw [hxv] at q1
      rw [hyv] at q2
      simp only [RepV] at q1 q2
      have e : (if b < a then b else a) = min a b := by
        rw [Int.min_def]
        split <;> split <;> omega
      simp only [execOp, resolve, Sem.run_bind]
      simp [invoke, builtin, Builtin.min_, Builtin.min2, q1, q2, e]
    · exact h.elim
  -- lookup
  · rename_i t mo ko c
    have fin : ∀ (m : List (Option Nat)) (ok : Nat → Prop) (ρ : Operand → Value) (w : World) (x : AV) (v : Value) (g : Bool), RepV m ok w x v → (Instr.lookup t (ρ mo) (ρ ko) c).run P w = .ok (if c then .tuple #[v, .bool g] else v) w →
        ∃ u, (execOp ρ ⟨dst, .lookup t mo ko c, type, pos, after, guard⟩).run P w = .ok (.value u) w ∧ RepV m ok w (if c = true then .tup [x, .c (.bool g)] else x) u := fun m ok ρ w x v g hx hrun => by
      refine ⟨_, by simp only [execOp]; exact run_value hrun, ?_⟩
      cases c with
      | true => exact ⟨#[v, .bool g], rfl, v, [.bool g], rfl, hx, .bool g, [], rfl, rfl, rfl⟩
      | false => exact hx
    unfold lookA at h
    split at h
    · rename_i L hL
      split at h
      · rename_i kt es hh
        obtain ⟨k, e, kt', d, ht, hd, ⟨rfl, h⟩, hk⟩ := mapT_ex h
        have q_ := elO_ex h
        clear h
        obtain ⟨key, hkey, h⟩ := q_
        have q_ := elO_ex h
        clear h
        obtain ⟨E, hE, h⟩ := q_
        have q_ := elO_ex h
        clear h
        obtain ⟨z, hz, h⟩ := q_
        obtain ⟨hko, hkv⟩ := keyA_ok hkey
        obtain ⟨uE, iE, _, hiE, rfl⟩ := td_some hE
        have hz' : ∀ w : World, (zeroValue e).run P w = .ok z w := fun w => by
          simp only at hz
          simp [zeroValue, typeInfo, program, Sem.run, hiE, hz]
        have look : ∀ (m : List (Option Nat)) (ok : Nat → Prop) (ρ : Operand → Value) (w : World), (∀ x ∈ (Op.lookup t mo ko c).operands, RepV m ok w (aev σ x) (ρ x)) → HOwn m ok σ.h w →
            (mget key es = none ∧ (Instr.lookup t (ρ mo) (ρ ko) c).run P w = .ok (if c then .tuple #[z, .bool false] else z) w) ∨ ∃ x v, mget key es = some x ∧ RepD ok w x v ∧ (Instr.lookup t (ρ mo) (ρ ko) c).run P w = .ok (if c then .tuple #[v, .bool true] else v) w := fun m ok ρ w hx ho => by
          have q1 := hx mo (by simp [Op.operands])
          have q2 := hx ko (by simp [Op.operands])
          rw [hL] at q1
          rw [hkv] at q2
          obtain ⟨b, hm, hv⟩ := q1
          simp only [RepV] at q2
          obtain ⟨b', l, clock, hm', hb, hst, hr⟩ := ho L _ hh
          rw [hm] at hm'; cases hm'
          rw [hv, q2]
          exact run_look ht hd hk hko hb hst hr (hz' w) c
        cases hg : mget key es with
        | none =>
          rw [hg] at h
          refine ⟨_, show K (if c = true then .tup [cv z, .c (.bool false)] else cv z) by unfold lookK at h; split <;> simp_all, fun m ok ρ w hx ho => ?_⟩
          rcases look m ok ρ w hx ho with ⟨_, hrun⟩ | ⟨x, v, h1, _⟩
          · exact fin m ok ρ w _ z false (cv_rep m ok w z) hrun
          · rw [hg] at h1; cases h1
        | some x =>
          rw [hg] at h
          refine ⟨_, show K (if c = true then .tup [x, .c (.bool true)] else x) by unfold lookK at h; split <;> simp_all, fun m ok ρ w hx ho => ?_⟩
          rcases look m ok ρ w hx ho with ⟨h1, _⟩ | ⟨x', v, h1, h2, hrun⟩
          · rw [hg] at h1; cases h1
          · rw [hg] at h1; cases h1
            exact fin m ok ρ w _ v true (RepD.up _ h2) hrun
      · exact h.elim
    · rename_i hL
      obtain ⟨k, e, kt, d, ht, hd, h, hk⟩ := mapT_ex h
      have q_ := elO_ex h
      clear h
      obtain ⟨key, hkey, h⟩ := q_
      have q_ := elO_ex h
      clear h
      obtain ⟨E, hE, h⟩ := q_
      have q_ := elO_ex h
      clear h
      obtain ⟨z, hz, h⟩ := q_
      obtain ⟨hko, hkv⟩ := keyA_ok hkey
      obtain ⟨uE, iE, _, hiE, rfl⟩ := td_some hE
      have hz' : ∀ w : World, (zeroValue e).run P w = .ok z w := fun w => by
        simp only at hz
        simp [zeroValue, typeInfo, program, Sem.run, hiE, hz]
      refine ⟨_, show K (if c = true then .tup [cv z, .c (.bool false)] else cv z) by unfold lookK at h; split <;> simp_all, fun m ok ρ w hx ho => ?_⟩
      have q1 := hx mo (by simp [Op.operands])
      have q2 := hx ko (by simp [Op.operands])
      rw [hL] at q1
      rw [hkv] at q2
      simp only [RepV] at q1 q2
      refine fin m ok ρ w _ z false (cv_rep m ok w z) ?_
      have hc := fun em => MapKept.run_checkKey (w := w) hd (hk key hko) em 9999
      have hf := MapKept.run_findKey (w := w) (l := []) hd (k := keyV kt key) (a := none) rfl
      rw [q1, q2]
      simp [Instr.lookup, run_underlying ht, hc, hf, hz', Result.andThen]
    · exact h.elim
  -- nilCheck
  · rename_i x
    have fin : ∀ y, K y → y = aev σ x → (∀ (m : List (Option Nat)) (ok : Nat → Prop) (ρ : Operand → Value) (w : World), RepV m ok w (aev σ x) (ρ x) → (execOp ρ ⟨dst, .nilCheck x, type, pos, after, guard⟩).run P w = .ok (.value (ρ x)) w) → ∃ v, K v ∧ OpOkP P σ ⟨dst, .nilCheck x, type, pos, after, guard⟩ v := fun y hK he hr =>
      ⟨y, hK, fun m ok ρ w hx _ => ⟨ρ x, hr m ok ρ w (hx x (by simp [Op.operands])), by rw [he]; exact hx x (by simp [Op.operands])⟩⟩
    unfold nilA at h
    split at h
    · rename_i L j hy
      refine fin _ h hy.symm fun m ok ρ w hx => ?_
      rw [hy] at hx
      obtain ⟨b, _, hv⟩ := hx
      simp [execOp, hv]
    · rename_i L i j hy
      refine fin _ h hy.symm fun m ok ρ w hx => ?_
      rw [hy] at hx
      obtain ⟨b, _, hv⟩ := hx
      simp [execOp, hv]
    · rename_i xs hy
      refine fin _ h hy.symm fun m ok ρ w hx => ?_
      rw [hy] at hx
      obtain ⟨b, o, hv, _⟩ := hx
      simp [execOp, hv]
    · rename_i f xs hy
      refine fin _ h hy.symm fun m ok ρ w hx => ?_
      rw [hy] at hx
      obtain ⟨vs, hv, _⟩ := hx
      simp [execOp, hv]
    · exact h.elim
  · exact h.elim
end

-- part 6
section
open RowKit
def killT (h : Heap) (ks : List Nat) (t : List (Nat × AV)) : List (Nat × AV) :=
  match ks with
  | [] => t
  | k :: r => t.map fun p => (p.1, killV h (k :: r) p.2)

theorem killT_look {m m' : List (Option Nat)} {ok ok' : Nat → Prop} {w w' : World} {h : Heap} {ks : List Nat} (g : Grow h ks m ok w m' ok' w') : ∀ (t : List (Nat × AV)) (i : Nat) {v : Value}, RepV m ok w (slot t i) v → RepV m' ok' w' (slot (killT h ks t) i) v := by
  cases ks with
  | nil => exact fun t i v hv => RepV.mono g _ hv
  | cons k r =>
    intro t
    induction t with
    | nil => intro i v hv; trivial
    | cons p t ih =>
      intro i v hv
      obtain ⟨j, x⟩ := p
      simp only [killT, List.map_cons, slot] at hv ⊢
      split
      · rename_i e
        rw [if_pos e] at hv
        exact RepV.kill g _ hv
      · rename_i e
        rw [if_neg e] at hv
        exact ih i hv

mutual
/-- The blocks that a value names. -/
def namesV : AV → List Nat
  | .ptr L _ => [L]
  | .rp L _ _ => [L]
  | .mp L => [L]
  | .own L _ _ => [L]
  | .agg xs => namesL xs
  | .tup xs => namesL xs
  | .fn _ xs => namesL xs
  | .mv _ xs => namesL xs
  | .junk => []
  | .c _ => []
  | .nils => []
  | .sl _ _ _ => []
  | .cut _ _ => []
  | .dptr _ => []
def namesL : List AV → List Nat
  | [] => []
  | x :: xs => namesV x ++ namesL xs
end

/-- What a step leaves as it was: all but the blocks of T. -/
structure Fr (T : List Nat) (m : List (Option Nat)) (ok : Nat → Prop) (w : World) (m' : List (Option Nat)) (ok' : Nat → Prop) (w' : World) : Prop where
  same : ∀ b, b < w.heap.size → (∀ L ∈ T, m[L]? ≠ some (some b)) → w'.heap[b]? = w.heap[b]?
  mun : ∀ (L : Nat) b, L ∉ T → m[L]? = some b → m'[L]? = some b
  mold : ∀ (L b : Nat), m'[L]? = some (some b) → m[L]? = some (some b) ∨ w.heap.size ≤ b
  okn : ∀ b, ok' b → ok b ∨ w.heap.size ≤ b ∨ ∃ L ∈ T, m[L]? = some (some b)
theorem Fr.refl (T : List Nat) (m : List (Option Nat)) (ok : Nat → Prop) (w : World) : Fr T m ok w m ok w := ⟨fun _ _ _ => rfl, fun _ _ _ h => h, fun _ _ h => Or.inl h, fun _ h => Or.inl h⟩
theorem Fr.below (T : List Nat) (m : List (Option Nat)) {ok ok' : Nat → Prop} {w w' : World} (hw : Below w.heap.size w w') (hn : ∀ b, ok' b → ok b ∨ w.heap.size ≤ b) : Fr T m ok w m ok' w' := ⟨fun b hb _ => hw.block b hb, fun _ _ _ h => h, fun _ _ h => Or.inl h, fun b hb => (hn b hb).imp id Or.inl⟩
theorem Fr.new (T : List Nat) (m : List (Option Nat)) {ok : Nat → Prop} {w w' : World} (hw : Below w.heap.size w w') (ob : Option Nat) (hob : ∀ b, ob = some b → w.heap.size ≤ b) : Fr T m ok w (m ++ [ob]) ok w' := by
  refine ⟨fun b hb _ => hw.block b hb, fun L b _ h => by rw [List.getElem?_append_left (List.getElem?_eq_some_iff.1 h).1]; exact h, fun L b h => ?_, fun _ h => Or.inl h⟩
  rw [List.getElem?_append] at h
  split at h
  · exact Or.inl h
  · rcases Nat.eq_zero_or_pos (L - m.length) with h0 | h0
    · rw [h0] at h
      simp at h
      exact Or.inr (hob b h)
    · rw [List.getElem?_eq_none (by simp; omega)] at h; cases h
theorem Fr.write {T : List Nat} {m : List (Option Nat)} {ok : Nat → Prop} {w w1 : World} {L b : Nat} (hm : m[L]? = some (some b)) (hT : L ∈ T) (other : ∀ k, k ≠ b → w1.heap[k]? = w.heap[k]?) : Fr T m ok w m ok w1 :=
  ⟨fun k _ hk => other k fun e => hk L hT (e ▸ hm), fun _ _ _ h => h, fun _ _ h => Or.inl h, fun _ h => Or.inl h⟩
theorem Fr.turn {T : List Nat} {m : List (Option Nat)} {ok : Nat → Prop} {w w' : World} {L : Nat} {ob ob' : Option Nat} (hm : m[L]? = some ob) (hT : L ∈ T) (hg : w.grownBy w' ob) (hob : ∀ b, ob' = some b → ob = some b ∨ w.heap.size ≤ b) : Fr T m ok w (m.set L ob') ok w' := by
  refine ⟨fun k hk hn => hg.block k hk fun e => hn L hT (by rw [hm, e]), fun L' b hL' h => ?_, fun L' b h => ?_, fun _ h => Or.inl h⟩
  · rw [List.getElem?_set, if_neg (fun e => hL' (by rw [← e]; exact hT))]; exact h
  · rw [List.getElem?_set] at h
    split at h
    · rename_i e
      subst e
      split at h
      · rcases hob b (by simpa using h) with h1 | h1
        · rw [hm, h1]; exact Or.inl rfl
        · exact Or.inr h1
      · cases h
    · exact Or.inl h

section
variable {w0 : World} {ok0 : Nat → Prop} {m : List (Option Nat)} {ok : Nat → Prop} {h : Heap} {w : World}

theorem HRel.mlt (r : HRel w0 ok0 m ok h w) {L : Nat} {b : Option Nat} (hb : m[L]? = some b) : L < h.length := by
  rw [← r.len]
  exact (List.getElem?_eq_some_iff.1 hb).1

/-- A world that differs in no old block. -/
theorem HRel.grown (r : HRel w0 ok0 m ok h w) {w' : World} (hw : Below w.heap.size w w') {ok' : Nat → Prop} (ho : ∀ b, ok b → ok' b) (hn : ∀ b, ok' b → ok b ∨ (w.heap.size ≤ b ∧ b < w'.heap.size)) :
    Grow [] [] m ok w m ok' w' ∧ HRel w0 ok0 m ok' h w' := by
  have hz : w0.heap.size ≤ w.heap.size := r.bel.size
  have g : Grow [] [] m ok w m ok' w' := ⟨fun _ _ _ h => h, ho, fun b o hb => cell_same (hw.block b (r.okb b hb)), fun L b s _ hm hs => by
    unfold World.shape? at *
    rw [hw.block b (r.new L b hm).2]
    exact hs, ⟨(fun _ _ _ _ _ _ h => by cases h), fun _ _ _ _ h => by cases h⟩, below_others hw⟩
  refine ⟨g, r.len, fun L blk hL => OwnB.mono g (fun b hb => hw.block b (r.new L b hb).2) (r.own L blk hL), r.inj, fun L b blk hL hm hk => ?_, fun L b hm => ⟨(r.new L b hm).1, Nat.lt_of_lt_of_le (r.new L b hm).2 hw.size⟩, fun b hb => ?_, fun b hb => ?_, r.bel.trans (hw.mono hz), r.tab.mono g.mo g.cells⟩
  · rcases hn b hk with h1 | h1
    · exact r.nok L b blk hL hm h1
    · have := (r.new L b hm).2; omega
  · rcases hn b hb with h1 | h1
    · exact Nat.lt_of_lt_of_le (r.okb b h1) hw.size
    · exact h1.2
  · rcases hn b hb with h1 | h1
    · exact r.oko b h1
    · exact Or.inr (by omega)

theorem Grow.heap {h h' : Heap} {m m' : List (Option Nat)} {ok ok' : Nat → Prop} {w w' : World} (g : Grow h [] m ok w m' ok' w') : Grow h' [] m ok w m' ok' w' := ⟨g.mm, g.mo, g.cells, g.shape, ⟨(fun _ _ _ _ _ _ h => by cases h), fun _ _ _ _ h => by cases h⟩, g.others⟩

theorem grow_new (r : HRel w0 ok0 m ok h w) {w' : World} (hw : Below w.heap.size w w') (ob : Option Nat) : Grow [] [] m ok w (m ++ [ob]) ok w' :=
  ⟨fun L b _ hm => by rw [List.getElem?_append_left (List.getElem?_eq_some_iff.1 hm).1]; exact hm, fun _ h => h, fun b o hb => cell_same (hw.block b (r.okb b hb)), fun L b s _ hm hs => by
    unfold World.shape? at *
    rw [hw.block b (r.new L b hm).2]
    exact hs, ⟨(fun _ _ _ _ _ _ h => by cases h), fun _ _ _ _ h => by cases h⟩, below_others hw⟩

/-- A new block, or a nil slice that may get one. -/
theorem HRel.fresh (r : HRel w0 ok0 m ok h w) {w' : World} (hw : Below w.heap.size w w') (ob : Option Nat) (hob : ∀ b, ob = some b → w.heap.size ≤ b ∧ b < w'.heap.size) {blk : Blk} (hb : OwnB (m ++ [ob]) ok w' h.length blk) :
    HRel w0 ok0 (m ++ [ob]) ok (h ++ [some blk]) w' := by
  have hz : w0.heap.size ≤ w.heap.size := r.bel.size
  have g := grow_new r hw ob
  have old : ∀ (L b : Nat), (m ++ [ob])[L]? = some (some b) → (m[L]? = some (some b)) ∨ (L = h.length ∧ ob = some b) := fun L b hm => by
    rw [List.getElem?_append] at hm
    split at hm
    · exact Or.inl hm
    · rename_i hlt
      have : L - m.length = 0 := by
        rcases Nat.eq_zero_or_pos (L - m.length) with h0 | h0
        · exact h0
        · rw [List.getElem?_eq_none (by simp; omega)] at hm; cases hm
      rw [this] at hm
      simp at hm
      exact Or.inr ⟨by rw [← r.len]; omega, hm⟩
  refine ⟨by simp [r.len], fun L blk' hL => ?_, fun L L' b h1 h2 => ?_, fun L b blk' hL hm hk => ?_, fun L b hm => ?_, fun b hb => Nat.lt_of_lt_of_le (r.okb b hb) hw.size, r.oko, r.bel.trans (hw.mono hz), r.tab.mono g.mo g.cells⟩
  · rw [List.getElem?_append] at hL
    split at hL
    · exact OwnB.mono g (fun b hb => hw.block b (r.new L b hb).2) (r.own L blk' hL)
    · have : L = h.length := by
        rename_i hlt
        rcases Nat.eq_zero_or_pos (L - h.length) with h0 | h0
        · omega
        · rw [List.getElem?_eq_none (by simp; omega)] at hL; cases hL
      subst this
      simp at hL
      subst hL
      exact hb
  · rcases old L b h1 with h1 | ⟨rfl, e1⟩ <;> rcases old L' _ h2 with h2 | ⟨h3, h4⟩
    · exact r.inj L L' b h1 h2
    · have := hob b h4; have := (r.new L _ h1).2; omega
    · have := hob b e1; have := (r.new L' _ h2).2; omega
    · rw [h3]
  · rcases old L b hm with h1 | ⟨rfl, e1⟩
    · have hlt := r.mlt h1
      rw [List.getElem?_append_left hlt] at hL
      exact r.nok L b blk' hL h1 hk
    · have := r.okb _ hk; have := hob b e1; omega
  · rcases old L b hm with h1 | ⟨rfl, e1⟩
    · exact ⟨(r.new L b h1).1, Nat.lt_of_lt_of_le (r.new L b h1).2 hw.size⟩
    · have := hob b e1; exact ⟨by omega, this.2⟩

theorem HRel.alloc (r : HRel w0 ok0 m ok h w) (cs : Array Value) (t : TypeId) {blk : Blk} (hb : OwnB (m ++ [some w.heap.size]) ok (w.alloc (.cells cs t)) h.length blk) :
    Grow [] [] m ok w (m ++ [some w.heap.size]) ok (w.alloc (.cells cs t)) ∧ HRel w0 ok0 (m ++ [some w.heap.size]) ok (h ++ [some blk]) (w.alloc (.cells cs t)) :=
  have hw : Below w.heap.size w (w.alloc (.cells cs t)) := (Below.refl _ _).alloc (Nat.le_refl _) _
  ⟨grow_new r hw _, r.fresh hw _ (fun b e => by cases e; exact ⟨Nat.le_refl _, by simp⟩) hb⟩

/-- A block of the call's own has turned, and no other one. -/
theorem HRel.write' (r : HRel w0 ok0 m ok h w) {L b : Nat} {blk blk' : Blk} (hL : h[L]? = some (some blk)) (hm : m[L]? = some (some b)) {cs cs' : Array Value} {t : TypeId} {fz fz' : Nat × Nat} (hc : w.heap[b]? = some (.cells cs t fz)) (hs : cs'.size = cs.size)
    {w1 : World} (other : ∀ k, k ≠ b → w1.heap[k]? = w.heap[k]?) (here : w1.heap[b]? = some (.cells cs' t fz')) (hsize : w1.heap.size = w.heap.size) (hos : w1.os = w.os) (htape : w1.tape = w.tape) (hout : w1.output = w.output)
    (hb : ∀ w', Grow [] [] m ok w m ok w' → w'.heap[b]? = some (.cells cs' t fz') → OwnB m ok w' L blk') :
    Grow [] [] m ok w m ok w1 ∧ HRel w0 ok0 m ok (h.set L (some blk')) w1 := by
  have hnb := r.new L b hm
  have hok : ∀ k, ok k → k ≠ b := fun k hk e => r.nok L b blk hL hm (e ▸ hk)
  have g : Grow [] [] m ok w m ok w1 := ⟨fun _ _ _ h => h, fun _ h => h, fun k o hk => cell_same (other k (hok k hk)), fun L' k s _ _ h1 => by
    unfold World.shape? at *
    by_cases e : k = b
    · subst e
      rw [here]
      rw [hc] at h1
      simp only at h1 ⊢
      rw [← h1, hs]
    · rw [other k e]; exact h1, ⟨(fun _ _ _ _ _ _ h => by cases h), fun _ _ _ _ h => by cases h⟩, ⟨by rw [hsize]; exact Nat.le_refl _, fun k o hk ho => by
    have hne : k ≠ b := fun e => by
      rw [e, hc] at hk
      cases hk
      simp [isBook] at ho
    exact (other k hne).trans hk⟩⟩
  have hbel : Below w0.heap.size w w1 := ⟨hos, htape, hout, by rw [hsize]; exact Nat.le_refl _, fun k hk => other k (by omega)⟩
  refine ⟨g, by simp [r.len], fun L' blk2 hL' => ?_, r.inj, fun L' k blk2 hL' hm' hk => ?_, fun L' k hm' => by rw [hsize]; exact r.new L' k hm', fun k hk => by rw [hsize]; exact r.okb k hk, r.oko, r.bel.trans hbel, r.tab.mono g.mo g.cells⟩
  · rw [List.getElem?_set] at hL'
    split at hL'
    · rename_i e
      subst e
      split at hL'
      · cases hL'; exact hb _ g here
      · cases hL'
    · rename_i hne
      exact OwnB.mono g (fun k hk => other k (fun e => hne (r.inj L L' b hm (e ▸ hk)))) (r.own L' blk2 hL')
  · rw [List.getElem?_set] at hL'
    split at hL'
    · rename_i e
      subst e
      rw [hm] at hm'; cases hm'
      exact r.nok L b blk hL hm hk
    · exact r.nok L' k blk2 hL' hm' hk

/-- A write to a block of the call's own. -/
theorem HRel.write (r : HRel w0 ok0 m ok h w) {L b : Nat} {blk blk' : Blk} (hL : h[L]? = some (some blk)) (hm : m[L]? = some (some b)) {cs cs' : Array Value} {t : TypeId} {fz : Nat × Nat} (hc : w.heap[b]? = some (.cells cs t fz)) (hs : cs'.size = cs.size)
    (hb : ∀ w', Grow [] [] m ok w m ok w' → w'.heap[b]? = some (.cells cs' t fz) → OwnB m ok w' L blk') :
    Grow [] [] m ok w m ok (w.setRow b cs') ∧ HRel w0 ok0 m ok (h.set L (some blk')) (w.setRow b cs') :=
  r.write' hL hm hc hs (fun k hk => setRow_other w b k _ hk) (setRow_heap w b cs cs' t fz hc) (by simp [World.setRow]) rfl rfl rfl hb
end

theorem mget_new {m : List (Option Nat)} {b : Option Nat} {n : Nat} (h : m.length = n) : (m ++ [b])[n]? = some b := by
  subst h; simp

theorem boxed_ok {t : TypeId} {w0 : World} {ok0 : Nat → Prop} {m : List (Option Nat)} {ok : Nat → Prop} {h : Heap} {w : World} (r : HRel w0 ok0 m ok h w) {xs : List AV} {v : Value} (hx : RepL m ok w xs v.cells.toList) (h1 : ∀ u ∈ v.cells.toList, u.oneCell' = true) :
    ∃ m' ok', Grow [] [] m ok w m' ok' (w.alloc (.cells v.cells t)) ∧ HRel w0 ok0 m' ok' (h ++ [some (.var t xs)]) (w.alloc (.cells v.cells t)) ∧ RepV m' ok' (w.alloc (.cells v.cells t)) (.ptr h.length 0) (.pointer (some ⟨w.heap.size, 0, none⟩)) ∧ ∀ T, Fr T m ok w m' ok' (w.alloc (.cells v.cells t)) := by
  have key : OwnB (m ++ [some w.heap.size]) ok (w.alloc (.cells v.cells t)) h.length (.var t xs) := by
    refine ⟨w.heap.size, v.cells, mget_new r.len, heap_alloc_new w _, ?_, h1⟩
    exact RepL.mono (grow_new r ((Below.refl _ _).alloc (Nat.le_refl _) _) _) xs hx
  obtain ⟨g, r'⟩ := r.alloc v.cells t key
  exact ⟨_, ok, g, r', ⟨w.heap.size, mget_new r.len, rfl⟩, fun T => .new T m ((Below.refl _ _).alloc (Nat.le_refl _) _) _ fun b e => by cases e; exact Nat.le_refl _⟩

theorem setAll_eq : ∀ (xs cs : List AV) (i : Nat), i + xs.length ≤ cs.length → setAll cs i xs = cs.take i ++ xs ++ cs.drop (i + xs.length)
  | [], cs, i, _ => by simp [setAll]
  | x :: xs, cs, i, h => by
    have hi : i < cs.length := by simp at h; omega
    rw [setAll, setAll_eq xs _ _ (by simp at h ⊢; omega)]
    apply List.ext_getElem?
    intro k
    simp only [List.getElem?_append, List.length_append, List.length_take, List.length_set, List.length_cons, List.getElem?_take, List.getElem?_drop, List.getElem?_set, List.getElem?_cons]
    grind
end

-- part 7
section
open RowKit
/-- The cells of some elements, one behind the other. -/
def IdxR (ok : Nat → Prop) (w : World) (st : Nat) (es : List (List AV)) (l : List Value) : Prop :=
  l.length = es.length * st ∧ (∀ u ∈ l, u.oneCell' = true) ∧ ∀ (i : Nat) e, es[i]? = some e → e.length = st ∧ ∀ (j : Nat) y, e[j]? = some y → ∃ u, l[i * st + j]? = some u ∧ RepD ok w y u

theorem IdxR.nil (ok : Nat → Prop) (w : World) (st : Nat) : IdxR ok w st [] [] := ⟨by simp, by simp, by simp⟩

theorem idx_lt {i j n st : Nat} (hi : i < n) (hj : j < st) : i * st + j < n * st := by
  have : (i + 1) * st ≤ n * st := Nat.mul_le_mul_right _ hi
  rw [Nat.add_mul, Nat.one_mul] at this
  omega

theorem IdxR.append {ok : Nat → Prop} {w : World} {st : Nat} {es es' : List (List AV)} {l l' : List Value} (h : IdxR ok w st es l) (k : IdxR ok w st es' l') : IdxR ok w st (es ++ es') (l ++ l') := by
  refine ⟨by rw [List.length_append, h.1, k.1, List.length_append, Nat.add_mul], fun u hu => (List.mem_append.1 hu).elim (h.2.1 u) (k.2.1 u), fun i e he => ?_⟩
  rw [List.getElem?_append] at he
  split at he
  · rename_i hlt
    obtain ⟨h1, h2⟩ := h.2.2 i e he
    refine ⟨h1, fun j y hy => ?_⟩
    obtain ⟨u, hu, hr⟩ := h2 j y hy
    exact ⟨u, by rw [List.getElem?_append_left (List.getElem?_eq_some_iff.1 hu).1]; exact hu, hr⟩
  · rename_i hlt
    obtain ⟨h1, h2⟩ := k.2.2 _ e he
    refine ⟨h1, fun j y hy => ?_⟩
    obtain ⟨u, hu, hr⟩ := h2 j y hy
    refine ⟨u, ?_, hr⟩
    have e1 : i * st = es.length * st + (i - es.length) * st := by rw [← Nat.add_mul]; congr 1; omega
    rw [List.getElem?_append_right (by rw [h.1]; omega), h.1]
    rw [show i * st + j - es.length * st = (i - es.length) * st + j by omega]
    exact hu

theorem IdxR.mono {ok ok' : Nat → Prop} {w w' : World} {st : Nat} {es : List (List AV)} {l : List Value} (h : IdxR ok w st es l) (g : ∀ b, ok b → ok' b) (c : ∀ b o : Nat, ok b → w'.cell? ⟨b, o, none⟩ = w.cell? ⟨b, o, none⟩) : IdxR ok' w' st es l :=
  ⟨h.1, h.2.1, fun i e he => ⟨(h.2.2 i e he).1, fun j y hy => by
    obtain ⟨u, hu, hr⟩ := (h.2.2 i e he).2 j y hy
    exact ⟨u, hu, RepD.mono g c y hr⟩⟩⟩

theorem RepDL.get {ok : Nat → Prop} {w : World} {xs : List AV} {l : List Value} {i : Nat} {x : AV} (h : RepDL ok w xs l) (hx : xs[i]? = some x) : ∃ u, l[i]? = some u ∧ RepD ok w x u := by
  induction xs generalizing l i with
  | nil => simp at hx
  | cons y ys ih =>
    obtain ⟨u, us, rfl, h1, h2⟩ := h
    cases i with
    | zero => simp at hx; subst hx; exact ⟨u, rfl, h1⟩
    | succ i => simpa using ih h2 (by simpa using hx)
theorem RepDL.length {ok : Nat → Prop} {w : World} : ∀ {xs : List AV} {l : List Value}, RepDL ok w xs l → l.length = xs.length
  | [], _, h => by cases h; rfl
  | y :: ys, _, ⟨u, us, h, hx, hr⟩ => by subst h; simp [RepDL.length hr]

theorem RepEs.idx {ok : Nat → Prop} {w : World} {st b : Nat} : ∀ {es : List (List AV)} {o : Nat}, RepEs ok w st b o es → ∃ l, IdxR ok w st es l ∧ ∀ (j : Nat) u, l[j]? = some u → w.cell? ⟨b, o + j, none⟩ = some u
  | [], _, _ => ⟨[], IdxR.nil _ _ _, by simp⟩
  | e :: es, o, ⟨hl, hc, hr⟩ => by
    obtain ⟨vs, a1, a2, a3⟩ := hc.vals
    obtain ⟨l, b1, b2⟩ := RepEs.idx hr
    have hvl : vs.length = st := by rw [a1.length, hl]
    refine ⟨vs ++ l, IdxR.append (es := [e]) ⟨by simp [hvl], a3, fun i e' he => ?_⟩ b1, fun j u hj => ?_⟩
    · cases i with
      | zero =>
        simp at he; subst he
        exact ⟨hl, fun j y hy => by simpa using a1.get hy⟩
      | succ i => simp at he
    · rw [List.getElem?_append] at hj
      split at hj
      · exact a2 j u hj
      · have := b2 _ u hj
        rwa [show o + st + (j - vs.length) = o + j by omega] at this

theorem RepEs.of_idx {ok : Nat → Prop} {w : World} {st b : Nat} : ∀ (es : List (List AV)) (o : Nat) (l : List Value), IdxR ok w st es l → (∀ (j : Nat) u, l[j]? = some u → w.cell? ⟨b, o + j, none⟩ = some u) → RepEs ok w st b o es
  | [], _, _, _, _ => trivial
  | e :: es, o, l, h, hc => by
    have h0 := h.2.2 0 e rfl
    refine ⟨h0.1, ?_, RepEs.of_idx es (o + st) (l.drop st) ⟨by rw [List.length_drop, h.1, List.length_cons, Nat.add_mul, Nat.one_mul, Nat.add_sub_cancel], fun u hu => h.2.1 u (List.mem_of_mem_drop hu), fun i e' he => ?_⟩ fun j u hj => ?_⟩
    · have key : ∀ (xs : List AV) (k : Nat), (∀ (j : Nat) y, xs[j]? = some y → ∃ u, l[k + j]? = some u ∧ RepD ok w y u) → RepCs ok w b (o + k) xs := by
        intro xs
        induction xs with
        | nil => intro k _; trivial
        | cons x xs ih =>
          intro k hk
          obtain ⟨u, hu, hr⟩ := hk 0 x rfl
          refine ⟨⟨u, hc _ _ hu, h.2.1 u (List.mem_of_getElem? hu), hr⟩, ?_⟩
          rw [Nat.add_assoc]
          exact ih (k + 1) fun j y hy => by
            obtain ⟨u, hu, hr⟩ := hk (j + 1) y (by simpa using hy)
            exact ⟨u, by rwa [Nat.add_assoc, Nat.add_comm 1 j], hr⟩
      have := key e 0 (by simpa using h0.2)
      simpa using this
    · obtain ⟨h1, h2⟩ := h.2.2 (i + 1) e' (by simpa using he)
      refine ⟨h1, fun j y hy => ?_⟩
      obtain ⟨u, hu, hr⟩ := h2 j y hy
      refine ⟨u, ?_, hr⟩
      rw [List.getElem?_drop]
      rwa [show st + (i * st + j) = (i + 1) * st + j by rw [Nat.add_mul, Nat.one_mul]; omega]
    · rw [List.getElem?_drop] at hj
      have := hc _ u hj
      rwa [show o + st + j = o + (st + j) by omega]

/-- A row of the call's own, as far as a slice of it goes. -/
theorem OwnB.idx {m : List (Option Nat)} {ok : Nat → Prop} {w : World} {L b : Nat} {e : TypeId} {st : Nat} {es : List (List AV)} (h : OwnB m ok w L (.row e st es)) (hm : m[L]? = some (some b)) {n : Nat} (hn : n ≤ es.length) :
    ∃ cs, CellsT w b cs e ∧ IdxR ok w st (es.take n) (cs.toList.take (n * st)) := by
  obtain ⟨ob, hm', h⟩ := h
  rw [hm] at hm'; cases hm'
  obtain ⟨cs, hb, hl, hr⟩ := h
  have hnl : n * st ≤ es.length * st := Nat.mul_le_mul_right _ hn
  refine ⟨cs, hb, by rw [List.length_take, List.length_take, Array.length_toList, Nat.min_eq_left hn, Nat.min_eq_left (by omega)], fun u hu => ?_, fun i x hx => ?_⟩
  · obtain ⟨k, hk, rfl⟩ := List.getElem_of_mem hu
    have hk2 : k < n * st := by simp at hk; omega
    have hst : 0 < st := by rcases Nat.eq_zero_or_pos st with h0 | h0; (· subst h0; simp at hk2); exact h0
    have hi : k / st < es.length := by
      rw [Nat.div_lt_iff_lt_mul hst]; omega
    obtain ⟨a1, a2⟩ := hr (k / st) es[k / st] (by simp [hi])
    have hlt : k % st < es[k / st].length := by rw [a1]; exact Nat.mod_lt _ hst
    obtain ⟨u, b1, b2, _⟩ := a2 (k % st) (es[k / st][k % st]'hlt) (List.getElem?_eq_getElem hlt)
    have e1 : k / st * st + k % st = k := by rw [Nat.mul_comm]; exact Nat.div_add_mod k st
    rw [e1] at b1
    have : cs[k] = u := (Array.getElem?_eq_some_iff.1 b1).2
    simp [this, b2]
  · rw [List.getElem?_take] at hx
    split at hx
    · rename_i hlt
      obtain ⟨a1, a2⟩ := hr i x hx
      refine ⟨a1, fun j y hy => ?_⟩
      obtain ⟨u, b1, _, b3⟩ := a2 j y hy
      have hj : j < st := by rw [← a1]; exact (List.getElem?_eq_some_iff.1 hy).1
      have := idx_lt hlt hj
      exact ⟨u, by rw [List.getElem?_take, if_pos this]; simpa using b1, b3⟩
    · cases hx

theorem OwnB.of_idx {m : List (Option Nat)} {ok : Nat → Prop} {w : World} {L b : Nat} {e : TypeId} {st : Nat} {es : List (List AV)} {cs : Array Value} (hm : m[L]? = some (some b)) (hb : CellsT w b cs e) (h : IdxR ok w st es (cs.toList.take (es.length * st))) : OwnB m ok w L (.row e st es) := by
  refine ⟨some b, hm, cs, hb, ?_, fun i x hx => ⟨(h.2.2 i x hx).1, fun j y hy => ?_⟩⟩
  · have := h.1
    rw [List.length_take, Array.length_toList (xs := cs)] at this
    omega
  · obtain ⟨u, hu, hr⟩ := (h.2.2 i x hx).2 j y hy
    have h1 := h.2.1 u (List.mem_of_getElem? hu)
    rw [List.getElem?_take] at hu
    split at hu
    · exact ⟨u, by simpa using hu, h1, hr⟩
    · cases hu

theorem RepD.elems {ok : Nat → Prop} {w : World} {nn : Bool} {st : Nat} {es : List (List AV)} {v : Value} (h : RepD ok w (.sl nn st es) v) : ∃ A cap l, v = .slice A es.length cap ∧ IdxR ok w st es l ∧ (∀ a, A = some a → ∀ (j : Nat) u, l[j]? = some u → w.cell? (a.add j) = some u) ∧ (A = none → es = []) := by
  obtain ⟨A, cap, rfl, _, h⟩ := h
  rcases Nat.eq_zero_or_pos es.length with h0 | h0
  · obtain rfl := List.eq_nil_of_length_eq_zero h0
    exact ⟨A, cap, [], rfl, IdxR.nil _ _ _, fun a _ j u hj => by simp at hj, fun _ => rfl⟩
  · obtain ⟨b, o, rfl, hb, he⟩ := h h0
    obtain ⟨l, h1, h2⟩ := he.idx
    exact ⟨_, cap, l, rfl, h1, fun a ha j u hj => by cases ha; rw [add_plain]; exact h2 j u hj, fun h => by cases h⟩

/-- What a slice holds, wherever it lies. -/
theorem elems_ok {m : List (Option Nat)} {ok : Nat → Prop} {h : Heap} {w : World} (ho : HOwn m ok h w) {x : AV} {st : Nat} {es : List (List AV)} (he : elemsA h x = some (st, es)) {v : Value} (hr : RepV m ok w x v) :
    ∃ A cap l, v = .slice A es.length cap ∧ IdxR ok w st es l ∧ (∀ a, A = some a → ∀ (j : Nat) u, l[j]? = some u → w.cell? (a.add j) = some u) ∧ (A = none → es = []) := by
  unfold elemsA at he
  split at he
  · cases he
    exact RepD.elems hr
  · rename_i L st' n
    split at he
    · rename_i ty st2 es2 hL
      split at he
      · rename_i hc
        obtain ⟨rfl, hn⟩ := hc
        cases he
        obtain ⟨ob, hm, hv⟩ := hr
        cases ob with
        | none =>
          obtain ⟨rfl, rfl⟩ := hv
          rw [List.take_zero]
          exact ⟨none, 0, [], rfl, IdxR.nil _ _ _, fun a ha => (by cases ha), fun _ => rfl⟩
        | some b =>
          obtain ⟨cap, t, rfl, hnc, hcm, hs⟩ := hv
          obtain ⟨cs, hb, hi⟩ := (ho L _ hL).idx hm hn
          refine ⟨_, cap, _, by rw [List.length_take, Nat.min_eq_left hn], hi, fun a ha j u hj => ?_, fun h => by cases h⟩
          cases ha
          rw [add_plain, hb.cell]
          rw [List.getElem?_take] at hj
          split at hj
          · simpa using hj
          · cases hj
      · cases he
    · cases he
  · cases he

theorem run_app_nil {P : Program} {t ty e : TypeId} {i : TypeInfo} (ht : P.underlying t = some (.slice e)) (hi : P.info? e = some i) (w : World) (v : Value) (n cap c : Nat) (A : Option Addr) (hv : v = .slice A n cap) (hn : n ≤ cap) :
    (Builtin.append_ #[t, t] ty #[v, .slice none 0 c]).run P w = .ok v w := by
  subst hv
  cases A with
  | none => simp [Builtin.append_, run_underlying ht, sizeOf, typeInfo, hi, Builtin.lenOf, Builtin.firstCells, hn]
  | some a => simp [Builtin.append_, run_underlying ht, sizeOf, typeInfo, hi, Builtin.lenOf, Builtin.firstCells, hn, storeCells]

theorem frozen_tail {w : World} {g o : Nat} {cur : Array Value} {t : TypeId} {fz : Nat × Nat} (hg : w.heap[g]? = some (.cells cur t fz)) (hfz : tailOk' fz cur.size) (ho : o < cur.size) : w.frozen? ⟨g, o, none⟩ = false := by
  obtain ⟨lo, hi⟩ := fz
  simp only [World.frozen?, hg, Bool.and_eq_false_iff, decide_eq_false_iff_not]
  rcases hfz with h | h
  · cases h
    right
    omega
  · left
    simp only at h
    omega

theorem run_storeCells_atT (P : Program) (g o : Nat) (t : TypeId) (fz : Nat × Nat) : ∀ (vs : List Value) (i : Nat) (cur : Array Value) (w : World), w.heap[g]? = some (.cells cur t fz) → tailOk' fz cur.size → o + i + vs.length ≤ cur.size → (∀ v ∈ vs, v.oneCell' = true) →
    (storeCells ⟨g, o, none⟩ vs i).run P w = .ok () (w.setRow g (cur.toList.take (o + i) ++ vs ++ cur.toList.drop (o + i + vs.length)).toArray)
  | [], i, cur, w, hg, _, _, _ => by
    simp only [storeCells, List.append_nil, List.length_nil, Nat.add_zero, List.take_append_drop, Array.toArray_toList]
    rw [setRow_self w g cur t fz hg]
    rfl
  | v :: rest, i, cur, w, hg, hfz, hl, h1 => by
    have hi : o + i < cur.size := by simp at hl; omega
    have hadd : (⟨g, o, none⟩ : Addr).add i = ⟨g, o + i, none⟩ := by unfold Addr.add; split <;> simp_all
    have hcell : w.cell? ⟨g, o + i, none⟩ = some cur[o + i] := by simp [World.cell?, hg, hi]
    have hfro : w.frozen? ⟨g, o + i, none⟩ = false := frozen_tail hg hfz hi
    have hst : (store ((⟨g, o, none⟩ : Addr).add i) v).run P w = .ok () (w.setRow g (cur.setIfInBounds (o + i) v)) := by
      rw [hadd, run_store P w _ v _ (h1 v (by simp)), hcell]
      simp [hfro, setCell_eq_setRow w g (o + i) cur t fz v hg]
    have ih := run_storeCells_atT P g o t fz rest (i + 1) (cur.setIfInBounds (o + i) v) (w.setRow g (cur.setIfInBounds (o + i) v)) (setRow_heap w g cur _ t _ hg) (by simpa using hfz) (by simp at hl ⊢; omega) (fun x hx => h1 x (by simp [hx]))
    simp only [storeCells, Sem.run_bind, hst, Result.andThen_ok, ih, setRow_setRow]
    congr 3
    have e := list_seg_step cur.toList (o + i) v rest (by simp at hl ⊢; omega)
    simpa [Array.toList_setIfInBounds, Nat.add_assoc] using e

/-- What the conversion does: the block is marked at its end. -/
theorem freeze_tail {w : World} {g : Nat} {cur : Array Value} {t : TypeId} {fz : Nat × Nat} (hg : w.heap[g]? = some (.cells cur t fz)) (hfz : tailOk' fz cur.size) :
    ∃ fz', (w.freeze ⟨g, cur.size, none⟩ 1).heap[g]? = some (.cells cur t fz') ∧ (fz' = (0, 0) ∨ cur.size ≤ fz'.1) ∧ (∀ k, k ≠ g → (w.freeze ⟨g, cur.size, none⟩ 1).heap[k]? = w.heap[k]?) ∧ (w.freeze ⟨g, cur.size, none⟩ 1).heap.size = w.heap.size := by
  obtain ⟨lo, hi⟩ := fz
  refine ⟨if lo == hi then (cur.size, cur.size + 1) else (min lo cur.size, max hi (cur.size + 1)), ?_, ?_, fun k hk => ?_, ?_⟩
  · simp [World.freeze, Array.getElem?_modify, hg]
  · right
    split
    · exact Nat.le_refl _
    · rename_i hne
      rcases hfz with h | h
      · cases h; simp at hne
      · simp only at h ⊢
        omega
  · simp [World.freeze, Array.getElem?_modify, Ne.symm hk]
  · simp [World.freeze]

theorem run_conv_mark {P : Program} {s e : TypeId} (hs : P.underlying s = some (.slice e)) (he : P.underlying e = some (.int .u8)) {w : World} {g len cap : Nat} {cur : Array Value} {t : TypeId} {fz : Nat × Nat} (hg : w.heap[g]? = some (.cells cur t fz)) :
    (convert s s (.slice (some ⟨g, 0, none⟩) len cap)).run P w = .ok (.slice (some ⟨g, 0, none⟩) len cap) (w.freeze ⟨g, cur.size, none⟩ 1) := by
  have hsh : w.shape? g = some (t, cur.size) := by simp [World.shape?, hg]
  have hsr : (shape g).run P w = .ok (some (t, cur.size)) w := by
    unfold shape
    rw [Sem.run, hsh]
    exact Sem.run_pure ..
  have hfr : (freeze ⟨g, cur.size, none⟩ 1).run P w = .ok () (w.freeze ⟨g, cur.size, none⟩ 1) := by
    unfold freeze
    rw [Sem.run]
    exact Sem.run_pure ..
  simp [convert, run_underlying hs, run_underlying he, markStringish, hsr, hfr]

theorem run_append_room_stringT {P : Program} (w : World) {t u ty e : TypeId} {i : TypeInfo} (ht : P.underlying t = some (.slice e)) (hu : P.underlying u = some .string) (hi : P.info? e = some i) (hs1 : i.size = 1)
    (g sLen sCap : Nat) (cur : Array Value) (fz : Nat × Nat) (hg : w.heap[g]? = some (.cells cur e fz)) (hfz : tailOk' fz cur.size) (s : ByteArray)
    (hroom : sLen + s.size ≤ sCap) (hfit : sLen + s.size ≤ cur.size) :
    (Builtin.append_ #[t, u] ty #[.slice (some ⟨g, 0, none⟩) sLen sCap, .string s]).run P w =
      .ok (.slice (some ⟨g, 0, none⟩) (sLen + s.size) sCap) (w.setRow g (cur.toList.take sLen ++ Lib.strCells s ++ cur.toList.drop (sLen + s.size)).toArray) := by
  have hf := Lib.run_firstCells_string (P := P) w 1 s
  have hst := run_storeCells_atT P g sLen e fz (Lib.strCells s) 0 cur w hg hfz (by simpa [Lib.strCells_length] using hfit) (Lib.strCells_oneCell s)
  simp only [Nat.add_zero, Lib.strCells_length] at hst
  simp [Builtin.append_, run_underlying ht, run_underlying hu, sizeOf, typeInfo, hi, hs1, Builtin.lenOf, hroom, hf, Addr.add_lit, hst]


theorem run_append_roomT {P : Program} (w : World) (t ty e : TypeId) (i : TypeInfo) (ht : P.underlying t = some (.slice e)) (hi : P.info? e = some i)
    (g sLen sCap : Nat) (cur : Array Value) (fz : Nat × Nat) (hg : w.heap[g]? = some (.cells cur e fz)) (hfz : tailOk' fz cur.size) (a : Addr) (n c : Nat) (news : List Value) (hlen : news.length = n * i.size) (hnews : ∀ j v, news[j]? = some v → w.cell? (a.add j) = some v) (h1 : ∀ v ∈ news, v.oneCell' = true)
    (hroom : sLen + n ≤ sCap) (hfit : sLen * i.size + news.length ≤ cur.size) :
    (Builtin.append_ #[t, t] ty #[.slice (some ⟨g, 0, none⟩) sLen sCap, .slice (some a) n c]).run P w = .ok (.slice (some ⟨g, 0, none⟩) (sLen + n) sCap) (w.setRow g (cur.toList.take (sLen * i.size) ++ news ++ cur.toList.drop (sLen * i.size + news.length)).toArray) := by
  have hf := run_firstCells_some (P := P) w i.size n a n c news hlen hnews
  have hst := run_storeCells_atT P g (sLen * i.size) e fz news 0 cur w hg hfz (by simpa using hfit) h1
  simp only [Nat.add_zero] at hst
  simp [Builtin.append_, run_underlying ht, sizeOf, typeInfo, hi, Builtin.lenOf, hroom, hf, Addr.add_lit, hst]

/-- A slice that is nil or a row of the call's own, whose block may be marked behind its cells. -/
def OwnsT (w : World) (base : Nat) (t : TypeId) (size : Nat) (v : Value) (n : Nat) (xs : List Value) : Prop :=
  xs.length = n * size ∧ (v = .slice none 0 0 ∧ n = 0 ∨ ∃ g cap cur, v = .slice (some ⟨g, 0, none⟩) n cap ∧ base ≤ g ∧ CellsT w g cur t ∧ n ≤ cap ∧ cap ≤ maxLen ∧ cur.size = cap * size ∧ cur.toList.take (n * size) = xs)

theorem OwnsT.nil (w : World) (base : Nat) (t : TypeId) (size : Nat) : OwnsT w base t size (.slice none 0 0) 0 [] := ⟨by simp, .inl ⟨rfl, rfl⟩⟩
theorem OwnsT.of {w : World} {base : Nat} {t : TypeId} {size : Nat} {v : Value} {n : Nat} {xs : List Value} (h : w.ownsRow base t size v n xs) : OwnsT w base t size v n xs := by
  refine ⟨h.1, ?_⟩
  rcases h.2 with h | ⟨g, cap, cur, h1, h2, h3, h4⟩
  · exact .inl h
  · exact .inr ⟨g, cap, cur, h1, h2, .plain h3, h4⟩

/-- Appending onto a slice that is nil or a row of the call's own. -/
theorem run_app {P : Program} {t ty e : TypeId} {E : TD} (ht : P.underlying t = some (.slice e)) (hE : td P e = some E) {z : List Value} (hz : E.zero = some z) (hzl : z.length = E.size) (hsz : 0 < E.size)
    {w : World} {base : Nat} (hbase : base ≤ w.heap.size) {v : Value} {n : Nat} {xs : List Value} (hown : OwnsT w base e E.size v n xs)
    {A : Option Addr} {k c : Nat} {news : List Value} (hl : news.length = k * E.size) (hc : ∀ a, A = some a → ∀ (j : Nat) u, news[j]? = some u → w.cell? (a.add j) = some u) (h0 : A = none → k = 0) (h1 : ∀ u ∈ news, u.oneCell' = true)
    (h63 : n + k ≤ maxLen) (hb : (n + k) * E.bytes ≤ 140737488355328) :
    ∃ v' w', (Builtin.append_ #[t, t] ty #[v, .slice A k c]).run P w = .ok v' w' ∧ OwnsT w' base e E.size v' (n + k) (xs ++ news) ∧ w.grownBy w' v.ownBlock ∧ (v'.ownBlock = v.ownBlock ∨ v'.ownBlock = some w.heap.size) := by
  obtain ⟨u, i, hu, hi, rfl⟩ := td_some hE
  simp only [Option.map_eq_some_iff] at hz
  obtain ⟨zv, hzv, rfl⟩ := hz
  cases A with
  | none =>
    obtain rfl := h0 rfl
    obtain rfl : news = [] := List.eq_nil_of_length_eq_zero (by simpa using hl)
    refine ⟨v, w, ?_, by simpa using hown, ⟨rfl, rfl, rfl, Nat.le_refl _, fun _ _ _ => rfl⟩, Or.inl rfl⟩
    rcases hown.2 with ⟨rfl, rfl⟩ | ⟨g, cap, cur, rfl, _, _, hnc, _⟩
    · exact run_app_nil ht hi w _ 0 0 c none rfl (Nat.le_refl _)
    · exact run_app_nil ht hi w _ n cap c _ rfl hnc
  | some a =>
    rcases hown.2 with ⟨hv, hn⟩ | ⟨g, cap, cur, rfl, hbg, hg, hnc, hcm, hcs, htake⟩
    · have hown' : w.ownsRow base e i.size v n xs := ⟨hown.1, .inl ⟨hv, hn⟩⟩
      obtain ⟨v', w', a1, a2, a3, _, a5⟩ := run_append_own_at (P := P) w base t ty e i zv i.size i.bytes ht hi hzv rfl rfl (by simpa using hzl) hsz v n xs hown' a k c news hl (hc a rfl) h1 h63 hb hbase
      exact ⟨v', w', a1, .of a2, a3, a5⟩
    · have hlen : (xs ++ news).length = (n + k) * i.size := by rw [List.length_append, hown.1, hl, Nat.add_mul]
      by_cases hroom : n + k ≤ cap
      · obtain ⟨fz, hg1, hfz⟩ := hg
        have hfit : n * i.size + news.length ≤ cur.size := by rw [hl, hcs, ← Nat.add_mul]; exact Nat.mul_le_mul_right _ hroom
        have hr := run_append_roomT (P := P) w t ty e i ht hi g n cap cur fz hg1 hfz a k c news hl (hc a rfl) h1 hroom hfit
        have hz2 : (cur.toList.take (n * i.size) ++ news ++ cur.toList.drop (n * i.size + news.length)).toArray.size = cur.size := by
          simp only [List.size_toArray, List.length_append, List.length_take, List.length_drop, Array.length_toList]
          omega
        refine ⟨_, _, hr, ⟨hlen, .inr ⟨g, cap, _, rfl, hbg, ⟨fz, setRow_heap w g cur _ e _ hg1, by rw [hz2]; exact hfz⟩, hroom, hcm, ?_, ?_⟩⟩, ⟨rfl, rfl, rfl, by simp, fun k _ hk => setRow_other w g k _ (fun e => hk (by simp [Value.ownBlock, e]))⟩, Or.inl rfl⟩
        · rw [hz2]; exact hcs
        · rw [htake, ← hlen]
          exact List.take_left
      · have hsmall : n + k ≤ 9223372036854775807 := by simp only [maxLen] at h63; omega
        have holds : ∀ j u, xs[j]? = some u → w.cell? ((⟨g, 0, none⟩ : Addr).add j) = some u := fun j u hj => by
          rw [add_plain, Nat.zero_add, hg.cell]
          rw [← htake, List.getElem?_take] at hj
          split at hj
          · simpa using hj
          · cases hj
        have hr := run_append_grow (P := P) w t ty e i zv ht hi hzv ⟨g, 0, none⟩ n cap xs hown.1 holds a k c news hl (hc a rfl) (by omega) (by omega) (growslice_fits (by omega) hb)
        have hge := grownCap_ge w (n + k) cap e
        have hcm' : grownCap w (n + k) cap e ≤ maxLen := grownCap_le_maxLen w (n + k) cap e h63
        refine ⟨_, _, hr, ⟨hlen, .inr ⟨w.heap.size, _, _, rfl, hbase, .plain (heap_alloc_new w.drew _), hge, hcm', ?_, ?_⟩⟩, ⟨rfl, rfl, rfl, by simp, fun k hk _ => heap_alloc_old w.drew _ hk⟩, Or.inr rfl⟩
        · have hzs : zv.cells.size = i.size := by simpa using hzl
          simp only [Array.size_append, List.size_toArray, size_zeroCells, hzs, hown.1, hl, ← Nat.add_mul]
          congr 1
          omega
        · simp only [Array.toList_append, List.append_assoc]
          rw [← List.append_assoc, ← hlen]
          exact List.take_left

/-- Appending onto a slice of data that has no room. -/
theorem run_app_cut {P : Program} {t ty e : TypeId} {E : TD} (ht : P.underlying t = some (.slice e)) (hE : td P e = some E) {z : List Value} (hz : E.zero = some z) (hzl : z.length = E.size) (hsz : 0 < E.size)
    {w : World} {A0 : Option Addr} {n : Nat} {xs : List Value} (hxl : xs.length = n * E.size) (hx0 : A0 = none → n = 0) (hxc : ∀ a, A0 = some a → ∀ (j : Nat) u, xs[j]? = some u → w.cell? (a.add j) = some u)
    {A : Option Addr} {k c : Nat} {news : List Value} (hl : news.length = k * E.size) (hc : ∀ a, A = some a → ∀ (j : Nat) u, news[j]? = some u → w.cell? (a.add j) = some u) (h0 : A = none → k = 0) (hk : 0 < k) (h1 : ∀ u ∈ news, u.oneCell' = true)
    (h63 : n + k ≤ maxLen) (hb : (n + k) * E.bytes ≤ 140737488355328) :
    ∃ v' w', (Builtin.append_ #[t, t] ty #[.slice A0 n n, .slice A k c]).run P w = .ok v' w' ∧ OwnsT w' w.heap.size e E.size v' (n + k) (xs ++ news) ∧ w.grownBy w' none := by
  cases A0 with
  | none =>
    obtain rfl := hx0 rfl
    obtain rfl : xs = [] := List.eq_nil_of_length_eq_zero (by simpa using hxl)
    obtain ⟨v', w', a1, a2, a3, _⟩ := run_app (P := P) (ty := ty) ht hE hz hzl hsz (w := w) (Nat.le_refl _) (OwnsT.nil w w.heap.size e E.size) (A := A) (k := k) (c := c) hl hc h0 h1 h63 hb
    exact ⟨v', w', a1, a2, a3⟩
  | some a0 =>
    cases A with
    | none => have := h0 rfl; omega
    | some a =>
      obtain ⟨u, i, hu, hi, rfl⟩ := td_some hE
      simp only [Option.map_eq_some_iff] at hz
      obtain ⟨zv, hzv, rfl⟩ := hz
      have hlen : (xs ++ news).length = (n + k) * i.size := by rw [List.length_append, hxl, hl, Nat.add_mul]
      have hsmall : n + k ≤ 9223372036854775807 := by simp only [maxLen] at h63; omega
      have hr := run_append_grow (P := P) w t ty e i zv ht hi hzv a0 n n xs hxl (hxc a0 rfl) a k c news hl (hc a rfl) (by omega) (by omega) (growslice_fits (by omega) hb)
      have hge := grownCap_ge w (n + k) n e
      have hcm' : grownCap w (n + k) n e ≤ maxLen := grownCap_le_maxLen w (n + k) n e h63
      refine ⟨_, _, hr, ⟨hlen, .inr ⟨w.heap.size, _, _, rfl, Nat.le_refl _, .plain (heap_alloc_new w.drew _), hge, hcm', ?_, ?_⟩⟩, ⟨rfl, rfl, rfl, by simp, fun k hk _ => heap_alloc_old w.drew _ hk⟩⟩
      · have hzs : zv.cells.size = i.size := by simpa using hzl
        simp only [Array.size_append, List.size_toArray, size_zeroCells, hzs, hxl, hl, ← Nat.add_mul]
        congr 1
        omega
      · simp only [Array.toList_append, List.append_assoc]
        rw [← List.append_assoc, ← hlen]
        exact List.take_left
end

-- part 8
section
open RowKit
def killB (hk : Heap) (ks : List Nat) : Blk → Blk
  | .var t cs => .var t (killL hk ks cs)
  | .row e st es => .row e st es
  | .map k es => .map k es
def killH (hk : Heap) (ks : List Nat) (h : Heap) : Heap := h.map (Option.map (killB hk ks))

theorem OwnB.kill {hk : Heap} {ks : List Nat} {m m' : List (Option Nat)} {ok ok' : Nat → Prop} {w w' : World} (g : Grow hk ks m ok w m' ok' w') {L : Nat} (hL : L ∉ ks) {blk : Blk} (hs : ∀ b, m[L]? = some (some b) → w'.heap[b]? = w.heap[b]?) (h : OwnB m ok w L blk) : OwnB m' ok' w' L (killB hk ks blk) := by
  cases blk with
  | var t xs =>
    obtain ⟨b, cs, hm, hb, hr, h1⟩ := h
    exact ⟨b, cs, g.mm _ _ hL hm, (hs b hm).trans hb, RepL.kill g xs hr, h1⟩
  | row e st es =>
    obtain ⟨ob, hm, h⟩ := h
    refine ⟨ob, g.mm _ _ hL hm, ?_⟩
    cases ob with
    | none => exact h
    | some b =>
      obtain ⟨cs, hb, hl, hr⟩ := h
      refine ⟨cs, hb.same (hs b hm), hl, fun i x hx => ⟨(hr i x hx).1, fun j y hy => ?_⟩⟩
      obtain ⟨u, hu, h1, hd⟩ := (hr i x hx).2 j y hy
      exact ⟨u, hu, h1, RepD.mono g.mo g.cells y hd⟩
  | map k es =>
    obtain ⟨b, l, clock, hm, hb, hst, hr⟩ := h
    exact ⟨b, l, clock, g.mm _ _ hL hm, (hs b hm).trans hb, hst, hr.mono g.mo g.cells⟩

theorem killH_get {hk : Heap} {ks : List Nat} {h : Heap} {L : Nat} {blk : Blk} (hL : (killH hk ks h)[L]? = some (some blk)) : ∃ b0, h[L]? = some (some b0) ∧ blk = killB hk ks b0 := by
  unfold killH at hL
  rw [List.getElem?_map, Option.map_eq_some_iff] at hL
  obtain ⟨o, h1, h2⟩ := hL
  rw [Option.map_eq_some_iff] at h2
  obtain ⟨b0, rfl, rfl⟩ := h2
  exact ⟨b0, h1, rfl⟩

section
variable {w0 : World} {ok0 : Nat → Prop} {m : List (Option Nat)} {ok : Nat → Prop} {h : Heap} {w : World}

/-- A row that has turned: appended to in place, or laid anew. -/
theorem HRel.turn (r : HRel w0 ok0 m ok h w) {L : Nat} {blk blk' : Blk} (hL : h[L]? = some (some blk)) {ob ob' : Option Nat} (hm : m[L]? = some ob) {w' : World} (hg : w.grownBy w' ob)
    (hob : ∀ b, ob' = some b → (ob = some b ∨ w.heap.size ≤ b) ∧ b < w'.heap.size) (hb : Grow [] [L] m ok w (m.set L ob') ok w' → OwnB (m.set L ob') ok w' L blk') :
    Grow [] [L] m ok w (m.set L ob') ok w' ∧ HRel w0 ok0 (m.set L ob') ok ((killH [] [L] h).set L (some blk')) w' := by
  have hz : w0.heap.size ≤ w.heap.size := r.bel.size
  have hLm : L < m.length := (List.getElem?_eq_some_iff.1 hm).1
  have sameOk : ∀ b, ok b → w'.heap[b]? = w.heap[b]? := fun b hk => hg.block b (r.okb b hk) fun e => by
    rw [← e] at hm
    exact r.nok L b blk hL hm hk
  have other : ∀ L' b, L' ≠ L → m[L']? = some (some b) → w'.heap[b]? = w.heap[b]? := fun L' b hne hm' => hg.block b (r.new L' b hm').2 fun e => by
    rw [← e] at hm
    exact hne (r.inj L' L b hm' hm)
  have old : ∀ L' b, (m.set L ob')[L']? = some (some b) → (L' ≠ L ∧ m[L']? = some (some b)) ∨ (L' = L ∧ ob' = some b) := fun L' b hm' => by
    rw [List.getElem?_set] at hm'
    split at hm'
    · rename_i e
      exact Or.inr ⟨e.symm, by simpa using hm'⟩
    · rename_i e
      exact Or.inl ⟨fun e' => e e'.symm, hm'⟩
  have g : Grow [] [L] m ok w (m.set L ob') ok w' := ⟨fun L' b hn hm' => by
      rw [List.getElem?_set, if_neg (fun e => hn (by simp [e]))]; exact hm', fun _ h => h, (fun b o hb => cell_same (sameOk b hb)), fun L' b s hn hm' hs => by
      unfold World.shape? at *
      rw [other L' b (by simpa using hn) hm']
      exact hs, ⟨(fun L' st n v st' es _ _ he => by simp [elemsA] at he), fun L j v y _ _ he => by simp [ptrD] at he⟩, .of_grownBy hg fun j o e ho => by
        subst e
        have hb0 := r.own L blk hL
        cases blk with
        | var t xs =>
          obtain ⟨b, cs, hm', hb', _⟩ := hb0
          rw [hm] at hm'; cases hm'
          rw [hb'] at ho; cases ho; rfl
        | row e st es =>
          obtain ⟨ob, hm', hb'⟩ := hb0
          rw [hm] at hm'; cases hm'
          obtain ⟨cs, ⟨fz, hb', _⟩, _⟩ := hb'
          rw [hb'] at ho; cases ho; rfl
        | map k es =>
          obtain ⟨b, l, clock, hm', hb', _⟩ := hb0
          rw [hm] at hm'; cases hm'
          rw [hb'] at ho; cases ho; rfl⟩
  refine ⟨g, by simp [r.len, killH], fun L' blk2 hL' => ?_, fun L' L2 b h1 h2 => ?_, fun L' b blk2 hL' hm' hk => ?_, fun L' b hm' => ?_, fun b hk => Nat.lt_of_lt_of_le (r.okb b hk) hg.size, r.oko, ?_, r.tab.mono g.mo g.cells⟩
  · rw [List.getElem?_set] at hL'
    split at hL'
    · rename_i e
      subst e
      split at hL'
      · cases hL'; exact hb g
      · cases hL'
    · rename_i e
      obtain ⟨b0, h1, rfl⟩ := killH_get hL'
      exact OwnB.kill g (by simpa using fun e' => e e'.symm) (fun b hm' => other L' b (fun e' => e e'.symm) hm') (r.own L' b0 h1)
  · rcases old L' b h1 with ⟨n1, a1⟩ | ⟨e1, a1⟩ <;> rcases old L2 b h2 with ⟨n2, a2⟩ | ⟨e2, a2⟩
    · exact r.inj L' L2 b a1 a2
    · rcases (hob b a2).1 with h3 | h3
      · rw [h3] at hm; exact absurd (r.inj L' L b a1 hm) n1
      · have := (r.new L' b a1).2; omega
    · rcases (hob b a1).1 with h3 | h3
      · rw [h3] at hm; exact absurd (r.inj L2 L b a2 hm) n2
      · have := (r.new L2 b a2).2; omega
    · rw [e1, e2]
  · rcases old L' b hm' with ⟨n1, a1⟩ | ⟨e1, a1⟩
    · rw [List.getElem?_set, if_neg (fun e => n1 e.symm)] at hL'
      obtain ⟨b0, h1, rfl⟩ := killH_get hL'
      exact r.nok L' b b0 h1 a1 hk
    · rcases (hob b a1).1 with h3 | h3
      · rw [h3] at hm; exact r.nok L b blk hL hm hk
      · have := r.okb b hk; omega
  · rcases old L' b hm' with ⟨n1, a1⟩ | ⟨e1, a1⟩
    · exact ⟨(r.new L' b a1).1, Nat.lt_of_lt_of_le (r.new L' b a1).2 hg.size⟩
    · obtain ⟨h3, h4⟩ := hob b a1
      refine ⟨?_, h4⟩
      rcases h3 with h3 | h3
      · rw [h3] at hm; exact (r.new L b hm).1
      · omega
  · refine r.bel.trans ⟨hg.os, hg.tape, hg.output, hg.size, fun k hk => hg.block k (by omega) fun e => ?_⟩
    rw [← e] at hm
    have := (r.new L k hm).1
    omega
end

section
variable {m : List (Option Nat)} {ok : Nat → Prop} {w : World}
mutual
theorem isD_ok : ∀ (x : AV) {v : Value}, isD x = true → RepV m ok w x v → RepD ok w x v
  | .ptr _ _, _, h, _ => by simp [isD] at h
  | .rp _ _ _, _, h, _ => by simp [isD] at h
  | .mp _, _, h, _ => by simp [isD] at h
  | .own _ _ _, _, h, _ => by simp [isD] at h
  | .agg xs, _, h, ⟨vs, hv, hl, h1⟩ => ⟨vs, hv, isDL_ok xs (by simpa [isD] using h) hl, h1⟩
  | .tup xs, _, h, ⟨vs, hv, hl⟩ => ⟨vs, hv, isDL_ok xs (by simpa [isD] using h) hl⟩
  | .fn _ xs, _, h, ⟨vs, hv, hl⟩ => ⟨vs, hv, isDL_ok xs (by simpa [isD] using h) hl⟩
  | .mv _ xs, _, h, ⟨vs, hv, hl⟩ => ⟨vs, hv, isDL_ok xs (by simpa [isD] using h) hl⟩
  | .junk, _, _, _ => trivial
  | .c _, _, _, h => h
  | .nils, _, _, h => h
  | .sl _ _ _, _, _, h => h
  | .cut _ _, _, _, h => h
  | .dptr _, _, _, h => h
theorem isDL_ok : ∀ (xs : List AV) {l : List Value}, isDL xs = true → RepL m ok w xs l → RepDL ok w xs l
  | [], _, _, h => h
  | x :: xs, _, h, ⟨u, us, hl, hx, hr⟩ => by
    simp only [isDL, Bool.and_eq_true] at h
    exact ⟨u, us, hl, isD_ok x h.1 hx, isDL_ok xs h.2 hr⟩
end
end

theorem isDL_get : ∀ {xs : List AV} {i : Nat} {x : AV}, isDL xs = true → xs[i]? = some x → isD x = true
  | [], _, _, _, h => by simp at h
  | y :: ys, 0, x, h, e => by
    simp only [isDL, Bool.and_eq_true] at h
    simp at e; subst e; exact h.1
  | y :: ys, i + 1, x, h, e => by
    simp only [isDL, Bool.and_eq_true] at h
    exact isDL_get h.2 (by simpa using e)
end

-- part 9
section
open RowKit
mutual
/-- What a callee sees of a value: the call's own slices as data. -/
def toD (h : Heap) : AV → Option AV
  | .ptr L j => ptrD h L j
  | .rp _ _ _ => none
  | .mp _ => none
  | .own L st n => (elemsA h (.own L st n)).map fun p => .sl false p.1 p.2
  | .agg xs => (toDL h xs).map .agg
  | .tup xs => (toDL h xs).map .tup
  | .fn f xs => (toDL h xs).map (.fn f)
  | .mv f xs => (toDL h xs).map (.mv f)
  | .junk => some .junk
  | .c v => some (.c v)
  | .nils => some .nils
  | .sl _ st es => some (.sl false st es)
  | .cut st es => some (.sl false st es)
  | .dptr xs => some (.dptr xs)
def toDL (h : Heap) : List AV → Option (List AV)
  | [] => some []
  | x :: xs => match toD h x, toDL h xs with
    | some y, some ys => some (y :: ys)
    | _, _ => none
end
mutual
/-- The call's own rows that a value names. -/
def ownsV : AV → List Nat
  | .own L _ _ => [L]
  | .agg xs => ownsL xs
  | .tup xs => ownsL xs
  | .fn _ xs => ownsL xs
  | .mv _ xs => ownsL xs
  | .ptr L _ => [L]
  | .rp _ _ _ => []
  | .mp _ => []
  | .junk => []
  | .c _ => []
  | .nils => []
  | .sl _ _ _ => []
  | .cut _ _ => []
  | .dptr _ => []
def ownsL : List AV → List Nat
  | [] => []
  | x :: xs => ownsV x ++ ownsL xs
end

def okx (m : List (Option Nat)) (ok : Nat → Prop) (ks : List Nat) (b : Nat) : Prop := ok b ∨ ∃ L ∈ ks, m[L]? = some (some b)

section
variable {m : List (Option Nat)} {ok : Nat → Prop} {h : Heap} {w : World}
theorem own_data (ho : HOwn m ok h w) {L st n : Nat} {p : Nat × List (List AV)} (he : elemsA h (.own L st n) = some p) {v : Value} (hv : RepV m ok w (.own L st n) v) {ok' : Nat → Prop} (g : ∀ b, ok b → ok' b) (hb : ∀ b, m[L]? = some (some b) → ok' b) : RepD ok' w (.sl false p.1 p.2) v := by
  obtain ⟨st', es⟩ := p
  simp only [elemsA] at he
  split at he
  · rename_i ty st2 es2 hL
    split at he
    · rename_i hcn
      obtain ⟨rfl, hn⟩ := hcn
      cases he
      obtain ⟨ob, hm, hv⟩ := hv
      cases ob with
      | none =>
        obtain ⟨rfl, rfl⟩ := hv
        exact ⟨none, 0, by simp, ⟨fun h0 => (by cases h0), fun _ => rfl, by simp⟩, fun h0 => by simp at h0⟩
      | some b =>
        obtain ⟨cap, t, rfl, hnc, hcm, hs⟩ := hv
        obtain ⟨cs, hbk, hi⟩ := (ho _ _ hL).idx hm hn
        refine ⟨_, cap, by rw [List.length_take, Nat.min_eq_left hn], ⟨fun h0 => (by cases h0), fun h0 => (by cases h0), by rw [List.length_take, Nat.min_eq_left hn]; exact hnc⟩, fun _ => ⟨b, 0, rfl, hb b hm, RepEs.of_idx _ 0 _ (hi.mono g fun _ _ _ => rfl) fun j u hj => ?_⟩⟩
        rw [hbk.cell, Nat.zero_add]
        rw [List.getElem?_take] at hj
        split at hj
        · simpa using hj
        · cases hj
    · cases he
  · cases he

theorem RepCs.of_row {ok : Nat → Prop} {w : World} {b : Nat} : ∀ (xs : List AV) (o : Nat) (vs : List Value), RepDL ok w xs vs → (∀ u ∈ vs, u.oneCell' = true) → (∀ (k : Nat) u, vs[k]? = some u → w.cell? ⟨b, o + k, none⟩ = some u) → RepCs ok w b o xs
  | [], _, _, _, _, _ => trivial
  | x :: xs, o, _, ⟨u, us, rfl, hx, hr⟩, h1, hc => ⟨⟨u, hc 0 u rfl, h1 u (by simp), hx⟩, RepCs.of_row xs (o + 1) us hr (fun q hq => h1 q (by simp [hq])) fun k q hk => by
      have := hc (k + 1) q (by simpa using hk)
      rwa [show o + 1 + k = o + (k + 1) by omega]⟩

theorem okx_mono {ks ks' : List Nat} (hs : ∀ L ∈ ks, L ∈ ks') {b : Nat} (hb : okx m ok ks b) : okx m ok ks' b := by
  rcases hb with hb | ⟨L, h1, h2⟩
  · exact Or.inl hb
  · exact Or.inr ⟨L, hs L h1, h2⟩

mutual
theorem toD_ok (ho : HOwn m ok h w) : ∀ (x : AV) {y : AV} {v : Value}, toD h x = some y → RepV m ok w x v → RepD (okx m ok (ownsV x)) w y v
  | .ptr L j, y, v, h, hv => by
    simp only [toD, ptrD] at h
    split at h
    · rename_i t cs hL
      split at h
      · rename_i hd
        cases h
        obtain ⟨b, hm, rfl⟩ := hv
        obtain ⟨b', vs, hm', hb, hr, h1⟩ := ho L _ hL
        rw [hm] at hm'; cases hm'
        refine ⟨b, j, rfl, Or.inr ⟨L, by simp [ownsV], hm⟩, ?_⟩
        have hd' := RepDL.mono (ok' := okx m ok (ownsV (.ptr L j))) (fun b hb => Or.inl hb) (fun _ _ _ => rfl) _ (isDL_ok cs hd hr)
        have := RepCs.of_row (b := b) cs 0 vs.toList hd' h1 (fun k u hk => by rw [cell_of_block hb, Nat.zero_add]; simpa using hk)
        have := this.drop j
        rwa [Nat.zero_add] at this
      · cases h
    · cases h
  | .rp _ _ _, _, _, h, _ => by simp [toD] at h
  | .mp _, _, _, h, _ => by simp [toD] at h
  | .own L st n, y, v, h, hv => by
    simp only [toD, Option.map_eq_some_iff] at h
    obtain ⟨p, hp, rfl⟩ := h
    exact own_data ho hp hv (fun b hb => Or.inl hb) fun b hb => Or.inr ⟨L, by simp [ownsV], hb⟩
  | .agg xs, y, v, h, ⟨vs, hv, hl, h1⟩ => by
    simp only [toD, Option.map_eq_some_iff] at h
    obtain ⟨ys, hp, rfl⟩ := h
    exact ⟨vs, hv, toDL_ok ho xs hp hl, h1⟩
  | .tup xs, y, v, h, ⟨vs, hv, hl⟩ => by
    simp only [toD, Option.map_eq_some_iff] at h
    obtain ⟨ys, hp, rfl⟩ := h
    exact ⟨vs, hv, toDL_ok ho xs hp hl⟩
  | .fn f xs, y, v, h, ⟨vs, hv, hl⟩ => by
    simp only [toD, Option.map_eq_some_iff] at h
    obtain ⟨ys, hp, rfl⟩ := h
    exact ⟨vs, hv, toDL_ok ho xs hp hl⟩
  | .mv f xs, y, v, h, ⟨vs, hv, hl⟩ => by
    simp only [toD, Option.map_eq_some_iff] at h
    obtain ⟨ys, hp, rfl⟩ := h
    exact ⟨vs, hv, toDL_ok ho xs hp hl⟩
  | .junk, y, v, h, _ => by simp [toD] at h; subst h; trivial
  | .c _, y, v, h, hv => by simp [toD] at h; subst h; exact hv
  | .nils, y, v, h, hv => by simp [toD] at h; subst h; exact hv
  | .sl nn st es, y, v, h, hv => by
    simp [toD] at h
    subst h
    obtain ⟨A, cap, h1, h3, h2⟩ := RepD.mono (ok' := okx m ok (ownsV (.sl nn st es))) (fun b hb => Or.inl hb) (fun _ _ _ => rfl) (.sl nn st es) hv
    exact ⟨A, cap, h1, ⟨fun h => (by cases h), h3.2⟩, h2⟩
  | .cut st es, y, v, h, hv => by
    simp [toD] at h
    subst h
    obtain ⟨A, h1, h2⟩ := RepD.mono (ok' := okx m ok (ownsV (.cut st es))) (fun b hb => Or.inl hb) (fun _ _ _ => rfl) (.cut st es) hv
    refine ⟨A, es.length, h1, ⟨fun h => (by cases h), fun hA => ?_, Nat.le_refl _⟩, h2⟩
    rcases Nat.eq_zero_or_pos es.length with h0 | h0
    · exact h0
    · obtain ⟨b, o, e, _⟩ := h2 h0
      rw [hA] at e; cases e
  | .dptr xs, y, v, h, hv => by simp [toD] at h; subst h; exact RepD.mono (fun b hb => Or.inl hb) (fun _ _ _ => rfl) (.dptr xs) hv
theorem toDL_ok (ho : HOwn m ok h w) : ∀ (xs : List AV) {ys : List AV} {l : List Value}, toDL h xs = some ys → RepL m ok w xs l → RepDL (okx m ok (ownsL xs)) w ys l
  | [], ys, l, h, hl => by simp [toDL] at h; subst h; exact hl
  | x :: xs, ys, l, h, ⟨u, us, hl, hx, hr⟩ => by
    unfold toDL at h
    split at h
    · rename_i y ys' hy hys
      cases h
      exact ⟨u, us, hl, RepD.mono (fun b hb => okx_mono (by simp [ownsL]; intro L hL; exact Or.inl hL) hb) (fun _ _ _ => rfl) y (toD_ok ho x hy hx), RepDL.mono (fun b hb => okx_mono (by simp [ownsL]; intro L hL; exact Or.inr hL) hb) (fun _ _ _ => rfl) ys' (toDL_ok ho xs hys hr)⟩
    · cases h
end
end

mutual
/-- A value that leads nowhere. -/
def flat : AV → Bool
  | .c _ => true
  | .nils => true
  | .tup xs => flatL xs
  | .agg xs => flatL xs
  | .junk => true
  | _ => false
def flatL : List AV → Bool
  | [] => true
  | x :: xs => flat x && flatL xs
end
section
variable {ok ok' : Nat → Prop} {w w' : World}
mutual
theorem flat_ok : ∀ (x : AV) {v : Value}, flat x = true → RepD ok w x v → RepD ok' w' x v
  | .c _, _, _, h => h
  | .nils, _, _, h => h
  | .junk, _, _, _ => trivial
  | .tup xs, _, h, ⟨vs, hv, hl⟩ => ⟨vs, hv, flatL_ok xs (by simpa [flat] using h) hl⟩
  | .agg xs, _, h, ⟨vs, hv, hl, h1⟩ => ⟨vs, hv, flatL_ok xs (by simpa [flat] using h) hl, h1⟩
  | .ptr _ _, _, h, _ => by simp [flat] at h
  | .rp _ _ _, _, h, _ => by simp [flat] at h
  | .mp _, _, h, _ => by simp [flat] at h
  | .own _ _ _, _, h, _ => by simp [flat] at h
  | .fn _ _, _, h, _ => by simp [flat] at h
  | .mv _ _, _, h, _ => by simp [flat] at h
  | .sl _ _ _, _, h, _ => by simp [flat] at h
  | .cut _ _, _, h, _ => by simp [flat] at h
  | .dptr _, _, h, _ => by simp [flat] at h
theorem flatL_ok : ∀ (xs : List AV) {l : List Value}, flatL xs = true → RepDL ok w xs l → RepDL ok' w' xs l
  | [], _, _, h => h
  | x :: xs, _, h, ⟨u, us, hl, hx, hr⟩ => by
    simp only [flatL, Bool.and_eq_true] at h
    exact ⟨u, us, hl, flat_ok x h.1 hx, flatL_ok xs h.2 hr⟩
end
end

/-- A function that makes this of these, and turns nothing that there was. -/
def Meets (P : Program) (f : FuncId) (args : List AV) (res : AV) : Prop :=
  Proofs.Enters P f ∧ ∀ (ok : Nat → Prop) (w : World) (vs : List Value), Okb ok w → RepDL ok w args vs →
    Calls P f vs.toArray w fun e w' => ∃ v, e = .returned v ∧ RepD (fun b => ok b ∨ (w.heap.size ≤ b ∧ b < w'.heap.size)) w' res v ∧ Below w.heap.size w w'

/-- Rows that are data from now on. -/
def dropL (ks : List Nat) (h : Heap) : Heap := h.zipIdx.map fun p => if p.2 ∈ ks then none else p.1

theorem dropL_get {ks : List Nat} {h : Heap} {L : Nat} {blk : Blk} (e : (dropL ks h)[L]? = some (some blk)) : h[L]? = some (some blk) ∧ L ∉ ks := by
  unfold dropL at e
  rw [List.getElem?_map, List.getElem?_zipIdx, Option.map_map, Option.map_eq_some_iff] at e
  obtain ⟨o, h1, h2⟩ := e
  simp only [Function.comp] at h2
  split at h2
  · cases h2
  · rename_i hn
    exact ⟨h2 ▸ h1, by simpa using hn⟩

theorem HRel.freeze {w0 : World} {ok0 : Nat → Prop} {m : List (Option Nat)} {ok : Nat → Prop} {h : Heap} {w : World} (r : HRel w0 ok0 m ok h w) (ks : List Nat) :
    Grow h ks m ok w m (okx m ok ks) w ∧ HRel w0 ok0 m (okx m ok ks) (killH h ks (dropL ks h)) w := by
  have g : Grow h ks m ok w m (okx m ok ks) w := ⟨fun _ _ _ h => h, fun _ h => Or.inl h, fun _ _ _ => rfl, fun _ _ _ _ _ h => h, ⟨(fun L st n v st' es hL hv he => own_data r.own he hv (fun b hb => Or.inl hb) fun b hb => Or.inr ⟨L, hL, hb⟩), fun L j v y hL hv he => RepD.mono (fun b hb => okx_mono (by simp [ownsV]; exact hL) hb) (fun _ _ _ => rfl) y (toD_ok r.own (.ptr L j) (by simpa only [toD] using he) hv)⟩, .refl w⟩
  refine ⟨g, by simp [r.len, killH, dropL], fun L blk hL => ?_, r.inj, fun L b blk hL hm hk => ?_, r.new, fun b hk => ?_, fun b hk => ?_, r.bel, r.tab.mono g.mo g.cells⟩
  · obtain ⟨b0, h1, rfl⟩ := killH_get hL
    obtain ⟨h1, h2⟩ := dropL_get h1
    exact OwnB.kill g h2 (fun _ _ => rfl) (r.own L b0 h1)
  · obtain ⟨b0, h1, rfl⟩ := killH_get hL
    obtain ⟨h1, h2⟩ := dropL_get h1
    rcases hk with hk | ⟨L', h3, h4⟩
    · exact r.nok L b b0 h1 hm hk
    · exact h2 (r.inj L' L b h4 hm ▸ h3)
  · rcases hk with hk | ⟨L', h3, h4⟩
    · exact r.okb b hk
    · exact (r.new L' b h4).2
  · rcases hk with hk | ⟨L', h3, h4⟩
    · exact r.oko b hk
    · exact Or.inr (r.new L' b h4).1

theorem Grow.then {h : Heap} {ks : List Nat} {m m1 m2 : List (Option Nat)} {ok ok1 ok2 : Nat → Prop} {w w1 w2 : World} (a : Grow h ks m ok w m1 ok1 w1) (b : Grow [] [] m1 ok1 w1 m2 ok2 w2) : Grow h ks m ok w m2 ok2 w2 :=
  ⟨fun L o hn hm => b.mm L o (by simp) (a.mm L o hn hm), fun k hk => b.mo k (a.mo k hk), fun k o hk => (b.cells k o (a.mo k hk)).trans (a.cells k o hk), fun L k s hn hm hs => b.shape L k s (by simp) (a.mm L _ hn hm) (a.shape L k s hn hm hs), ⟨(fun L st n v st' es hL hv he => RepD.mono b.mo b.cells _ (a.fz.1 L st n v st' es hL hv he)), fun L j v y hL hv he => RepD.mono b.mo b.cells _ (a.fz.2 L j v y hL hv he)⟩, a.others.trans b.others⟩
end

-- part 10
section
open RowKit
def storeA (h : Heap) (p : AV) (xs : List AV) (K : Heap → Prop) : Prop :=
  match p with
  | .ptr L j => match h[L]? with
    | some (some (.var t cs)) => j + xs.length ≤ cs.length ∧ K (h.set L (some (.var t (setAll cs j xs))))
    | _ => False
  | .rp L i j => match h[L]? with
    | some (some (.row e st es)) => st ≠ 0 ∧ i % st = 0 ∧ isDL xs = true ∧ elO es[i / st]? fun x => j + xs.length ≤ x.length ∧ K (h.set L (some (.row e st (es.set (i / st) (setAll x j xs)))))
    | _ => False
  | _ => False

def elemsN (h : Heap) (st : Nat) : AV → Option (List (List AV))
  | .nils => some []
  | x => match elemsA h x with
    | some (st', es) => if st' = st then some es else none
    | none => none

def rowE (h : Heap) (L : Nat) : Option TypeId :=
  match h[L]? with
  | some (some (.row e _ _)) => some e
  | _ => none


def bytesA : List (List AV) → Option (List Int)
  | [] => some []
  | [.c (.int .u8 n)] :: r => (bytesA r).map (n :: ·)
  | _ => none
def bytesS (ns : List Int) : ByteArray := ns.foldl (fun r n => r.push (UInt8.ofNat n.toNat)) ByteArray.empty
/-- Conversions: of integers, of bytes to a string. -/
def convS (P : Program) (h : Heap) (s d : TypeId) (x : AV) (K : AV → Prop) : Prop :=
  elO (td P s) fun S => elO (td P d) fun D => D.str = true ∧ elO S.elem fun e => elO (td P e) fun E => E.ik = some .u8 ∧ elO (elemsN h 1 x) fun es => elO (bytesA es) fun bs => K (.c (.string (bytesS bs)))
/-- '[]byte' of an own slice of bytes: the slice itself, its block is marked behind its cells. -/
def convM (P : Program) (h : Heap) (s : TypeId) (L n : Nat) (K : Prop) : Prop :=
  elO (td P s) fun S => elO S.elem fun e => elO (td P e) fun E => E.ik = some .u8 ∧ 0 < n ∧ elO (rowE h L) fun _ => K
def convA (P : Program) (σ : AS) (s d : TypeId) (x : Operand) (y : AV) (K : AV → Prop) : Prop :=
  match y with
  | .c (.int _ _) => apureO P σ (.convert s d x) K
  | .own L st n => if s = d then convM P σ.h s L n (K (.own L st n)) else convS P σ.h s d (.own L st n) K
  | .sl nn st es => convS P σ.h s d (.sl nn st es) K
  | _ => False

/-- A string's bytes as elements. -/
def strE (s : ByteArray) : List (List AV) := s.data.toList.map fun b => [.c (.int .u8 b.toNat)]
/-- Appending the bytes of a string. -/
def appS (P : Program) (σ : AS) (t t' : TypeId) (bs : ByteArray) (K : AV → Heap → List Nat → Heap → Prop) (y : AV) : Prop :=
  elO (td P t') fun U => U.str = true ∧ elO (td P t) fun D => elO D.elem fun e => elO (td P e) fun E => E.ik = some .u8 ∧ E.size = 1 ∧ E.bytes = 1 ∧ elO E.zero fun z => z.length = 1 ∧ (match y with
    | .own L st n => st = 1 ∧ rowE σ.h L = some e ∧ elO (elemsA σ.h (.own L st n)) fun p => n + bs.size ≤ 140737488355328 ∧ K (.own L 1 (n + bs.size)) [] [L] ((killH [] [L] σ.h).set L (some (.row e 1 (p.2 ++ strE bs))))
    | .nils => bs.size ≤ 140737488355328 ∧ K (.own σ.h.length 1 bs.size) [] [] (σ.h ++ [some (.row e 1 (strE bs))])
    | _ => False)
def appV (P : Program) (σ : AS) (t t' : TypeId) (s x : Operand) (K : AV → Heap → List Nat → Heap → Prop) : Prop :=
  t = t' ∧ elO (td P t) fun D => elO D.elem fun e => elO (td P e) fun E => elO E.zero fun z => z.length = E.size ∧ 0 < E.size ∧ elO (elemsN σ.h E.size (aev σ x)) fun es' => match aev σ s with
      | .own L st n => st = E.size ∧ rowE σ.h L = some e ∧ elO (elemsA σ.h (.own L st n)) fun p => ((n + es'.length) * E.bytes ≤ 140737488355328) ∧ n + es'.length ≤ 9223372036854775807 ∧ K (.own L st (n + es'.length)) [] [L] ((killH [] [L] σ.h).set L (some (.row e st (p.2 ++ es'))))
      | .nils => es'.length * E.bytes ≤ 140737488355328 ∧ es'.length ≤ 9223372036854775807 ∧ K (.own σ.h.length E.size es'.length) [] [] (σ.h ++ [some (.row e E.size es')])
      | .cut st es => st = E.size ∧ 0 < es'.length ∧ (es.length + es'.length) * E.bytes ≤ 140737488355328 ∧ es.length + es'.length ≤ 9223372036854775807 ∧ K (.own σ.h.length E.size (es.length + es'.length)) [] [] (σ.h ++ [some (.row e E.size (es ++ es'))])
      | _ => False
/-- Appending so many zeros ('append(s, make(..)...)') onto a nil slice. -/
def appM (P : Program) (σ : AS) (t t' : TypeId) (n : Int) (K : AV → Heap → List Nat → Heap → Prop) : AV → Prop
  | .nils => elO (td P t') fun U => elO U.ik fun _ => elO (td P t) fun D => elO D.elem fun e => elO (td P e) fun E => elO E.zero fun z => z.all (·.oneCell') = true ∧ z.length = E.size ∧ 0 < E.size ∧ 0 < n ∧ (E.bytes : Int) * n ≤ 140737488355328 ∧ n ≤ 9223372036854775807 ∧ K (.own σ.h.length E.size n.toNat) [] [] (σ.h ++ [some (.row e E.size (List.replicate n.toNat (z.map cvc)))])
  | .own L st q => elO (td P t') fun U => elO U.ik fun _ => elO (td P t) fun D => elO D.elem fun e => elO (td P e) fun E => elO E.zero fun z => z.all (·.oneCell') = true ∧ z.length = E.size ∧ 0 < E.size ∧ 0 ≤ n ∧ st = E.size ∧ rowE σ.h L = some e ∧ elO (elemsA σ.h (.own L st q)) fun p => (q + n.toNat) * E.bytes ≤ 140737488355328 ∧ q + n.toNat ≤ 9223372036854775807 ∧ K (.own L st (q + n.toNat)) [] [L] ((killH [] [L] σ.h).set L (some (.row e st (p.2 ++ List.replicate n.toNat (z.map cvc)))))
  | _ => False
def appA (P : Program) (σ : AS) (t t' : TypeId) (s x : Operand) (K : AV → Heap → List Nat → Heap → Prop) : AV → Prop
  | .c (.string bs) => appS P σ t t' bs K (aev σ s)
  | .c (.int _ n) => appM P σ t t' n K (aev σ s)
  | _ => appV P σ t t' s x K

/-- The end of a slice that is built: of data; or else the own slices among its parts are data from then on. -/
def bsF2 (σ : AS) (e : TypeId) (st len : Nat) (parts : Array (Nat × Operand)) (K : AV → Heap → List Nat → Heap → Prop) (cs : List AV) : Prop := isDL cs = true ∧ K (.own σ.h.length st len) σ.h (ownsL (parts.toList.map fun p => aev σ p.2)) (killH σ.h (ownsL (parts.toList.map fun p => aev σ p.2)) (dropL (ownsL (parts.toList.map fun p => aev σ p.2)) σ.h) ++ [some (.row e st (chunk len st cs))])
def bsF1 (σ : AS) (e : TypeId) (st len : Nat) (z : List Value) (parts : Array (Nat × Operand)) (K : AV → Heap → List Nat → Heap → Prop) (ds : List AV) : Prop := elO (fillA (fun i => some (i * st, st)) ((List.range (len * st)).map fun k => (z.map cvc)[k % st]?.getD .junk) ((parts.toList.map Prod.fst).zip ds)) (bsF2 σ e st len parts K)
def bsF0 (σ : AS) (e : TypeId) (st len : Nat) (z : List Value) (parts : Array (Nat × Operand)) (K : AV → Heap → List Nat → Heap → Prop) (cs : List AV) : Option (List AV) → Prop
  | some ds => bsF1 σ e st len z parts K ds
  | none => K (.own σ.h.length st len) [] [] (σ.h ++ [some (.var e cs)])
def bsEnd (σ : AS) (e : TypeId) (st len : Nat) (z : List Value) (parts : Array (Nat × Operand)) (K : AV → Heap → List Nat → Heap → Prop) (cs : List AV) : Prop := if isDL cs = true then K (.own σ.h.length st len) [] [] (σ.h ++ [some (.row e st (chunk len st cs))]) else bsF0 σ e st len z parts K cs (toDL σ.h (parts.toList.map fun p => aev σ p.2))

/-- A slice that is built of data, as data. -/
def bsD (P : Program) (σ : AS) (t : TypeId) (len : Nat) (parts : Array (Nat × Operand)) (K : AV → Prop) : Prop :=
  elO (td P t) fun D => elO D.elem fun e => elO (td P e) fun E => elO E.zero fun z => z.all (·.oneCell') = true ∧ z.length = E.size ∧ 0 < E.size ∧ len * E.size ≤ 16777216 ∧ len ≤ 9223372036854775807 ∧
    elO (fillA (fun i => some (i * E.size, E.size)) ((List.range (len * E.size)).map fun k => (z.map cvc)[k % E.size]?.getD .junk) (parts.toList.map fun p => (p.1, aev σ p.2))) fun cs => isDL cs = true ∧ K (.sl true E.size (chunk len E.size cs))
def pureK (h : Heap) (K : AV → Heap → List Nat → Heap → Prop) (v : AV) : Prop := K v [] [] h
def frozK (h : Heap) (ks : List Nat) (K : AV → Heap → List Nat → Heap → Prop) (v : AV) : Prop := K v h ks (killH h ks (dropL ks h))
/-- All of an array of the call's own, as a slice of the call's own. -/
def arrA (P : Program) (σ : AS) (t : TypeId) (L : Nat) (K : AV → Heap → List Nat → Heap → Prop) : Prop :=
  elO (td P t) fun D => elO D.arr fun a => elO (td P a.2) fun E => match σ.h[L]? with
    | some (some (.var _ cs)) => a.1 ≤ 9223372036854775807 ∧ cs.length = a.1 * E.size ∧ K (.own L E.size a.1) [] [] σ.h
    | _ => False
/-- A copy into an array of the call's own. -/
def copyA (P : Program) (h : Heap) (t : TypeId) (s : AV) (K : AV → Heap → List Nat → Heap → Prop) : AV → Prop
  | .own L st n => match h[L]? with
    | some (some (.var ty cs)) => elO (td P t) fun D => elO D.elem fun e => elO (td P e) fun E => E.size = st ∧ n * st ≤ cs.length ∧ elO (elemsN h st s) fun es => K (.c (.int .i64 (min es.length n : Nat))) [] [] (h.set L (some (.var ty (setAll cs 0 (es.take (min es.length n)).flatten))))
    | _ => False
  | _ => False
/-- A part of an array of the call's own: its block is data from then on; all of it: it stays as it is. -/
def sliceP (P : Program) (σ : AS) (t : TypeId) (lo hi mx : Option AV) (K : AV → Heap → List Nat → Heap → Prop) : AV → Prop
  | .ptr L j => if (j == 0 && (lo.isNone && (hi.isNone && mx.isNone))) = true then arrA P σ t L K else elO (ptrD σ.h L j) (sliceA P t lo hi mx (frozK σ.h [L] K))
  | y => sliceA P t lo hi mx (pureK σ.h K) y

/-- A new map. -/
def mmakA (P : Program) (σ : AS) (t : TypeId) (K : AV → Heap → List Nat → Heap → Prop) : Option AV → Prop
  | none => mapT P t fun kt _ => K (.mp σ.h.length) [] [] (σ.h ++ [some (.map kt [])])
  | some (.c (.int _ _)) => mapT P t fun kt _ => K (.mp σ.h.length) [] [] (σ.h ++ [some (.map kt [])])
  | _ => False
/-- A store into a map. -/
def mupA (P : Program) (h : Heap) (t : TypeId) (K : AV → Heap → List Nat → Heap → Prop) (k x : AV) : AV → Prop
  | .mp L => match h[L]? with
    | some (some (.map kt es)) => mapT P t fun kt' _ => kt' = kt ∧ isD x = true ∧ elO (keyA kt k) fun key => K .junk [] [] (h.set L (some (.map kt (mput key x es))))
    | _ => False
  | _ => False

/-- Operations that turn memory, and calls. -/
def astepO (P : Program) (σ : AS) (op : Op) (K : AV → Heap → List Nat → Heap → Prop) : Prop :=
  match op with
  | .alloc t => elO (td P t) fun D => elO D.zero fun z => z.all (·.oneCell') = true ∧ K (.ptr σ.h.length 0) [] [] (σ.h ++ [some (.var t (z.map cvc))])
  | .convert s d x => convA P σ s d x (aev σ x) fun v => K v [] [] σ.h
  | .slice t x lo hi mx => sliceP P σ t (lo.map (aev σ)) (hi.map (aev σ)) (mx.map (aev σ)) K (aev σ x)
  | .box t x => cellOk (aev σ x) = true ∧ K (.ptr σ.h.length 0) [] [] (σ.h ++ [some (.var t (cellsA (aev σ x)))])
  | .store t p x => elO (td P t) fun D => cellOk (aev σ x) = true ∧ (cellsA (aev σ x)).length = D.size ∧ storeA σ.h (aev σ p) (cellsA (aev σ x)) fun h' => K .junk [] [] h'
  | .makeSlice t l c => elO (td P t) fun D => elO D.elem fun e => elO (td P e) fun E => elO E.zero fun z => z.all (·.oneCell') = true ∧ z.length = E.size ∧ 0 < E.size ∧ match aev σ l, aev σ c with
    | .c (.int _ a), .c (.int _ b) => 0 ≤ a ∧ a ≤ b ∧ (E.bytes : Int) * b ≤ 140737488355328 ∧ b ≤ 9223372036854775807 ∧ K (.own σ.h.length E.size a.toNat) [] [] (σ.h ++ [some (.row e E.size (List.replicate a.toNat (z.map cvc)))])
    | _, _ => False
  | .buildSlice t len parts => elO (td P t) fun D => elO D.elem fun e => elO (td P e) fun E => elO E.zero fun z => z.all (·.oneCell') = true ∧ z.length = E.size ∧ 0 < E.size ∧ len * E.size ≤ 16777216 ∧ len ≤ 9223372036854775807 ∧
    elO (fillA (fun i => some (i * E.size, E.size)) ((List.range (len * E.size)).map fun k => (z.map cvc)[k % E.size]?.getD .junk) (parts.toList.map fun p => (p.1, aev σ p.2))) (bsEnd σ e E.size len z parts K)
  | .call ⟨.builtin .append, args, ats⟩ => match args.toList, ats.toList with
    | [s, x], [t, t'] => appA P σ t t' s x K (aev σ x)
    | _, _ => False
  | .call ⟨.builtin .copy, args, ats⟩ => match args.toList, ats.toList with
    | [s, x], [t, _] => copyA P σ.h t (aev σ x) K (aev σ s)
    | _, _ => False
  | .call ⟨.value f, args, _⟩ => match aev σ f with
    | .fn g cap => elO (toDL σ.h (args.toList.map (aev σ) ++ cap)) fun ds => ∃ res, Meets P g ds res ∧
      if (flat res || (ownsL (args.toList.map (aev σ) ++ cap)).isEmpty) = true then K res [] [] σ.h
      else K res σ.h (ownsL (args.toList.map (aev σ) ++ cap)) (killH σ.h (ownsL (args.toList.map (aev σ) ++ cap)) (dropL (ownsL (args.toList.map (aev σ) ++ cap)) σ.h))
    | _ => False
  | .makeMap t rs => mmakA P σ t K (rs.map (aev σ))
  | .mapUpdate t m k x => mupA P σ.h t K (aev σ k) (aev σ x) (aev σ m)
  | _ => False

def astep (P : Program) (σ : AS) (o : Oper) (K : AV → Heap → List Nat → Heap → Prop) : Prop := astepO P σ o.op K

/-- The fence of a walk: every function; within a round of a range over a function, or not. -/
abbrev FW (r : Option Nat) : Fence := { Fence.wide with round := r }

def ExecOk (P : Program) (ρ : Operand → Value) (o : Oper) (w : World) (Post : Value → World → Prop) : Prop :=
  match (execOp ρ o).run P w with
  | .ok (.value u) w' => Post u w'
  | .ok .skip w' => Post undef w'
  | .ok (.enter f args) w' => Calls P f args w' (fun e w'' => ∃ v, e = .returned v ∧ Post v w'')
  | .ok (.round l f tmps assign body) w' => RoundIn (FW none) 0 P l f tmps assign body w' (fun e w'' => ∃ v, e = .returned v ∧ Post v w'')
  | _ => False

/-- The blocks that an operation may turn. -/
def touchO (σ : AS) : Op → List Nat
  | .store _ p _ => namesV (aev σ p)
  | .mapUpdate _ m _ _ => namesV (aev σ m)
  | .convert _ _ x => namesV (aev σ x)
  | .call ⟨.builtin .append, args, _⟩ => match args.toList with
    | [s, _] => namesV (aev σ s)
    | _ => []
  | .call ⟨.builtin .copy, args, _⟩ => match args.toList with
    | [s, _] => namesV (aev σ s)
    | _ => []
  | _ => []

def OpOkS (P : Program) (σ : AS) (o : Oper) (v : AV) (hk : Heap) (ks : List Nat) (h' : Heap) : Prop :=
  ∀ w0 ok0 m ok ρ w, (∀ x ∈ o.op.operands, RepV m ok w (aev σ x) (ρ x)) → HRel w0 ok0 m ok σ.h w →
    ExecOk P ρ o w (fun u w' => ∃ m' ok', Grow hk ks m ok w m' ok' w' ∧ HRel w0 ok0 m' ok' h' w' ∧ RepV m' ok' w' v u ∧ (True → Fr (touchO σ o.op ++ ks) m ok w m' ok' w'))

theorem OpOkP.full' {P : Program} {σ : AS} {o : Oper} {v : AV} (h : OpOkP P σ o v) : OpOkS P σ o v [] [] σ.h := by
  intro w0 ok0 m ok ρ w hx hr
  obtain ⟨u, hu, hv⟩ := h m ok ρ w hx hr.own
  unfold ExecOk
  rw [hu]
  exact ⟨m, ok, Grow.refl _ _ _ _, hr, hv, fun _ => .refl _ _ _ _⟩

theorem exec_value {P : Program} {ρ : Operand → Value} {o : Oper} {w w' : World} {u : Value} {Post : Value → World → Prop} (h : (execOp ρ o).run P w = .ok (.value u) w') (hp : Post u w') : ExecOk P ρ o w Post := by
  unfold ExecOk; rw [h]; exact hp
theorem exec_skip {P : Program} {ρ : Operand → Value} {o : Oper} {w w' : World} {Post : Value → World → Prop} (h : (execOp ρ o).run P w = .ok .skip w') (hp : Post undef w') : ExecOk P ρ o w Post := by
  unfold ExecOk; rw [h]; exact hp

theorem run_value' {P : Program} {s : Sem Value} {u : Value} {w w' : World} (h : s.run P w = .ok u w') : (do pure (Next.value (← s)) : Sem Next).run P w = .ok (.value u) w' := by
  simp [h]

theorem step_alloc {P : Program} {σ : AS} {dst : Option Tmp} {t type : TypeId} {pos : String} {after : Array Edge} {guard : Option (Nat × Bool)} {D : TD} (hD : td P t = some D) {z : List Value} (hz : D.zero = some z) (h1 : z.all (·.oneCell') = true) :
    OpOkS P σ ⟨dst, .alloc t, type, pos, after, guard⟩ (.ptr σ.h.length 0) [] [] (σ.h ++ [some (.var t (z.map cvc))]) := by
  intro w0 ok0 m ok ρ w hx r
  obtain ⟨v, hv, hl⟩ := zeroValue_run hD hz w
  have hrun : (execOp ρ ⟨dst, .alloc t, type, pos, after, guard⟩).run P w = .ok (.value (.pointer (some ⟨w.heap.size, 0, none⟩))) (w.alloc (.cells v.cells t)) := by
    simp only [execOp]
    refine run_value' ?_
    unfold Instr.alloc
    rw [Sem.run_bind, hv]
    simp [newVar, newRow]
  obtain ⟨m', ok', g, r', hv', f⟩ := boxed_ok (t := t) r (v := v) (by rw [hl]; exact cvcs_rep m ok w z) (fun u hu => List.all_eq_true.1 h1 u (by rw [← hl]; exact hu))
  exact exec_value hrun ⟨m', ok', g, r', hv', fun _ => f _⟩

/-- A map of the call's own has turned, and no other block. -/
theorem HRel.writeM {w0 : World} {ok0 : Nat → Prop} {m : List (Option Nat)} {ok : Nat → Prop} {h : Heap} {w : World} (r : HRel w0 ok0 m ok h w) {L b : Nat} {blk blk' : Blk} (hL : h[L]? = some (some blk)) (hm : m[L]? = some (some b)) {l l' : Array MapEntry} {clock clock' : Nat} (hc : w.heap[b]? = some (.map l clock))
    (hb : ∀ w', Grow [] [] m ok w m ok w' → w'.heap[b]? = some (.map l' clock') → OwnB m ok w' L blk') :
    Grow [] [] m ok w m ok { w with heap := w.heap.setIfInBounds b (.map l' clock') } ∧ HRel w0 ok0 m ok (h.set L (some blk')) { w with heap := w.heap.setIfInBounds b (.map l' clock') } ∧ ∀ k, k ≠ b → (w.heap.setIfInBounds b (.map l' clock'))[k]? = w.heap[k]? := by
  obtain ⟨here, other⟩ := MapKept.heap_set (o' := .map l' clock') hc
  have hsize : (w.heap.setIfInBounds b (.map l' clock')).size = w.heap.size := by simp
  have hnb := r.new L b hm
  have hok : ∀ k, ok k → k ≠ b := fun k hk e => r.nok L b blk hL hm (e ▸ hk)
  have g : Grow [] [] m ok w m ok { w with heap := w.heap.setIfInBounds b (.map l' clock') } := ⟨fun _ _ _ h => h, fun _ h => h, fun k o hk => cell_same (other k (hok k hk)), fun L' k s _ _ h1 => by
    unfold World.shape? at *
    by_cases e : k = b
    · subst e
      rw [hc] at h1
      cases h1
    · rw [other k e]; exact h1, ⟨(fun _ _ _ _ _ _ h => by cases h), fun _ _ _ _ h => by cases h⟩, ⟨by rw [hsize]; exact Nat.le_refl _, fun k o hk ho => by
    have hne : k ≠ b := fun e => by
      rw [e, hc] at hk
      cases hk
      simp [isBook] at ho
    exact (other k hne).trans hk⟩⟩
  have hbel : Below w0.heap.size w { w with heap := w.heap.setIfInBounds b (.map l' clock') } := ⟨rfl, rfl, rfl, by rw [hsize]; exact Nat.le_refl _, fun k hk => other k (by omega)⟩
  refine ⟨g, ⟨by simp [r.len], fun L' blk2 hL' => ?_, r.inj, fun L' k blk2 hL' hm' hk => ?_, fun L' k hm' => by rw [hsize]; exact r.new L' k hm', fun k hk => by rw [hsize]; exact r.okb k hk, r.oko, r.bel.trans hbel, r.tab.mono g.mo g.cells⟩, other⟩
  · rw [List.getElem?_set] at hL'
    split at hL'
    · rename_i e
      subst e
      split at hL'
      · cases hL'; exact hb _ g here
      · cases hL'
    · rename_i hne
      exact OwnB.mono g (fun k hk => other k (fun e => hne (r.inj L L' b hm (e ▸ hk)))) (r.own L' blk2 hL')
  · rw [List.getElem?_set] at hL'
    split at hL'
    · rename_i e
      subst e
      rw [hm] at hm'; cases hm'
      exact r.nok L b blk hL hm hk
    · exact r.nok L' k blk2 hL' hm' hk

theorem step_makeMap {P : Program} {σ : AS} {dst : Option Tmp} {t type : TypeId} {rs : Option Operand} {pos : String} {after : Array Edge} {guard : Option (Nat × Bool)} {K : AV → Heap → List Nat → Heap → Prop} (h : mmakA P σ t K (rs.map (aev σ))) :
    ∃ kt, K (.mp σ.h.length) [] [] (σ.h ++ [some (.map kt [])]) ∧ OpOkS P σ ⟨dst, .makeMap t rs, type, pos, after, guard⟩ (.mp σ.h.length) [] [] (σ.h ++ [some (.map kt [])]) := by
  have key : ∀ kt, (∀ (m : List (Option Nat)) (ok : Nat → Prop) (ρ : Operand → Value) (w : World), (∀ x ∈ (Op.makeMap t rs).operands, RepV m ok w (aev σ x) (ρ x)) → (Instr.makeMap t (rs.map ρ)).run P w = .ok (.map (some w.heap.size)) (w.alloc (.map #[] 0))) → OpOkS P σ ⟨dst, .makeMap t rs, type, pos, after, guard⟩ (.mp σ.h.length) [] [] (σ.h ++ [some (.map kt [])]) := fun kt hrun => by
    intro w0 ok0 m ok ρ w hx r
    have hw : Below w.heap.size w (w.alloc (.map #[] 0)) := (Below.refl _ _).alloc (Nat.le_refl _) _
    have hb : OwnB (m ++ [some w.heap.size]) ok (w.alloc (.map #[] 0)) σ.h.length (.map kt []) :=
      ⟨w.heap.size, #[], 0, mget_new r.len, (MapKept.heap_alloc w _).1, MapKept.stamped_empty 0, rfl⟩
    refine exec_value (by simp only [execOp]; exact run_value' (hrun m ok ρ w hx)) ⟨_, ok, grow_new r hw _, r.fresh hw _ (fun b e => by cases e; exact ⟨Nat.le_refl _, by simp⟩) hb, ⟨w.heap.size, mget_new r.len, rfl⟩, fun _ => .new _ m hw _ fun b e => by cases e; exact Nat.le_refl _⟩
  unfold mmakA at h
  split at h
  · rename_i hrs
    obtain ⟨k, e, kt, d, ht, hd, h, hk⟩ := mapT_ex h
    refine ⟨kt, h, key kt fun m ok ρ w hx => ?_⟩
    rw [Option.map_eq_none_iff] at hrs
    subst hrs
    exact run_makeMap t w
  · rename_i q n hrs
    obtain ⟨k, e, kt, d, ht, hd, h, hk⟩ := mapT_ex h
    rw [Option.map_eq_some_iff] at hrs
    obtain ⟨x, rfl, hxv⟩ := hrs
    refine ⟨kt, h, key kt fun m ok ρ w hx => ?_⟩
    have q1 := hx x (by simp [Op.operands])
    rw [hxv] at q1
    simp only [RepV] at q1
    simp [Instr.makeMap, run_underlying ht, q1, asInt, newObj, Sem.run, Result.andThen]
    rfl
  · exact h.elim

theorem step_mapUpdate {P : Program} {σ : AS} {dst : Option Tmp} {t type : TypeId} {mo ko xo : Operand} {pos : String} {after : Array Edge} {guard : Option (Nat × Bool)} {K : AV → Heap → List Nat → Heap → Prop} (h : mupA P σ.h t K (aev σ ko) (aev σ xo) (aev σ mo)) :
    ∃ h', K .junk [] [] h' ∧ OpOkS P σ ⟨dst, .mapUpdate t mo ko xo, type, pos, after, guard⟩ .junk [] [] h' := by
  unfold mupA at h
  split at h
  · rename_i L hL
    split at h
    · rename_i kt es hh
      obtain ⟨k, e, kt', d, ht, hd, ⟨rfl, hisd, h⟩, hk⟩ := mapT_ex h
      obtain ⟨mk, hmk, h2⟩ := elO_ex h
      obtain ⟨hko, hkv⟩ := keyA_ok hmk
      refine ⟨_, h2, fun w0 ok0 m ok ρ w hx r => ?_⟩
      have q1 := hx mo (by simp [Op.operands])
      have q2 := hx ko (by simp [Op.operands])
      have q3 := isD_ok _ hisd (hx xo (by simp [Op.operands]))
      rw [hL] at q1
      rw [hkv] at q2
      obtain ⟨b, hm, hv⟩ := q1
      simp only [RepV] at q2
      obtain ⟨b', l, clock, hm', hb, hst, hr⟩ := r.own L _ hh
      rw [hm] at hm'; cases hm'
      obtain ⟨l', clock', hrun, hst', hr'⟩ := run_mput ht hd hk hko hb hst hr q3
      obtain ⟨g, r', other⟩ := r.writeM hh hm (l' := l') (clock' := clock') (blk' := .map kt' (mput mk (aev σ xo) es)) hb fun w' g hw' => ⟨b, l', clock', hm, hw', hst', hr'.mono g.mo g.cells⟩
      refine exec_skip (w' := { w with heap := w.heap.setIfInBounds b (.map l' clock') }) ?_ ⟨m, ok, g, r', trivial, fun _ => .write hm (by simp [touchO, hL, namesV]) other⟩
      simp only [execOp, hv, q2, Sem.run_bind]
      rw [hrun]
      rfl
    · exact h.elim
  · exact h.elim

theorem step_box {P : Program} {σ : AS} {dst : Option Tmp} {t type : TypeId} {x : Operand} {pos : String} {after : Array Edge} {guard : Option (Nat × Bool)} (hc : cellOk (aev σ x) = true) :
    OpOkS P σ ⟨dst, .box t x, type, pos, after, guard⟩ (.ptr σ.h.length 0) [] [] (σ.h ++ [some (.var t (cellsA (aev σ x)))]) := by
  intro w0 ok0 m ok ρ w hx r
  obtain ⟨h1, h2⟩ := cells_ok hc (hx x (by simp [Op.operands]))
  have hrun : (execOp ρ ⟨dst, .box t x, type, pos, after, guard⟩).run P w = .ok (.value (.pointer (some ⟨w.heap.size, 0, none⟩))) (w.alloc (.cells (ρ x).cells t)) := by
    simp [execOp, Instr.box, newVar, newRow]
  obtain ⟨m', ok', g, r', hv', f⟩ := boxed_ok (t := t) r h1 h2
  exact exec_value hrun ⟨m', ok', g, r', hv', fun _ => f _⟩

theorem run_storeAt {P : Program} {t : TypeId} {D : TD} (hD : td P t = some D) {w : World} {b o : Nat} {v : Value} (hs : v.cells.toList.length = D.size) {cs : Array Value} {ty : TypeId} {fz : Nat × Nat} (hb : w.heap[b]? = some (.cells cs ty fz)) (hfz : tailOk' fz cs.size) (hl : o + v.cells.toList.length ≤ cs.size) (h1 : ∀ u ∈ v.cells.toList, u.oneCell' = true) :
    (Instr.storeAt t (.pointer (some ⟨b, o, none⟩)) v).run P w = .ok () (w.setRow b (cs.toList.take o ++ v.cells.toList ++ cs.toList.drop (o + v.cells.toList.length)).toArray) := by
  have := run_storeCells_atT P b o ty fz v.cells.toList 0 cs w hb hfz (by simpa using hl) h1
  simp only [Nat.add_zero] at this
  unfold Instr.storeAt storeVar
  simp only [Instr.sureAddr, Sem.run_bind, Sem.run_pure, Result.andThen_ok, sizeOf_run hD]
  have hs' : v.cells.size = D.size := by simpa using hs
  simp [hs', this]

theorem splice_get {α : Type} {cs us : List α} {o k : Nat} (h : o + us.length ≤ cs.length) : (cs.take o ++ us ++ cs.drop (o + us.length))[k]? = if o ≤ k ∧ k < o + us.length then us[k - o]? else cs[k]? := by
  simp only [List.getElem?_append, List.length_append, List.length_take, List.getElem?_take, List.getElem?_drop]
  grind

theorem step_store {P : Program} {σ : AS} {dst : Option Tmp} {t type : TypeId} {p x : Operand} {pos : String} {after : Array Edge} {guard : Option (Nat × Bool)} {D : TD} (hD : td P t = some D) (hc : cellOk (aev σ x) = true) (hl : (cellsA (aev σ x)).length = D.size) {K : Heap → Prop}
    (h : storeA σ.h (aev σ p) (cellsA (aev σ x)) K) : ∃ h', K h' ∧ OpOkS P σ ⟨dst, .store t p x, type, pos, after, guard⟩ .junk [] [] h' := by
  unfold storeA at h
  split at h
  · rename_i L j hp
    split at h
    · rename_i ty cs hL
      obtain ⟨hle, hK⟩ := h
      refine ⟨_, hK, fun w0 ok0 m ok ρ w hx r => ?_⟩
      obtain ⟨hr, h1⟩ := cells_ok hc (hx x (by simp [Op.operands]))
      have hpp := hx p (by simp [Op.operands])
      rw [hp] at hpp
      obtain ⟨b, hm, hpv⟩ := hpp
      obtain ⟨b', vs, hm', hb, hvs, hv1⟩ := r.own L _ hL
      rw [hm] at hm'; cases hm'
      have hlen := hr.length
      have hlv := hvs.length
      have hrun := run_storeAt (P := P) hD (v := ρ x) (o := j) (by omega) hb (.inl rfl) (by simp at hlv; omega) h1
      refine exec_skip (w' := w.setRow b (vs.toList.take j ++ (ρ x).cells.toList ++ vs.toList.drop (j + (ρ x).cells.toList.length)).toArray) (by simp only [execOp, hpv, Sem.run_bind]; rw [hrun]; rfl) ?_
      obtain ⟨g, r'⟩ := r.write hL hm hb (cs' := (vs.toList.take j ++ (ρ x).cells.toList ++ vs.toList.drop (j + (ρ x).cells.toList.length)).toArray) (blk' := .var ty (setAll cs j (cellsA (aev σ x)))) (by simp at hlv hlen ⊢; omega) fun w' g hw' => by
        refine ⟨b, _, hm, hw', ?_, fun u hu => ?_⟩
        · rw [setAll_eq _ _ _ hle]
          have a1 := RepL.mono g _ hvs
          have a2 := RepL.mono g _ hr
          have := ((a1.take j).append a2).append (a1.drop (j + (cellsA (aev σ x)).length))
          rw [hlen]
          exact this
        · simp only [List.toList_toArray, List.mem_append] at hu
          rcases hu with (hu | hu) | hu
          · exact hv1 u (List.mem_of_mem_take hu)
          · exact h1 u hu
          · exact hv1 u (List.mem_of_mem_drop hu)
      exact ⟨m, ok, g, r', trivial, fun _ => .write hm (by simp [touchO, hp, namesV]) (fun k hk => setRow_other w b k _ hk)⟩
    · exact h.elim
  · rename_i L i j hp
    split at h
    · rename_i e st es hL
      obtain ⟨hst, him, hd, h⟩ := h
      obtain ⟨y, hy, hle, hK⟩ := elO_ex h
      have hii : i / st * st = i := by have := Nat.div_add_mod i st; rw [Nat.mul_comm] at this; omega
      refine ⟨_, hK, fun w0 ok0 m ok ρ w hx r => ?_⟩
      obtain ⟨hr, h1⟩ := cells_ok hc (hx x (by simp [Op.operands]))
      have hpp := hx p (by simp [Op.operands])
      rw [hp] at hpp
      obtain ⟨b, hm, hpv⟩ := hpp
      obtain ⟨ob, hm', hvs⟩ := r.own L _ hL
      rw [hm] at hm'; cases hm'
      obtain ⟨cs, ⟨fz, hb, hfz⟩, hlc, hvs⟩ := hvs
      have hlen := hr.length
      have hyl := (hvs _ y hy).1
      have hilt : i / st < es.length := (List.getElem?_eq_some_iff.1 hy).1
      have hroom : i + st ≤ cs.size := by
        have : (i / st + 1) * st ≤ es.length * st := Nat.mul_le_mul_right _ hilt
        rw [Nat.add_mul, Nat.one_mul, hii] at this
        omega
      have hrun := run_storeAt (P := P) hD (v := ρ x) (o := i + j) (by omega) hb hfz (by omega) h1
      refine exec_skip (w' := w.setRow b (cs.toList.take (i + j) ++ (ρ x).cells.toList ++ cs.toList.drop (i + j + (ρ x).cells.toList.length)).toArray) (by simp only [execOp, hpv, Sem.run_bind]; rw [hrun]; rfl) ?_
      obtain ⟨g, r'⟩ := r.write hL hm hb (cs' := (cs.toList.take (i + j) ++ (ρ x).cells.toList ++ cs.toList.drop (i + j + (ρ x).cells.toList.length)).toArray) (blk' := .row e st (es.set (i / st) (setAll y j (cellsA (aev σ x))))) (by simp at hlen ⊢; omega) fun w' g hw' => by
        refine ⟨some b, hm, _, ⟨fz, hw', by
          have e1 : (cs.toList.take (i + j) ++ (ρ x).cells.toList ++ cs.toList.drop (i + j + (ρ x).cells.toList.length)).toArray.size = cs.size := by simp at hlen ⊢; omega
          rw [e1]; exact hfz⟩, by simp at hlen ⊢; omega, fun k q hq => ?_⟩
        have get : ∀ n, (cs.toList.take (i + j) ++ (ρ x).cells.toList ++ cs.toList.drop (i + j + (ρ x).cells.toList.length)).toArray[n]? = if i + j ≤ n ∧ n < i + j + (ρ x).cells.toList.length then (ρ x).cells.toList[n - (i + j)]? else cs[n]? := fun n => by
          rw [List.getElem?_toArray, splice_get (by simp only [Array.length_toList] at hlen ⊢; omega)]
          simp
        rw [List.getElem?_set] at hq
        split at hq
        · rename_i e1
          subst e1
          cases hq
          refine ⟨by rw [setAll_length, hyl], fun n z hz => ?_⟩
          have hnl : n < st := by
            have := (List.getElem?_eq_some_iff.1 hz).1
            rw [setAll_length] at this
            omega
          rw [setAll_eq _ _ _ hle, splice_get hle] at hz
          rw [hii, get]
          by_cases hin : j ≤ n ∧ n < j + (cellsA (aev σ x)).length
          · rw [if_pos (by omega)]
            rw [if_pos hin] at hz
            obtain ⟨u, hu, hv⟩ := (RepL.mono g _ hr).get hz
            exact ⟨u, by rw [show i + n - (i + j) = n - j by omega]; exact hu, h1 u (List.mem_of_getElem? hu), isD_ok z (isDL_get hd hz) hv⟩
          · rw [if_neg (by omega)]
            rw [if_neg hin] at hz
            have hz' := hz
            obtain ⟨u, hu, hu1, hv⟩ := (hvs _ y hy).2 n z hz'
            rw [hii] at hu
            exact ⟨u, hu, hu1, RepD.mono g.mo g.cells z hv⟩
        · rename_i e1
          obtain ⟨a1, a2⟩ := hvs k q hq
          refine ⟨a1, fun n z hz => ?_⟩
          obtain ⟨u, hu, hu1, hv⟩ := a2 n z hz
          have hnl : n < st := by rw [← a1]; exact (List.getElem?_eq_some_iff.1 hz).1
          rw [get, if_neg]
          · exact ⟨u, hu, hu1, RepD.mono g.mo g.cells z hv⟩
          · rintro ⟨b1, b2⟩
            rcases Nat.lt_or_gt_of_ne e1 with h2 | h2
            · have := Nat.mul_le_mul_right st (show i / st + 1 ≤ k by omega)
              rw [Nat.add_mul, Nat.one_mul, hii] at this
              omega
            · have := Nat.mul_le_mul_right st (show k + 1 ≤ i / st by omega)
              rw [Nat.add_mul, Nat.one_mul, hii] at this
              omega
      exact ⟨m, ok, g, r', trivial, fun _ => .write hm (by simp [touchO, hp, namesV]) (fun k hk => setRow_other w b k _ hk)⟩
    · exact h.elim
  · exact h.elim
end

-- part 11
section
open RowKit
theorem cvc_repD (ok : Nat → Prop) (w : World) (v : Value) : RepD ok w (cvc v) v := by
  unfold cvc
  split <;> simp [RepD]

theorem madeCells_get (z : Array Value) (n k : Nat) (hk : k < n) (hz : 0 < z.size) : (madeCells z n)[k]? = some (z[k % z.size]'(Nat.mod_lt _ hz)) := by
  unfold madeCells
  rw [Array.getElem?_map, Array.getElem?_range, if_pos hk]
  simp [Nat.mod_lt _ hz]

theorem zeros_idx (ok : Nat → Prop) (w : World) {z : List Value} (h1 : ∀ u ∈ z, u.oneCell' = true) (hz : 0 < z.length) (a n : Nat) (ha : a ≤ n) (zv : Array Value) (hzv : zv.toList = z) :
    IdxR ok w z.length (List.replicate a (z.map cvc)) ((madeCells zv (n * z.length)).toList.take (a * z.length)) := by
  have hzs : zv.size = z.length := by rw [← hzv]; simp
  have get : ∀ k, k < a * z.length → ((madeCells zv (n * z.length)).toList.take (a * z.length))[k]? = some (z[k % z.length]'(Nat.mod_lt _ hz)) := fun k hk => by
    have hle : a * z.length ≤ n * z.length := Nat.mul_le_mul_right _ ha
    rw [List.getElem?_take, if_pos hk, Array.getElem?_toList, madeCells_get zv _ k (by omega) (by omega)]
    subst hzv
    simp
  have hsz : (madeCells zv (n * z.length)).size = n * z.length := size_madeCells _ _
  have hle : a * z.length ≤ n * z.length := Nat.mul_le_mul_right _ ha
  refine ⟨by rw [List.length_take, List.length_replicate, Array.length_toList (xs := madeCells zv (n * z.length)), hsz, Nat.min_eq_left hle], fun u hu => ?_, fun i e he => ?_⟩
  · obtain ⟨k, hk, rfl⟩ := List.getElem_of_mem hu
    have hk2 : k < a * z.length := by simp at hk; omega
    have := get k hk2
    rw [List.getElem?_eq_getElem hk] at this
    rw [Option.some.inj this]
    exact h1 _ (List.getElem_mem _)
  · rw [List.getElem?_replicate] at he
    split at he
    · rename_i hi
      cases he
      refine ⟨by simp, fun j y hy => ?_⟩
      rw [List.getElem?_map, Option.map_eq_some_iff] at hy
      obtain ⟨v, hv, rfl⟩ := hy
      have hj := (List.getElem?_eq_some_iff.1 hv).1
      refine ⟨v, ?_, cvc_repD _ _ _⟩
      rw [get _ (idx_lt hi hj)]
      have : (i * z.length + j) % z.length = j := by rw [Nat.mul_comm, Nat.mul_add_mod, Nat.mod_eq_of_lt hj]
      have hv2 := (List.getElem?_eq_some_iff.1 hv).2
      simp only [this]
      rw [hv2]
    · cases he

theorem step_make {P : Program} {σ : AS} {dst : Option Tmp} {t e type : TypeId} {l c : Operand} {pos : String} {after : Array Edge} {guard : Option (Nat × Bool)} {D E : TD} (hD : td P t = some D) (he : D.elem = some e) (hE : td P e = some E) {z : List Value} (hz : E.zero = some z) (h1 : z.all (·.oneCell') = true) (hzl : z.length = E.size) (hsz : 0 < E.size)
    {k k' : IntKind} {a b : Int} (hl : aev σ l = .c (.int k a)) (hc : aev σ c = .c (.int k' b)) (h0 : 0 ≤ a) (hab : a ≤ b) (hby : (E.bytes : Int) * b ≤ 140737488355328) (h63 : b ≤ 9223372036854775807) :
    OpOkS P σ ⟨dst, .makeSlice t l c, type, pos, after, guard⟩ (.own σ.h.length E.size a.toNat) [] [] (σ.h ++ [some (.row e E.size (List.replicate a.toNat (z.map cvc)))]) := by
  intro w0 ok0 m ok ρ w hx r
  have q1 := hx l (by simp [Op.operands])
  have q2 := hx c (by simp [Op.operands])
  rw [hl] at q1
  rw [hc] at q2
  simp only [RepV] at q1 q2
  obtain ⟨u, i, hu, hi, rfl⟩ := td_some hD
  obtain ⟨u2, i2, hu2, hi2, rfl⟩ := td_some hE
  obtain rfl := elemD_some he
  simp only [Option.map_eq_some_iff] at hz
  obtain ⟨zv, hzv, rfl⟩ := hz
  simp only at hzl hsz hby
  have hrun := run_make (P := P) w t e i2 zv hu hi2 hzv k k' a b h0 hab (by omega) h63
  have hb0 : b.toNat * i2.size = b.toNat * zv.cells.toList.length := by rw [hzl]
  refine exec_value (w' := w.alloc (.cells (madeCells zv.cells (b.toNat * i2.size)) e)) (u := .slice (some ⟨w.heap.size, 0, none⟩) a.toNat b.toNat) (by simp only [execOp, q1, q2]; exact run_value' hrun) ?_
  have key : OwnB (m ++ [some w.heap.size]) ok (w.alloc (.cells (madeCells zv.cells (b.toNat * i2.size)) e)) σ.h.length (.row e i2.size (List.replicate a.toNat (zv.cells.toList.map cvc))) := by
    refine OwnB.of_idx (mget_new r.len) (.plain (heap_alloc_new w _)) ?_
    rw [List.length_replicate, ← hzl]
    exact zeros_idx ok _ (fun q hq => List.all_eq_true.1 h1 q hq) (by omega) a.toNat b.toNat (by omega) zv.cells rfl
  obtain ⟨g, r'⟩ := r.alloc _ e key
  refine ⟨_, ok, g, r', ⟨some w.heap.size, mget_new r.len, b.toNat, e, rfl, by omega, by unfold maxLen; omega, ?_⟩, fun _ => .new _ m ((Below.refl _ _).alloc (Nat.le_refl _) _) _ fun b e => by cases e; exact Nat.le_refl _⟩
  unfold World.shape?
  rw [heap_alloc_new]
  simp [size_madeCells]

theorem step_call {P : Program} {σ : AS} {dst : Option Tmp} {type : TypeId} {f : Operand} {args : Array Operand} {ats : Array TypeId} {pos : String} {after : Array Edge} {guard : Option (Nat × Bool)} {g : FuncId} {cap : List AV} (hf : aev σ f = .fn g cap) {ds : List AV} (hds : toDL σ.h (args.toList.map (aev σ) ++ cap) = some ds) {res : AV} (hm : Meets P g ds res) :
    (∀ (hk : Heap) (ks : List Nat) (h' : Heap), (if (flat res || (ownsL (args.toList.map (aev σ) ++ cap)).isEmpty) = true then hk = [] ∧ ks = [] ∧ h' = σ.h
      else hk = σ.h ∧ ks = ownsL (args.toList.map (aev σ) ++ cap) ∧ h' = killH σ.h (ownsL (args.toList.map (aev σ) ++ cap)) (dropL (ownsL (args.toList.map (aev σ) ++ cap)) σ.h)) →
      OpOkS P σ ⟨dst, .call ⟨.value f, args, ats⟩, type, pos, after, guard⟩ res hk ks h') := by
  intro hk ks h' hcase w0 ok0 m ok ρ w hx r
  have q1 := hx f (by simp [Op.operands, Call.operands])
  rw [hf] at q1
  obtain ⟨vc, hv, hcap⟩ := q1
  have hargs : RepL m ok w (args.toList.map (aev σ)) (args.map ρ).toList := by
    refine RepL.of (by simp) fun i a b h1 h2 => ?_
    simp only [List.getElem?_map, Array.toList_map, Option.map_eq_some_iff] at h1 h2
    obtain ⟨q, h1, rfl⟩ := h1
    obtain ⟨q', h2, rfl⟩ := h2
    rw [h1] at h2; cases h2
    exact hx q (by simp [Op.operands, Call.operands]; exact Or.inr (by simpa using List.mem_of_getElem? h1))
  have hall := hargs.append hcap
  generalize hK : ownsL (args.toList.map (aev σ) ++ cap) = K at *
  have hd := toDL_ok r.own _ hds hall
  rw [hK] at hd
  have hokx : ∀ b, okx m ok K b → b < w.heap.size := fun b hb => by
    rcases hb with hb | ⟨L, _, hb⟩
    · exact r.okb b hb
    · exact (r.new L b hb).2
  have hcall := hm.2 (okx m ok K) w _ ⟨hokx, r.tab.mono (fun b h => Or.inl h) fun _ _ _ => rfl⟩ hd
  have hrun : (execOp ρ ⟨dst, .call ⟨.value f, args, ats⟩, type, pos, after, guard⟩).run P w = .ok (.enter g ((args.map ρ).toList ++ vc.toList).toArray) w := by
    have e1 : ((args.map ρ).toList ++ vc.toList).toArray = args.map ρ ++ vc := by
      apply Array.ext'
      simp
    rw [e1]
    simp only [execOp, resolve, hv, Deferred.ofValue, Sem.run_bind, Sem.run_pure, Result.andThen_ok, invoke, Array.empty_append]
    exact hm.1 _ w
  unfold ExecOk
  rw [hrun]
  refine hcall.mono fun e w' hp => ?_
  obtain ⟨v, he, hres, hB⟩ := hp
  refine ⟨v, he, ?_⟩
  split at hcase
  · rename_i hc
    obtain ⟨rfl, rfl, rfl⟩ := hcase
    obtain ⟨g', r'⟩ := r.grown hB (ok' := fun b => ok b ∨ (w.heap.size ≤ b ∧ b < w'.heap.size)) (fun b hb => Or.inl hb) (fun b hb => hb)
    refine ⟨m, _, g', r', ?_, fun _ => .below _ m hB fun b hb => hb.imp id And.left⟩
    rcases Bool.or_eq_true_iff.1 hc with hfl | hem
    · exact RepD.up _ (flat_ok res hfl hres)
    · obtain rfl : K = [] := by simpa using hem
      refine RepD.up _ (RepD.mono (fun b hb => ?_) (fun _ _ _ => rfl) res hres)
      rcases hb with (hb | ⟨L, hL, _⟩) | hb
      · exact Or.inl hb
      · cases hL
      · exact Or.inr hb
  · obtain ⟨rfl, rfl, rfl⟩ := hcase
    obtain ⟨g1, r1⟩ := r.freeze ks
    obtain ⟨g2, r2⟩ := r1.grown hB (ok' := fun b => okx m ok ks b ∨ (w.heap.size ≤ b ∧ b < w'.heap.size)) (fun b hb => Or.inl hb) (fun b hb => hb)
    refine ⟨m, _, g1.then g2, r2, RepD.up _ hres, fun _ => ⟨fun b hb _ => hB.block b hb, fun _ _ _ h => h, fun _ _ h => Or.inl h, fun b hb => ?_⟩⟩
    rcases hb with (hb | ⟨L, hL, hb⟩) | hb
    · exact Or.inl hb
    · exact Or.inr (Or.inr ⟨L, by simp [hL], hb⟩)
    · exact Or.inr (Or.inl hb.1)
end

-- part 12
section
open RowKit
theorem elemsN_ok {m : List (Option Nat)} {ok : Nat → Prop} {h : Heap} {w : World} (ho : HOwn m ok h w) {x : AV} {st : Nat} {es : List (List AV)} (he : elemsN h st x = some es) {v : Value} (hr : RepV m ok w x v) :
    ∃ A cap l, v = .slice A es.length cap ∧ IdxR ok w st es l ∧ (∀ a, A = some a → ∀ (j : Nat) u, l[j]? = some u → w.cell? (a.add j) = some u) ∧ (A = none → es = []) := by
  unfold elemsN at he
  split at he
  · cases he
    simp only [RepV] at hr
    subst hr
    exact ⟨none, 0, [], rfl, IdxR.nil _ _ _, fun a ha => (by cases ha), fun _ => rfl⟩
  · split at he
    · rename_i st' es' hel
      split at he
      · rename_i hst
        subst hst
        cases he
        exact elems_ok ho hel hr
      · cases he
    · cases he

theorem args2 {args : Array Operand} {s x : Operand} (h : args.toList = [s, x]) : args = #[s, x] := by cases args; simpa using h
theorem ats2 {args : Array TypeId} {s x : TypeId} (h : args.toList = [s, x]) : args = #[s, x] := by cases args; simpa using h

theorem append_run {P : Program} {dst : Option Tmp} {s x : Operand} {t type : TypeId} {pos : String} {after : Array Edge} {guard : Option (Nat × Bool)} {ρ : Operand → Value} {w w' : World} {v : Value} (h : (Builtin.append_ #[t, t] type #[ρ s, ρ x]).run P w = .ok v w') :
    (execOp ρ ⟨dst, .call ⟨.builtin .append, #[s, x], #[t, t]⟩, type, pos, after, guard⟩).run P w = .ok (.value v) w' := by
  simp only [execOp, resolve, Sem.run_bind]
  simp [invoke, builtin, h]

theorem step_app_own {P : Program} {σ : AS} {dst : Option Tmp} {t e type : TypeId} {s x : Operand} {pos : String} {after : Array Edge} {guard : Option (Nat × Bool)} {D E : TD} (hD : td P t = some D) (he : D.elem = some e) (hE : td P e = some E) {z : List Value} (hz : E.zero = some z) (hzl : z.length = E.size) (hsz : 0 < E.size)
    {es' : List (List AV)} (hx' : elemsN σ.h E.size (aev σ x) = some es') {L n : Nat} (hs : aev σ s = .own L E.size n) (hrow : rowE σ.h L = some e) {p : Nat × List (List AV)} (hp : elemsA σ.h (.own L E.size n) = some p)
    (hb : (n + es'.length) * E.bytes ≤ 140737488355328) (h63 : n + es'.length ≤ 9223372036854775807) :
    OpOkS P σ ⟨dst, .call ⟨.builtin .append, #[s, x], #[t, t]⟩, type, pos, after, guard⟩ (.own L E.size (n + es'.length)) [] [L] ((killH [] [L] σ.h).set L (some (.row e E.size (p.2 ++ es')))) := by
  intro w0 ok0 m ok ρ w hx r
  have q1 := hx s (by simp [Op.operands, Call.operands])
  have q2 := hx x (by simp [Op.operands, Call.operands])
  rw [hs] at q1
  obtain ⟨A, cap, news, hxv, hi, hcell, hnil⟩ := elemsN_ok r.own hx' q2
  obtain ⟨ob, hm, hov⟩ := q1
  unfold rowE at hrow
  split at hrow
  · rename_i ty st2 es2 hL
    cases hrow
    simp only [elemsA, hL] at hp
    split at hp
    · rename_i hcn
      obtain ⟨rfl, hn⟩ := hcn
      cases hp
      obtain ⟨uD, iD, huD, hiD, rfl⟩ := td_some hD
      obtain rfl := elemD_some he
      have hz0 : w0.heap.size ≤ w.heap.size := r.bel.size
      -- the row as it lay
      have hown : ∃ xs, OwnsT w 0 e E.size (ρ s) n xs ∧ IdxR ok w E.size (es2.take n) xs ∧ (ρ s).ownBlock = ob := by
        cases ob with
        | none =>
          obtain ⟨rfl, hv⟩ := hov
          refine ⟨[], ?_, ?_, by rw [hv]; rfl⟩
          · rw [hv]; exact OwnsT.nil w 0 e E.size
          · rw [List.take_zero]; exact IdxR.nil _ _ _
        | some b =>
          obtain ⟨cap', t', hv, hnc, hcm, hsh⟩ := hov
          obtain ⟨cs, hbk, hidx⟩ := (r.own L _ hL).idx hm hn
          have hcs : cs.size = cap' * E.size := by
            rw [hbk.shape] at hsh
            simp only [Option.some.injEq, Prod.mk.injEq] at hsh
            exact hsh.2
          refine ⟨cs.toList.take (n * E.size), ⟨?_, Or.inr ⟨b, cap', cs, hv, Nat.zero_le _, hbk, hnc, hcm, hcs, rfl⟩⟩, hidx, by rw [hv]; rfl⟩
          have := Nat.mul_le_mul_right E.size hnc
          rw [List.length_take, Array.length_toList (xs := cs), hcs, Nat.min_eq_left this]
      obtain ⟨xs, how, hidx, hob⟩ := hown
      obtain ⟨v', w', hrun, how', hgr, hblk⟩ := run_app (P := P) (ty := type) huD hE hz hzl hsz (base := 0) (Nat.zero_le _) how (c := cap) hi.1 hcell (fun h => by rw [hnil h]; rfl) hi.2.1 (by unfold maxLen; omega) hb
      rw [← hxv] at hrun
      rw [hob] at hgr hblk
      refine exec_value (append_run hrun) ?_
      have hlen : (xs ++ news).length = (es2.take n ++ es').length * E.size := by
        rw [List.length_append, hidx.1, hi.1, List.length_append, Nat.add_mul]
      have hle : n + es'.length = (es2.take n ++ es').length := by rw [List.length_append, List.length_take, Nat.min_eq_left hn]
      have hv' : OwnV w' E.size (n + es'.length) v' v'.ownBlock := by
        rcases how'.2 with ⟨h1, h2⟩ | ⟨g, cap2, cur, h1, _, h3, h4, h5, h6, h7⟩
        · rw [h1]; exact ⟨h2, rfl⟩
        · rw [h1]
          exact ⟨cap2, e, rfl, h4, h5, by rw [h3.shape]; simp [h6]⟩
      obtain ⟨g, r'⟩ := r.turn hL hm hgr (ob' := v'.ownBlock) (blk' := .row e E.size (es2.take n ++ es')) (fun b hb' => by
        refine ⟨?_, ?_⟩
        · rcases hblk with h1 | h1
          · rw [h1] at hb'; exact Or.inl hb'
          · rw [h1] at hb'; cases hb'; exact Or.inr (Nat.le_refl _)
        · rcases how'.2 with ⟨h1, h2⟩ | ⟨gg, cap2, cur, h1, _, h3, h4, h5, h6, h7⟩
          · rw [h1] at hb'; cases hb'
          · rw [h1] at hb'; cases hb'; exact h3.lt) (fun g => by
        have hmm : (m.set L v'.ownBlock)[L]? = some v'.ownBlock := by
          rw [List.getElem?_set, if_pos rfl, if_pos (List.getElem?_eq_some_iff.1 hm).1]
        rcases how'.2 with ⟨h1, h2⟩ | ⟨gg, cap2, cur, h1, _, h3, h4, h5, h6, h7⟩
        · rw [h1] at hmm ⊢
          exact ⟨none, hmm, List.eq_nil_of_length_eq_zero (by rw [← hle, h2])⟩
        · rw [h1] at hmm ⊢
          refine OwnB.of_idx hmm h3 ?_
          rw [← hle, h7]
          exact (hidx.append hi).mono g.mo g.cells)
      refine ⟨_, ok, g, r', ⟨v'.ownBlock, ?_, hv'⟩, fun _ => .turn hm (by simp [touchO, hs, namesV]) hgr (fun b hb' => by
        rcases hblk with h1 | h1
        · rw [h1] at hb'; exact Or.inl hb'
        · rw [h1] at hb'; cases hb'; exact Or.inr (Nat.le_refl _))⟩
      rw [List.getElem?_set, if_pos rfl, if_pos (List.getElem?_eq_some_iff.1 hm).1]
    · cases hp
  · cases hrow

theorem append_run2 {P : Program} {dst : Option Tmp} {s x : Operand} {t tu type : TypeId} {pos : String} {after : Array Edge} {guard : Option (Nat × Bool)} {ρ : Operand → Value} {w w' : World} {v : Value} (h : (Builtin.append_ #[t, tu] type #[ρ s, ρ x]).run P w = .ok v w') :
    (execOp ρ ⟨dst, .call ⟨.builtin .append, #[s, x], #[t, tu]⟩, type, pos, after, guard⟩).run P w = .ok (.value v) w' := by
  simp only [execOp, resolve, Sem.run_bind]
  simp [invoke, builtin, h]

theorem strE_length (s : ByteArray) : (strE s).length = s.size := by
  rw [strE, List.length_map, Array.length_toList]
  rfl
theorem strE_idx (ok : Nat → Prop) (w : World) (s : ByteArray) : IdxR ok w 1 (strE s) (Lib.strCells s) := by
  refine ⟨by rw [Lib.strCells_length, strE_length, Nat.mul_one], Lib.strCells_oneCell s, fun i e he => ?_⟩
  unfold strE at he
  rw [List.getElem?_map, Option.map_eq_some_iff] at he
  obtain ⟨b, hb, rfl⟩ := he
  refine ⟨rfl, fun j y hy => ?_⟩
  cases j with
  | zero =>
    cases hy
    exact ⟨.int .u8 b.toNat, by rw [Nat.mul_one, Nat.add_zero, Lib.strCells, List.getElem?_map, hb]; rfl, rfl⟩
  | succ j => simp at hy

/-- Appending a string's bytes onto a row of the call's own. -/
theorem run_app_str {P : Program} {t u ty e : TypeId} {i : TypeInfo} (ht : P.underlying t = some (.slice e)) (hu : P.underlying u = some .string) (hi : P.info? e = some i) {zv : Value} (hz : i.zero = some zv) (hzs : zv.cells.size = 1) (hsize : i.size = 1) (hby : i.bytes = 1)
    {w : World} {base : Nat} (hbase : base ≤ w.heap.size) {v : Value} {n : Nat} {xs : List Value} (hown : OwnsT w base e 1 v n xs) (s : ByteArray) (h63 : n + s.size ≤ maxLen) (hb : n + s.size ≤ 140737488355328) :
    ∃ v' w', (Builtin.append_ #[t, u] ty #[v, .string s]).run P w = .ok v' w' ∧ OwnsT w' base e 1 v' (n + s.size) (xs ++ Lib.strCells s) ∧ w.grownBy w' v.ownBlock ∧ ∀ b, v'.ownBlock = some b → v.ownBlock = some b ∨ w.heap.size ≤ b := by
  have hsmall : n + s.size ≤ 9223372036854775807 := by simp only [maxLen] at h63; omega
  have hxl : xs.length = n := by simpa using hown.1
  have hlen : (xs ++ Lib.strCells s).length = (n + s.size) * 1 := by rw [List.length_append, hxl, Lib.strCells_length, Nat.mul_one]
  have grown : ∀ (old : Nat), old < n + s.size → ∀ (row : Option Nat),
      OwnsT (w.drew.alloc (.cells (xs.toArray ++ (Lib.strCells s).toArray ++ Builtin.zeroCells zv.cells (grownCap w (n + s.size) old e - (n + s.size))) e)) base e 1
        (.slice (some ⟨w.heap.size, 0, none⟩) (n + s.size) (grownCap w (n + s.size) old e)) (n + s.size) (xs ++ Lib.strCells s) ∧
      w.grownBy (w.drew.alloc (.cells (xs.toArray ++ (Lib.strCells s).toArray ++ Builtin.zeroCells zv.cells (grownCap w (n + s.size) old e - (n + s.size))) e)) row := by
    intro old ho row
    have hge := grownCap_ge w (n + s.size) old e
    have hcm : grownCap w (n + s.size) old e ≤ maxLen := grownCap_le_maxLen w (n + s.size) old e h63
    refine ⟨⟨hlen, .inr ⟨w.heap.size, _, _, rfl, hbase, .plain (heap_alloc_new w.drew _), hge, hcm, ?_, ?_⟩⟩, ⟨rfl, rfl, rfl, by simp, fun k hk _ => heap_alloc_old w.drew _ hk⟩⟩
    · simp only [Array.size_append, List.size_toArray, size_zeroCells, hzs, hxl, Lib.strCells_length]
      omega
    · simp only [Array.toList_append, List.append_assoc]
      rw [← List.append_assoc, ← hlen]
      exact List.take_left
  rcases hown.2 with ⟨rfl, rfl⟩ | ⟨g, cap, cur, rfl, hbg, hg, hnc, hcm, hcs, htake⟩
  · have hx : xs = [] := List.eq_nil_of_length_eq_zero hxl
    subst hx
    by_cases hm : s.size = 0
    · have hn : Lib.strCells s = [] := List.eq_nil_of_length_eq_zero (by rw [Lib.strCells_length]; exact hm)
      refine ⟨.slice none 0 0, w, ?_, by rw [hm, hn]; exact OwnsT.nil w base e 1, ⟨rfl, rfl, rfl, Nat.le_refl _, fun _ _ _ => rfl⟩, fun b hb' => Or.inl hb'⟩
      have hf := Lib.run_firstCells_string (P := P) w 1 s
      rw [hm] at hf
      simp [Builtin.append_, run_underlying ht, run_underlying hu, sizeOf, typeInfo, hi, hsize, Builtin.lenOf, hm, hf]
    · have hr := run_append_nil_string (P := P) w t u ty e i zv ht hu hi hz s (by omega) (by omega) (by rw [hby]; omega)
      have hgr := grown 0 (by omega) (Value.ownBlock (.slice none 0 0))
      simp only [Nat.zero_add, List.nil_append, Array.empty_append] at hgr ⊢
      have e1 : (s.data.map fun b => Value.int .u8 b.toNat) = (Lib.strCells s).toArray := by
        apply Array.ext'
        simp [Lib.strCells]
      rw [e1] at hr
      exact ⟨_, _, hr, hgr.1, hgr.2, fun b hb' => by cases hb'; exact Or.inr (Nat.le_refl _)⟩
  · by_cases hroom : n + s.size ≤ cap
    · have hcs' : cur.size = cap := by simpa using hcs
      obtain ⟨fz, hg1, hfz⟩ := hg
      have hr := run_append_room_stringT (P := P) w (ty := ty) ht hu hi hsize g n cap cur fz hg1 hfz s hroom (by omega)
      have hz2 : (cur.toList.take n ++ Lib.strCells s ++ cur.toList.drop (n + s.size)).toArray.size = cur.size := by
        simp only [List.size_toArray, List.length_append, List.length_take, List.length_drop, Array.length_toList, Lib.strCells_length]
        omega
      refine ⟨_, _, hr, ⟨hlen, .inr ⟨g, cap, _, rfl, hbg, ⟨fz, setRow_heap w g cur _ e _ hg1, by rw [hz2]; exact hfz⟩, hroom, hcm, ?_, ?_⟩⟩, ⟨rfl, rfl, rfl, by simp, fun k _ hk => setRow_other w g k _ (fun e => hk (by simp [Value.ownBlock, e]))⟩, fun b hb' => Or.inl hb'⟩
      · simp only [List.size_toArray, List.length_append, List.length_take, List.length_drop, Array.length_toList, Lib.strCells_length]
        omega
      · have ht' : cur.toList.take n = xs := by simpa using htake
        rw [ht', ← hlen]
        exact List.take_left
    · have holds : ∀ j u, xs[j]? = some u → w.cell? ((⟨g, 0, none⟩ : Addr).add j) = some u := fun j u hj => by
        rw [add_plain, Nat.zero_add, hg.cell]
        have ht' : cur.toList.take n = xs := by simpa using htake
        rw [← ht', List.getElem?_take] at hj
        split at hj
        · simpa using hj
        · cases hj
      have hr := Lib.run_append_grow_string (P := P) w t u ty e i zv ht hu hi hz ⟨g, 0, none⟩ n cap xs (by rw [hsize]; simpa using hxl) holds s (by omega) (by omega) (by rw [hby]; exact growslice_fits (by omega) (by omega))
      have hgr := grown cap (by omega) (Value.ownBlock (.slice (some ⟨g, 0, none⟩) n cap))
      exact ⟨_, _, hr, hgr.1, hgr.2, fun b hb' => by cases hb'; exact Or.inr (Nat.le_refl _)⟩

theorem step_app_own_str {P : Program} {σ : AS} {dst : Option Tmp} {t e type : TypeId} {s x : Operand} {pos : String} {after : Array Edge} {guard : Option (Nat × Bool)} {tu : TypeId} {D E U : TD} (hU : td P tu = some U) (hstr : U.str = true) (hik : E.ik = some .u8) (hby : E.bytes = 1) (hD : td P t = some D) (he : D.elem = some e) (hE : td P e = some E) {z : List Value} (hz : E.zero = some z) (hzl : z.length = 1) (hsize : E.size = 1)
    {bs : ByteArray} (hx' : aev σ x = .c (.string bs)) {L n : Nat} (hs : aev σ s = .own L E.size n) (hrow : rowE σ.h L = some e) {p : Nat × List (List AV)} (hp : elemsA σ.h (.own L E.size n) = some p)
    (hb : n + bs.size ≤ 140737488355328) (h63 : n + bs.size ≤ 9223372036854775807) :
    OpOkS P σ ⟨dst, .call ⟨.builtin .append, #[s, x], #[t, tu]⟩, type, pos, after, guard⟩ (.own L E.size (n + bs.size)) [] [L] ((killH [] [L] σ.h).set L (some (.row e E.size (p.2 ++ strE bs)))) := by
  intro w0 ok0 m ok ρ w hx r
  have q1 := hx s (by simp [Op.operands, Call.operands])
  have q2 := hx x (by simp [Op.operands, Call.operands])
  rw [hs] at q1
  rw [hx'] at q2
  simp only [RepV] at q2
  have hi : IdxR ok w E.size (strE bs) (Lib.strCells bs) := by rw [hsize]; exact strE_idx ok w bs
  have hel : (strE bs).length = bs.size := strE_length bs
  obtain ⟨ob, hm, hov⟩ := q1
  unfold rowE at hrow
  split at hrow
  · rename_i ty st2 es2 hL
    cases hrow
    simp only [elemsA, hL] at hp
    split at hp
    · rename_i hcn
      obtain ⟨rfl, hn⟩ := hcn
      cases hp
      obtain ⟨uD, iD, huD, hiD, rfl⟩ := td_some hD
      obtain rfl := elemD_some he
      have hz0 : w0.heap.size ≤ w.heap.size := r.bel.size
      -- the row as it lay
      have hown : ∃ xs, OwnsT w 0 e E.size (ρ s) n xs ∧ IdxR ok w E.size (es2.take n) xs ∧ (ρ s).ownBlock = ob := by
        cases ob with
        | none =>
          obtain ⟨rfl, hv⟩ := hov
          refine ⟨[], ?_, ?_, by rw [hv]; rfl⟩
          · rw [hv]; exact OwnsT.nil w 0 e E.size
          · rw [List.take_zero]; exact IdxR.nil _ _ _
        | some b =>
          obtain ⟨cap', t', hv, hnc, hcm, hsh⟩ := hov
          obtain ⟨cs, hbk, hidx⟩ := (r.own L _ hL).idx hm hn
          have hcs : cs.size = cap' * E.size := by
            rw [hbk.shape] at hsh
            simp only [Option.some.injEq, Prod.mk.injEq] at hsh
            exact hsh.2
          refine ⟨cs.toList.take (n * E.size), ⟨?_, Or.inr ⟨b, cap', cs, hv, Nat.zero_le _, hbk, hnc, hcm, hcs, rfl⟩⟩, hidx, by rw [hv]; rfl⟩
          have := Nat.mul_le_mul_right E.size hnc
          rw [List.length_take, Array.length_toList (xs := cs), hcs, Nat.min_eq_left this]
      obtain ⟨xs, how, hidx, hob⟩ := hown
      obtain ⟨uU, iU, huU, hiU, rfl⟩ := td_some hU
      obtain rfl := strD_true hstr
      obtain ⟨uE, iE, huE, hiE, rfl⟩ := td_some hE
      simp only [Option.map_eq_some_iff] at hz
      obtain ⟨zv, hzv, rfl⟩ := hz
      simp only at hsize hby hidx how hi
      rw [hsize] at how
      obtain ⟨v', w', hrun, how', hgr, hblk⟩ := run_app_str (P := P) (ty := type) huD huU hiE hzv (by simpa using hzl) hsize hby (base := 0) (Nat.zero_le _) how bs (by unfold maxLen; omega) hb
      rw [← q2] at hrun
      rw [hob] at hgr hblk
      refine exec_value (append_run2 hrun) ?_
      have hle : n + bs.size = (es2.take n ++ strE bs).length := by rw [List.length_append, List.length_take, Nat.min_eq_left hn, hel]
      have hv' : OwnV w' iE.size (n + bs.size) v' v'.ownBlock := by
        rw [hsize]
        rcases how'.2 with ⟨h1, h2⟩ | ⟨g, cap2, cur, h1, _, h3, h4, h5, h6, h7⟩
        · rw [h1]; exact ⟨h2, rfl⟩
        · rw [h1]
          exact ⟨cap2, e, rfl, h4, h5, by rw [h3.shape]; simp [h6]⟩
      obtain ⟨g, r'⟩ := r.turn hL hm hgr (ob' := v'.ownBlock) (blk' := .row e iE.size (es2.take n ++ strE bs)) (fun b hb' => by
        refine ⟨?_, ?_⟩
        · exact hblk b hb'
        · rcases how'.2 with ⟨h1, h2⟩ | ⟨gg, cap2, cur, h1, _, h3, h4, h5, h6, h7⟩
          · rw [h1] at hb'; cases hb'
          · rw [h1] at hb'; cases hb'; exact h3.lt) (fun g => by
        have hmm : (m.set L v'.ownBlock)[L]? = some v'.ownBlock := by
          rw [List.getElem?_set, if_pos rfl, if_pos (List.getElem?_eq_some_iff.1 hm).1]
        rcases how'.2 with ⟨h1, h2⟩ | ⟨gg, cap2, cur, h1, _, h3, h4, h5, h6, h7⟩
        · rw [h1] at hmm ⊢
          exact ⟨none, hmm, List.eq_nil_of_length_eq_zero (by rw [← hle, h2])⟩
        · rw [h1] at hmm ⊢
          refine OwnB.of_idx hmm h3 ?_
          rw [← hle, hsize, h7]
          rw [hsize] at hidx hi
          exact (hidx.append hi).mono g.mo g.cells)
      refine ⟨_, ok, g, r', ⟨v'.ownBlock, ?_, hv'⟩, fun _ => .turn hm (by simp [touchO, hs, namesV]) hgr hblk⟩
      rw [List.getElem?_set, if_pos rfl, if_pos (List.getElem?_eq_some_iff.1 hm).1]
    · cases hp
  · cases hrow

theorem step_app_nil {P : Program} {σ : AS} {dst : Option Tmp} {t e type : TypeId} {s x : Operand} {pos : String} {after : Array Edge} {guard : Option (Nat × Bool)} {D E : TD} (hD : td P t = some D) (he : D.elem = some e) (hE : td P e = some E) {z : List Value} (hz : E.zero = some z) (hzl : z.length = E.size) (hsz : 0 < E.size)
    {es' : List (List AV)} (hx' : elemsN σ.h E.size (aev σ x) = some es') (hs : aev σ s = .nils) (hb : es'.length * E.bytes ≤ 140737488355328) (h63 : es'.length ≤ 9223372036854775807) :
    OpOkS P σ ⟨dst, .call ⟨.builtin .append, #[s, x], #[t, t]⟩, type, pos, after, guard⟩ (.own σ.h.length E.size es'.length) [] [] (σ.h ++ [some (.row e E.size es')]) := by
  intro w0 ok0 m ok ρ w hx r
  have q1 := hx s (by simp [Op.operands, Call.operands])
  have q2 := hx x (by simp [Op.operands, Call.operands])
  rw [hs] at q1
  simp only [RepV] at q1
  obtain ⟨A, cap, news, hxv, hi, hcell, hnil⟩ := elemsN_ok r.own hx' q2
  obtain ⟨uD, iD, huD, hiD, rfl⟩ := td_some hD
  obtain rfl := elemD_some he
  have how : OwnsT w w.heap.size e E.size (ρ s) 0 [] := by rw [q1]; exact OwnsT.nil w _ e E.size
  obtain ⟨v', w', hrun, how', hgr, hblk⟩ := run_app (P := P) (ty := type) huD hE hz hzl hsz (base := w.heap.size) (Nat.le_refl _) how (c := cap) hi.1 hcell (fun h => by rw [hnil h]; rfl) hi.2.1 (by unfold maxLen; omega) (by rw [Nat.zero_add]; exact hb)
  rw [← hxv] at hrun
  rw [Nat.zero_add, List.nil_append] at how'
  have hob : (ρ s).ownBlock = none := by rw [q1]; rfl
  rw [hob] at hgr
  refine exec_value (append_run hrun) ?_
  have hB : Below w.heap.size w w' := ⟨hgr.os, hgr.tape, hgr.output, hgr.size, fun k hk => hgr.block k hk (by simp)⟩
  have hv' : OwnV w' E.size es'.length v' v'.ownBlock := by
    rcases how'.2 with ⟨h1, h2⟩ | ⟨g, cap2, cur, h1, _, h3, h4, h5, h6, h7⟩
    · rw [h1]; exact ⟨h2, rfl⟩
    · rw [h1]
      exact ⟨cap2, e, rfl, h4, h5, by rw [h3.shape]; simp [h6]⟩
  have g := grow_new r hB v'.ownBlock
  have key : OwnB (m ++ [v'.ownBlock]) ok w' σ.h.length (.row e E.size es') := by
    have hmm : (m ++ [v'.ownBlock])[σ.h.length]? = some v'.ownBlock := mget_new r.len
    rcases how'.2 with ⟨h1, h2⟩ | ⟨gg, cap2, cur, h1, _, h3, h4, h5, h6, h7⟩
    · rw [h1] at hmm ⊢
      exact ⟨none, hmm, List.eq_nil_of_length_eq_zero h2⟩
    · rw [h1] at hmm ⊢
      refine OwnB.of_idx hmm h3 ?_
      rw [h7]
      exact hi.mono g.mo g.cells
  have r' := r.fresh hB v'.ownBlock (fun b hb' => by
    rcases how'.2 with ⟨h1, h2⟩ | ⟨gg, cap2, cur, h1, h2, h3, h4, h5, h6, h7⟩
    · rw [h1] at hb'; cases hb'
    · rw [h1] at hb'; cases hb'
      exact ⟨h2, h3.lt⟩) key
  exact ⟨_, ok, g, r', ⟨v'.ownBlock, mget_new r.len, hv'⟩, fun _ => .new _ m hB _ (fun b hb' => by
    rcases how'.2 with ⟨h1, h2⟩ | ⟨gg, cap2, cur, h1, h2, h3, h4, h5, h6, h7⟩
    · rw [h1] at hb'; cases hb'
    · rw [h1] at hb'; cases hb'; exact h2)⟩

theorem step_app_cut {P : Program} {σ : AS} {dst : Option Tmp} {t e type : TypeId} {s x : Operand} {pos : String} {after : Array Edge} {guard : Option (Nat × Bool)} {D E : TD} (hD : td P t = some D) (he : D.elem = some e) (hE : td P e = some E) {z : List Value} (hz : E.zero = some z) (hzl : z.length = E.size) (hsz : 0 < E.size)
    {es' : List (List AV)} (hx' : elemsN σ.h E.size (aev σ x) = some es') {es : List (List AV)} (hs : aev σ s = .cut E.size es) (hk : 0 < es'.length) (hb : (es.length + es'.length) * E.bytes ≤ 140737488355328) (h63 : es.length + es'.length ≤ 9223372036854775807) :
    OpOkS P σ ⟨dst, .call ⟨.builtin .append, #[s, x], #[t, t]⟩, type, pos, after, guard⟩ (.own σ.h.length E.size (es.length + es'.length)) [] [] (σ.h ++ [some (.row e E.size (es ++ es'))]) := by
  intro w0 ok0 m ok ρ w hx r
  have q1 := hx s (by simp [Op.operands, Call.operands])
  have q2 := hx x (by simp [Op.operands, Call.operands])
  rw [hs] at q1
  obtain ⟨A0, hv0, hr0⟩ := q1
  have hq : RepV m ok w (.sl false E.size es) (ρ s) := ⟨A0, es.length, hv0, ⟨fun h => (by cases h), fun hA => (by
    rcases Nat.eq_zero_or_pos es.length with h0 | h0
    · exact h0
    · obtain ⟨b, o, e, _⟩ := hr0 h0
      rw [hA] at e; cases e), Nat.le_refl _⟩, hr0⟩
  obtain ⟨A1, cap1, olds, hv1, hi0, hcell0, hnil0⟩ := RepD.elems (nn := false) hq
  rw [hv1] at hv0
  cases hv0
  obtain ⟨A, cap, news, hxv, hi, hcell, hnil⟩ := elemsN_ok r.own hx' q2
  obtain ⟨uD, iD, huD, hiD, rfl⟩ := td_some hD
  obtain rfl := elemD_some he
  obtain ⟨v', w', hrun, how', hgr⟩ := run_app_cut (P := P) (ty := type) huD hE hz hzl hsz (w := w) (A0 := A0) (n := es.length) hi0.1 (fun h => by rw [hnil0 h]; rfl) hcell0 (A := A) (c := cap) hi.1 hcell (fun h => by rw [hnil h]; rfl) hk hi.2.1 (by unfold maxLen; omega) hb
  rw [← hxv, ← hv1] at hrun
  refine exec_value (append_run hrun) ?_
  have hB : Below w.heap.size w w' := ⟨hgr.os, hgr.tape, hgr.output, hgr.size, fun k hk => hgr.block k hk (by simp)⟩
  have hv' : OwnV w' E.size (es.length + es'.length) v' v'.ownBlock := by
    rcases how'.2 with ⟨h1, h2⟩ | ⟨g, cap2, cur, h1, _, h3, h4, h5, h6, h7⟩
    · rw [h1]; exact ⟨h2, rfl⟩
    · rw [h1]
      exact ⟨cap2, e, rfl, h4, h5, by rw [h3.shape]; simp [h6]⟩
  have g := grow_new r hB v'.ownBlock
  have key : OwnB (m ++ [v'.ownBlock]) ok w' σ.h.length (.row e E.size (es ++ es')) := by
    have hmm : (m ++ [v'.ownBlock])[σ.h.length]? = some v'.ownBlock := mget_new r.len
    rcases how'.2 with ⟨h1, h2⟩ | ⟨gg, cap2, cur, h1, _, h3, h4, h5, h6, h7⟩
    · rw [h1] at hmm ⊢
      exact absurd h2 (by omega)
    · rw [h1] at hmm ⊢
      refine OwnB.of_idx hmm h3 ?_
      rw [List.length_append, h7]
      exact (hi0.append hi).mono g.mo g.cells
  have r' := r.fresh hB v'.ownBlock (fun b hb' => by
    rcases how'.2 with ⟨h1, h2⟩ | ⟨gg, cap2, cur, h1, h2, h3, h4, h5, h6, h7⟩
    · rw [h1] at hb'; cases hb'
    · rw [h1] at hb'; cases hb'
      exact ⟨h2, h3.lt⟩) key
  exact ⟨_, ok, g, r', ⟨v'.ownBlock, mget_new r.len, hv'⟩, fun _ => .new _ m hB _ (fun b hb' => by
    rcases how'.2 with ⟨h1, h2⟩ | ⟨gg, cap2, cur, h1, h2, h3, h4, h5, h6, h7⟩
    · rw [h1] at hb'; cases hb'
    · rw [h1] at hb'; cases hb'; exact h2)⟩

theorem step_app_nil_str {P : Program} {σ : AS} {dst : Option Tmp} {t e type : TypeId} {s x : Operand} {pos : String} {after : Array Edge} {guard : Option (Nat × Bool)} {tu : TypeId} {D E U : TD} (hU : td P tu = some U) (hstr : U.str = true) (hik : E.ik = some .u8) (hby : E.bytes = 1) (hD : td P t = some D) (he : D.elem = some e) (hE : td P e = some E) {z : List Value} (hz : E.zero = some z) (hzl : z.length = 1) (hsize : E.size = 1)
    {bs : ByteArray} (hx' : aev σ x = .c (.string bs)) (hs : aev σ s = .nils) (hb : bs.size ≤ 140737488355328) :
    OpOkS P σ ⟨dst, .call ⟨.builtin .append, #[s, x], #[t, tu]⟩, type, pos, after, guard⟩ (.own σ.h.length E.size bs.size) [] [] (σ.h ++ [some (.row e E.size (strE bs))]) := by
  intro w0 ok0 m ok ρ w hx r
  have q1 := hx s (by simp [Op.operands, Call.operands])
  have q2 := hx x (by simp [Op.operands, Call.operands])
  rw [hs] at q1
  rw [hx'] at q2
  simp only [RepV] at q1 q2
  have hi : IdxR ok w E.size (strE bs) (Lib.strCells bs) := by rw [hsize]; exact strE_idx ok w bs
  obtain ⟨uD, iD, huD, hiD, rfl⟩ := td_some hD
  obtain rfl := elemD_some he
  obtain ⟨uU, iU, huU, hiU, rfl⟩ := td_some hU
  obtain rfl := strD_true hstr
  obtain ⟨uE, iE, huE, hiE, rfl⟩ := td_some hE
  simp only [Option.map_eq_some_iff] at hz
  obtain ⟨zv, hzv, rfl⟩ := hz
  simp only at hsize hby hi
  have how : OwnsT w w.heap.size e 1 (ρ s) 0 [] := by rw [q1]; exact OwnsT.nil w _ e 1
  obtain ⟨v', w', hrun, how', hgr, hblk⟩ := run_app_str (P := P) (ty := type) huD huU hiE hzv (by simpa using hzl) hsize hby (base := w.heap.size) (Nat.le_refl _) how bs (by unfold maxLen; omega) (by omega)
  rw [← q2] at hrun
  rw [Nat.zero_add, List.nil_append] at how'
  have hob : (ρ s).ownBlock = none := by rw [q1]; rfl
  rw [hob] at hgr
  refine exec_value (append_run2 hrun) ?_
  have hB : Below w.heap.size w w' := ⟨hgr.os, hgr.tape, hgr.output, hgr.size, fun k hk => hgr.block k hk (by simp)⟩
  have hv' : OwnV w' iE.size bs.size v' v'.ownBlock := by
    rw [hsize]
    rcases how'.2 with ⟨h1, h2⟩ | ⟨g, cap2, cur, h1, _, h3, h4, h5, h6, h7⟩
    · rw [h1]; exact ⟨h2, rfl⟩
    · rw [h1]
      exact ⟨cap2, e, rfl, h4, h5, by rw [h3.shape]; simp [h6]⟩
  have g := grow_new r hB v'.ownBlock
  have key : OwnB (m ++ [v'.ownBlock]) ok w' σ.h.length (.row e iE.size (strE bs)) := by
    have hmm : (m ++ [v'.ownBlock])[σ.h.length]? = some v'.ownBlock := mget_new r.len
    rcases how'.2 with ⟨h1, h2⟩ | ⟨gg, cap2, cur, h1, _, h3, h4, h5, h6, h7⟩
    · rw [h1] at hmm ⊢
      exact ⟨none, hmm, List.eq_nil_of_length_eq_zero (by rw [strE_length]; exact h2)⟩
    · rw [h1] at hmm ⊢
      refine OwnB.of_idx hmm h3 ?_
      rw [strE_length, hsize, h7]
      rw [hsize] at hi
      exact hi.mono g.mo g.cells
  have r' := r.fresh hB v'.ownBlock (fun b hb' => by
    rcases how'.2 with ⟨h1, h2⟩ | ⟨gg, cap2, cur, h1, h2, h3, h4, h5, h6, h7⟩
    · rw [h1] at hb'; cases hb'
    · rw [h1] at hb'; cases hb'
      exact ⟨h2, h3.lt⟩) key
  exact ⟨_, ok, g, r', ⟨v'.ownBlock, mget_new r.len, hv'⟩, fun _ => .new _ m hB _ (fun b hb' => by
    rcases how'.2 with ⟨h1, h2⟩ | ⟨gg, cap2, cur, h1, h2, h3, h4, h5, h6, h7⟩
    · rw [h1] at hb'; cases hb'
    · rw [h1] at hb'; cases hb'; exact h2)⟩

theorem zeros_is (zv : Array Value) (n : Nat) : Builtin.zeroCells zv n = madeCells zv (n * zv.size) := rfl


theorem step_app_make {P : Program} {σ : AS} {dst : Option Tmp} {t t' e type : TypeId} {s x : Operand} {pos : String} {after : Array Edge} {guard : Option (Nat × Bool)} {U D E : TD} {kn : IntKind} (hU : td P t' = some U) (hk : U.ik = some kn) (hD : td P t = some D) (he : D.elem = some e) (hE : td P e = some E) {z : List Value} (hz : E.zero = some z) (h1 : z.all (·.oneCell') = true) (hzl : z.length = E.size) (hsz : 0 < E.size)
    {k : IntKind} {n : Int} (hx' : aev σ x = .c (.int k n)) (hs : aev σ s = .nils) (h0 : 0 < n) (hb : (E.bytes : Int) * n ≤ 140737488355328) (h63 : n ≤ 9223372036854775807) :
    OpOkS P σ ⟨dst, .call ⟨.builtin .append, #[s, x], #[t, t']⟩, type, pos, after, guard⟩ (.own σ.h.length E.size n.toNat) [] [] (σ.h ++ [some (.row e E.size (List.replicate n.toNat (z.map cvc)))]) := by
  intro w0 ok0 m ok ρ w hx r
  have q1 := hx s (by simp [Op.operands, Call.operands])
  have q2 := hx x (by simp [Op.operands, Call.operands])
  rw [hs] at q1
  rw [hx'] at q2
  simp only [RepV] at q1 q2
  obtain ⟨uU, iU, huU, hiU, rfl⟩ := td_some hU
  obtain rfl := ikD_some hk
  obtain ⟨u, i, hu, hi, rfl⟩ := td_some hD
  obtain ⟨u2, i2, hu2, hi2, rfl⟩ := td_some hE
  obtain rfl := elemD_some he
  simp only [Option.map_eq_some_iff] at hz
  obtain ⟨zv, hzv, rfl⟩ := hz
  simp only at hzl hsz hb
  obtain ⟨n, rfl⟩ := Int.eq_ofNat_of_zero_le (Int.le_of_lt h0)
  have hb' : n * i2.bytes ≤ 140737488355328 := by
    rw [← Int.natCast_mul] at hb
    rw [Nat.mul_comm]
    omega
  have hrun := Lib.run_append_nil_zeros (P := P) w t t' type e i2 zv k kn hu huU hi2 hzv n (by omega) hsz h63 (by omega)
  have hge := grownCap_ge w n 0 e
  have hcm : grownCap w n 0 e ≤ maxLen := grownCap_le_maxLen w n 0 e (by unfold maxLen; omega)
  generalize hc : grownCap w n 0 e = c at *
  have hzs : zv.cells.size = i2.size := by simpa using hzl
  have hn : (n : Int).toNat = n := Int.toNat_natCast n
  rw [hn]
  refine exec_value (w' := w.drew.alloc (.cells (Builtin.zeroCells zv.cells n ++ Builtin.zeroCells zv.cells (c - n)) e)) (u := .slice (some ⟨w.heap.size, 0, none⟩) n c) (append_run2 (by rw [q1, q2]; exact hrun)) ?_
  have hB : Below w.heap.size w (w.drew.alloc (.cells (Builtin.zeroCells zv.cells n ++ Builtin.zeroCells zv.cells (c - n)) e)) := ((Below.refl w.heap.size w).drew).alloc (Nat.le_refl _) _
  have key : OwnB (m ++ [some w.heap.size]) ok (w.drew.alloc (.cells (Builtin.zeroCells zv.cells n ++ Builtin.zeroCells zv.cells (c - n)) e)) σ.h.length (.row e i2.size (List.replicate n (zv.cells.toList.map cvc))) := by
    refine OwnB.of_idx (mget_new r.len) (.plain (heap_alloc_new w.drew _)) ?_
    rw [List.length_replicate, ← hzl]
    have h := zeros_idx ok (w.drew.alloc (.cells (Builtin.zeroCells zv.cells n ++ Builtin.zeroCells zv.cells (c - n)) e)) (fun q hq => List.all_eq_true.1 h1 q hq) (by omega) n n (Nat.le_refl _) zv.cells rfl
    have e1 : n * zv.cells.toList.length = (madeCells zv.cells (n * zv.cells.toList.length)).toList.length := by simp [size_madeCells]
    rw [show (Builtin.zeroCells zv.cells n) = madeCells zv.cells (n * zv.cells.toList.length) from by rw [zeros_is]; simp]
    rw [Array.toList_append, List.take_append_of_le_length (Nat.le_of_eq e1)]
    exact h
  have g := grow_new r hB (some w.heap.size)
  have r' := r.fresh hB (some w.heap.size) (fun b e => by cases e; exact ⟨Nat.le_refl _, by simp⟩) key
  refine ⟨_, ok, g, r', ⟨some w.heap.size, mget_new r.len, c, e, rfl, hge, hcm, ?_⟩, fun _ => .new _ m hB _ fun b e => by cases e; exact Nat.le_refl _⟩
  unfold World.shape?
  rw [show w.heap.size = w.drew.heap.size from rfl, heap_alloc_new]
  simp only [Array.size_append, size_zeroCells, hzs, ← Nat.add_mul]
  rw [Nat.add_sub_cancel' hge]

theorem IdxR.cons {ok : Nat → Prop} {w : World} {st : Nat} {e : List AV} {es : List (List AV)} {l : List Value} (m : List (Option Nat)) (h : IdxR ok w st (e :: es) l) : RepL m ok w e (l.take st) ∧ IdxR ok w st es (l.drop st) := by
  obtain ⟨h1, h2, h3⟩ := h
  simp only [List.length_cons, Nat.add_mul, Nat.one_mul] at h1
  obtain ⟨e1, e2⟩ := h3 0 e rfl
  refine ⟨RepL.of (by rw [e1, List.length_take]; omega) fun i a v ha hv => ?_, by rw [List.length_drop]; omega, fun u hu => h2 u (List.mem_of_mem_drop hu), fun i x hx => ?_⟩
  · obtain ⟨u, hu, hr⟩ := e2 i a ha
    rw [Nat.zero_mul, Nat.zero_add] at hu
    rw [List.getElem?_take] at hv
    split at hv
    · rw [hu] at hv
      cases hv
      exact RepD.up _ hr
    · cases hv
  · obtain ⟨f1, f2⟩ := h3 (i + 1) x (by simpa using hx)
    refine ⟨f1, fun j y hy => ?_⟩
    obtain ⟨u, hu, hr⟩ := f2 j y hy
    refine ⟨u, ?_, hr⟩
    rw [List.getElem?_drop]
    rwa [show (i + 1) * st + j = st + (i * st + j) by rw [Nat.add_mul]; omega] at hu
theorem idx_flat {ok : Nat → Prop} {w : World} {st : Nat} (m : List (Option Nat)) : ∀ (es : List (List AV)) (l : List Value) (k : Nat), k ≤ es.length → IdxR ok w st es l → RepL m ok w (es.take k).flatten (l.take (k * st)) ∧ (es.take k).flatten.length = k * st
  | _, l, 0, _, _ => ⟨by simp [RepL], by simp⟩
  | [], l, k + 1, h, _ => by simp at h
  | e :: es, l, k + 1, h, hi => by
    obtain ⟨a, b⟩ := hi.cons m
    obtain ⟨c, d⟩ := idx_flat m es (l.drop st) k (by simpa using h) b
    have he : e.length = st := (hi.2.2 0 e rfl).1
    rw [List.take_succ_cons, List.flatten_cons]
    refine ⟨?_, by rw [List.length_append, d, he, Nat.add_mul]; omega⟩
    have := a.append c
    rwa [show (k + 1) * st = st + k * st by rw [Nat.add_mul]; omega, List.take_add]
theorem copy_run {P : Program} {dst : Option Tmp} {s x : Operand} {t tu type : TypeId} {pos : String} {after : Array Edge} {guard : Option (Nat × Bool)} {ρ : Operand → Value} {w w' : World} {v : Value} (h : (Builtin.copy_ #[t, tu] type #[ρ s, ρ x]).run P w = .ok v w') :
    (execOp ρ ⟨dst, .call ⟨.builtin .copy, #[s, x], #[t, tu]⟩, type, pos, after, guard⟩).run P w = .ok (.value v) w' := by
  simp only [execOp, resolve, Sem.run_bind]
  simp [invoke, builtin, h]
theorem step_copy {P : Program} {σ : AS} {dst : Option Tmp} {t t2 e type : TypeId} {d s : Operand} {pos : String} {after : Array Edge} {guard : Option (Nat × Bool)} {D E : TD} (hD : td P t = some D) (he : D.elem = some e) (hE : td P e = some E)
    {L n : Nat} (hd : aev σ d = .own L E.size n) {ty : TypeId} {cs : List AV} (hL : σ.h[L]? = some (some (.var ty cs))) (hle : n * E.size ≤ cs.length) {es : List (List AV)} (hs : elemsN σ.h E.size (aev σ s) = some es)
    (ht : ∀ k ∈ namesV (aev σ d), k ∈ touchO σ (.call ⟨.builtin .copy, #[d, s], #[t, t2]⟩)) :
    OpOkS P σ ⟨dst, .call ⟨.builtin .copy, #[d, s], #[t, t2]⟩, type, pos, after, guard⟩ (.c (.int .i64 (min es.length n : Nat))) [] [] (σ.h.set L (some (.var ty (setAll cs 0 (es.take (min es.length n)).flatten)))) := by
  intro w0 ok0 m ok ρ w hx r
  have q1 := hx d (by simp [Op.operands, Call.operands])
  have q2 := hx s (by simp [Op.operands, Call.operands])
  rw [hd] at q1
  obtain ⟨A, cap, l, hsv, hi, hcell, hnil⟩ := elemsN_ok r.own hs q2
  obtain ⟨ob, hm, hov⟩ := q1
  obtain ⟨b, vs, hm', hb, hvs, hv1⟩ := r.own L _ hL
  rw [hm] at hm'; cases hm'
  obtain ⟨cap', t', hdv, hnc, hcm, hsh⟩ := hov
  obtain ⟨uD, iD, huD, hiD, rfl⟩ := td_some hD
  obtain rfl := elemD_some he
  have hlen := hvs.length
  obtain ⟨k, hk⟩ : ∃ k, k = min es.length n := ⟨_, rfl⟩
  rw [← hk]
  have hke : k ≤ es.length := by omega
  have hkn : k * E.size ≤ n * E.size := Nat.mul_le_mul_right _ (by omega)
  obtain ⟨hf, hfl⟩ := idx_flat m es l k hke hi
  have hll : (l.take (k * E.size)).length = k * E.size := by
    have := hf.length
    omega
  have h1 : ∀ v ∈ l.take (k * E.size), v.oneCell' = true := fun v hv => hi.2.1 v (List.mem_of_mem_take hv)
  have hst := run_storeCells_atT P b 0 ty (0, 0) (l.take (k * E.size)) 0 vs w hb (.inl rfl) (by simp at hlen; omega) h1
  have hrun : (Builtin.copy_ #[t, t2] type #[ρ d, ρ s]).run P w = .ok (goInt k) (w.setRow b (vs.toList.take 0 ++ l.take (k * E.size) ++ vs.toList.drop (0 + (l.take (k * E.size)).length)).toArray) := by
    rw [hdv, hsv]
    cases A with
    | none =>
      have h0 := hnil rfl
      subst h0
      have hk0 : k = 0 := by simp at hke; exact hke
      subst hk0
      simp only [Nat.zero_mul, List.take_zero] at hst ⊢
      simp [Builtin.copy_, run_underlying huD, Builtin.lenOf, Builtin.firstCells, sizeOf_run hE] at hst ⊢
      rw [hst]
      rfl
    | some a =>
      have hl := run_loadCells_list (P := P) w a (l.take (k * E.size)) fun j v hv => hcell a rfl j v (by
        rw [List.getElem?_take] at hv
        split at hv
        · exact hv
        · cases hv)
      rw [hll] at hl
      have hk' : Nat.min es.length n = k := hk.symm
      simp [Builtin.copy_, run_underlying huD, Builtin.lenOf, Builtin.firstCells, sizeOf_run hE, hk', hl] at hst ⊢
      rw [hst]
      rfl
  refine exec_value (copy_run hrun) ?_
  obtain ⟨g, r'⟩ := r.write hL hm hb (cs' := (vs.toList.take 0 ++ l.take (k * E.size) ++ vs.toList.drop (0 + (l.take (k * E.size)).length)).toArray) (blk' := .var ty (setAll cs 0 (es.take k).flatten)) (by simp at hlen ⊢; omega) fun w' g hw' => by
    refine ⟨b, _, hm, hw', ?_, fun u hu => ?_⟩
    · rw [setAll_eq _ _ _ (by rw [hfl]; omega)]
      have a1 := RepL.mono g _ hvs
      have a2 := RepL.mono g _ hf
      have := ((a1.take 0).append a2).append (a1.drop (0 + (es.take k).flatten.length))
      rw [show 0 + (l.take (k * E.size)).length = 0 + (es.take k).flatten.length by rw [hll, hfl]]
      exact this
    · simp only [List.toList_toArray, List.mem_append] at hu
      rcases hu with (hu | hu) | hu
      · exact hv1 u (List.mem_of_mem_take hu)
      · exact h1 u hu
      · exact hv1 u (List.mem_of_mem_drop hu)
  exact ⟨m, ok, g, r', rfl, fun _ => .write hm (List.mem_append_left _ (ht L (by rw [hd]; simp [namesV]))) (fun k hk => setRow_other w b k _ hk)⟩


/-- Appending so many zeros onto a slice that is nil or a row of the call's own. -/
theorem run_appz {P : Program} {t t' ty e : TypeId} {kn kq : IntKind} {E : TD} (hu' : P.underlying t' = some (.int kn)) (ht : P.underlying t = some (.slice e)) (hE : td P e = some E) {z : List Value} (hz : E.zero = some z) (hz1 : z.all (·.oneCell') = true) (hzl : z.length = E.size) (hsz : 0 < E.size)
    {w : World} {base : Nat} (hbase : base ≤ w.heap.size) {v : Value} {n : Nat} {xs : List Value} (hown : OwnsT w base e E.size v n xs)
    {k : Nat} {news : List Value} (hnews : news = (madeCells z.toArray (k * E.size)).toList)
    (h63 : n + k ≤ maxLen) (hb : (n + k) * E.bytes ≤ 140737488355328) :
    ∃ v' w', (Builtin.append_ #[t, t'] ty #[v, .int kq k]).run P w = .ok v' w' ∧ OwnsT w' base e E.size v' (n + k) (xs ++ news) ∧ w.grownBy w' v.ownBlock ∧ (v'.ownBlock = v.ownBlock ∨ v'.ownBlock = some w.heap.size) := by
  obtain ⟨u, i, hu, hi, rfl⟩ := td_some hE
  simp only [Option.map_eq_some_iff] at hz
  obtain ⟨zv, hzv, rfl⟩ := hz
  have hzs : zv.cells.size = i.size := by simpa using hzl
  simp only at hzl hsz hb hnews
  have hnl : news.length = k * i.size := by rw [hnews]; simp [size_madeCells]
  have hlen : (xs ++ news).length = (n + k) * i.size := by rw [List.length_append, hown.1, hnl, Nat.add_mul]
  have hmz : Builtin.zeroCells zv.cells k = news.toArray := by rw [zeros_is, hnews, hzs]
  have hsmall : n + k ≤ 9223372036854775807 := by simp only [maxLen] at h63; omega
  have hkb : k * i.bytes ≤ 140737488355328 := Nat.le_trans (Nat.mul_le_mul_right _ (by omega)) hb
  have h1 : ∀ u ∈ news, u.oneCell' = true := fun u hu => by
    rw [hnews] at hu
    have hu2 : u ∈ madeCells zv.cells (k * i.size) := by simpa using hu
    obtain ⟨j, hj, rfl⟩ := Array.getElem_of_mem hu2
    have hj2 : j < k * i.size := by simpa [size_madeCells] using hj
    have := madeCells_get zv.cells (k * i.size) j hj2 (by omega)
    rw [Array.getElem?_eq_getElem hj] at this
    rw [Option.some.inj this]
    exact List.all_eq_true.1 hz1 _ (by simp)
  have hw : IntKind.i64.wrap (k : Int) = k := by rw [IntKind.wrap_i64]; omega
  have hneg : ¬ ((k : Int) < 0) := by omega
  have h48i : ¬ (281474976710656 < (k : Int) * (i.bytes : Int)) := by
    rw [← Int.natCast_mul]
    omega
  rcases hown.2 with ⟨rfl, rfl⟩ | ⟨g, cap, cur, rfl, hbg, hg, hnc, hcm, hcs, htake⟩
  · obtain rfl : xs = [] := List.eq_nil_of_length_eq_zero (by simpa using hown.1)
    rcases Nat.eq_zero_or_pos k with rfl | hk
    · obtain rfl : news = [] := List.eq_nil_of_length_eq_zero (by simpa using hnl)
      refine ⟨.slice none 0 0, w, ?_, by simpa using hown, ⟨rfl, rfl, rfl, Nat.le_refl _, fun _ _ _ => rfl⟩, Or.inl rfl⟩
      simp [Builtin.append_, run_underlying ht, run_underlying hu', sizeOf, typeInfo, zeroValue, hi, hzv, asInt, asIntOf, IntKind.wrap_i64]
    · have hrun := Lib.run_append_nil_zeros (P := P) w t t' ty e i zv kq kn ht hu' hi hzv k hk hsz (by omega) (by omega)
      have hge := grownCap_ge w k 0 e
      have hcm : grownCap w k 0 e ≤ maxLen := grownCap_le_maxLen w k 0 e (by unfold maxLen; omega)
      rw [Nat.zero_add]
      refine ⟨_, _, hrun, ⟨by simpa using hlen, .inr ⟨w.heap.size, _, _, rfl, hbase, .plain (heap_alloc_new w.drew _), hge, hcm, ?_, ?_⟩⟩, ⟨rfl, rfl, rfl, by simp, fun k hk _ => heap_alloc_old w.drew _ hk⟩, Or.inr rfl⟩
      · simp only [Array.size_append, size_zeroCells, hzs, ← Nat.add_mul]
        congr 1
        omega
      · rw [hmz, Array.toList_append, List.nil_append]
        rw [show k * i.size = news.toArray.toList.length by simp [hnl]]
        simp
  · by_cases hroom : n + k ≤ cap
    · obtain ⟨fz, hg1, hfz⟩ := hg
      have hfit : n * i.size + news.length ≤ cur.size := by rw [hnl, hcs, ← Nat.add_mul]; exact Nat.mul_le_mul_right _ hroom
      have hst := run_storeCells_atT P g (n * i.size) e fz news 0 cur w hg1 hfz (by simpa using hfit) h1
      simp only [Nat.add_zero] at hst
      have hr : (Builtin.append_ #[t, t'] ty #[.slice (some ⟨g, 0, none⟩) n cap, .int kq k]).run P w = .ok (.slice (some ⟨g, 0, none⟩) (n + k) cap) (w.setRow g (cur.toList.take (n * i.size) ++ news ++ cur.toList.drop (n * i.size + news.length)).toArray) := by
        rcases Nat.eq_zero_or_pos k with rfl | hk
        · obtain rfl : news = [] := List.eq_nil_of_length_eq_zero (by simpa using hnl)
          simp [Builtin.append_, run_underlying ht, run_underlying hu', sizeOf, typeInfo, zeroValue, hi, hzv, asInt, asIntOf, IntKind.wrap_i64, hnc, storeCells]
          rw [setRow_self w g cur e fz hg1]
          first | done | rfl
        · have hns : ¬ (k * i.size = 0) := Nat.mul_ne_zero (by omega) (by omega)
          simp [Builtin.append_, run_underlying ht, run_underlying hu', sizeOf, typeInfo, zeroValue, hi, hzv, asInt, asIntOf, hw, hneg, h48i, hns, hroom, hmz, Addr.add_lit, hst]
      have hz2 : (cur.toList.take (n * i.size) ++ news ++ cur.toList.drop (n * i.size + news.length)).toArray.size = cur.size := by
        simp only [List.size_toArray, List.length_append, List.length_take, List.length_drop, Array.length_toList]
        omega
      refine ⟨_, _, hr, ⟨hlen, .inr ⟨g, cap, _, rfl, hbg, ⟨fz, setRow_heap w g cur _ e _ hg1, by rw [hz2]; exact hfz⟩, hroom, hcm, ?_, ?_⟩⟩, ⟨rfl, rfl, rfl, by simp, fun k _ hk => setRow_other w g k _ (fun e => hk (by simp [Value.ownBlock, e]))⟩, Or.inl rfl⟩
      · rw [hz2]; exact hcs
      · rw [htake, ← hlen]
        exact List.take_left
    · have holds : ∀ j u, xs[j]? = some u → w.cell? ((⟨g, 0, none⟩ : Addr).add j) = some u := fun j u hj => by
        rw [add_plain, Nat.zero_add, hg.cell]
        rw [← htake, List.getElem?_take] at hj
        split at hj
        · simpa using hj
        · cases hj
      have hf := run_firstCells_some (P := P) w.drew i.size n ⟨g, 0, none⟩ n cap xs hown.1 (by simpa using holds)
      have hr := Lib.run_append_grow_zeros (P := P) w t t' ty e i zv kq kn ht hu' hi hzv (some ⟨g, 0, none⟩) n cap xs hf k (by omega) hsz (by omega) (by omega) (by omega) (growslice_fits (by omega) hb)
      have hge := grownCap_ge w (n + k) cap e
      have hcm' : grownCap w (n + k) cap e ≤ maxLen := grownCap_le_maxLen w (n + k) cap e h63
      refine ⟨_, _, hr, ⟨hlen, .inr ⟨w.heap.size, _, _, rfl, hbase, .plain (heap_alloc_new w.drew _), hge, hcm', ?_, ?_⟩⟩, ⟨rfl, rfl, rfl, by simp, fun k hk _ => heap_alloc_old w.drew _ hk⟩, Or.inr rfl⟩
      · simp only [Array.size_append, List.size_toArray, size_zeroCells, hzs, hown.1, ← Nat.add_mul]
        congr 1
        omega
      · rw [hmz]
        simp only [Array.toList_append, List.append_assoc]
        rw [← List.append_assoc, ← hlen]
        exact List.take_left

theorem zeros_news (ok : Nat → Prop) (w : World) {E : TD} {z : List Value} (hz : E.zero = some z) (hz1 : z.all (·.oneCell') = true) (hzl : z.length = E.size) (hsz : 0 < E.size) (k : Nat) : ∃ news, IdxR ok w E.size (List.replicate k (z.map cvc)) news ∧ news = (madeCells z.toArray (k * E.size)).toList := by
  refine ⟨_, ?_, rfl⟩
  have h := zeros_idx ok w (z := z) (fun q hq => List.all_eq_true.1 hz1 q hq) (by omega) k k (Nat.le_refl _) z.toArray rfl
  rw [hzl] at h
  rw [List.take_of_length_le (by simp [size_madeCells])] at h
  exact h
theorem step_app_ownz {P : Program} {σ : AS} {dst : Option Tmp} {t t' e type : TypeId} {s x : Operand} {pos : String} {after : Array Edge} {guard : Option (Nat × Bool)} {U D E : TD} {kn : IntKind} (hU : td P t' = some U) (hk : U.ik = some kn) (hD : td P t = some D) (he : D.elem = some e) (hE : td P e = some E) {z : List Value} (hz : E.zero = some z) (hz1 : z.all (·.oneCell') = true) (hzl : z.length = E.size) (hsz : 0 < E.size)
    {kx : IntKind} {nx : Int} (hx' : aev σ x = .c (.int kx nx)) (hx0 : 0 ≤ nx) {L n : Nat} (hs : aev σ s = .own L E.size n) (hrow : rowE σ.h L = some e) {p : Nat × List (List AV)} (hp : elemsA σ.h (.own L E.size n) = some p)
    (hb : (n + nx.toNat) * E.bytes ≤ 140737488355328) (h63 : n + nx.toNat ≤ 9223372036854775807) :
    OpOkS P σ ⟨dst, .call ⟨.builtin .append, #[s, x], #[t, t']⟩, type, pos, after, guard⟩ (.own L E.size (n + nx.toNat)) [] [L] ((killH [] [L] σ.h).set L (some (.row e E.size (p.2 ++ List.replicate nx.toNat (z.map cvc))))) := by
  intro w0 ok0 m ok ρ w hx r
  have q1 := hx s (by simp [Op.operands, Call.operands])
  have q2 := hx x (by simp [Op.operands, Call.operands])
  rw [hs] at q1
  rw [hx'] at q2
  simp only [RepV] at q2
  obtain ⟨kz, rfl⟩ := Int.eq_ofNat_of_zero_le hx0
  simp only [Int.toNat_natCast] at hb h63 ⊢
  obtain ⟨uU, iU, huU, hiU, rfl⟩ := td_some hU
  obtain rfl := ikD_some hk
  obtain ⟨news, hi⟩ := zeros_news ok w hz hz1 hzl hsz kz
  obtain ⟨ob, hm, hov⟩ := q1
  unfold rowE at hrow
  split at hrow
  · rename_i ty st2 es2 hL
    cases hrow
    simp only [elemsA, hL] at hp
    split at hp
    · rename_i hcn
      obtain ⟨rfl, hn⟩ := hcn
      cases hp
      obtain ⟨uD, iD, huD, hiD, rfl⟩ := td_some hD
      obtain rfl := elemD_some he
      have hz0 : w0.heap.size ≤ w.heap.size := r.bel.size
      -- the row as it lay
      have hown : ∃ xs, OwnsT w 0 e E.size (ρ s) n xs ∧ IdxR ok w E.size (es2.take n) xs ∧ (ρ s).ownBlock = ob := by
        cases ob with
        | none =>
          obtain ⟨rfl, hv⟩ := hov
          refine ⟨[], ?_, ?_, by rw [hv]; rfl⟩
          · rw [hv]; exact OwnsT.nil w 0 e E.size
          · rw [List.take_zero]; exact IdxR.nil _ _ _
        | some b =>
          obtain ⟨cap', t', hv, hnc, hcm, hsh⟩ := hov
          obtain ⟨cs, hbk, hidx⟩ := (r.own L _ hL).idx hm hn
          have hcs : cs.size = cap' * E.size := by
            rw [hbk.shape] at hsh
            simp only [Option.some.injEq, Prod.mk.injEq] at hsh
            exact hsh.2
          refine ⟨cs.toList.take (n * E.size), ⟨?_, Or.inr ⟨b, cap', cs, hv, Nat.zero_le _, hbk, hnc, hcm, hcs, rfl⟩⟩, hidx, by rw [hv]; rfl⟩
          have := Nat.mul_le_mul_right E.size hnc
          rw [List.length_take, Array.length_toList (xs := cs), hcs, Nat.min_eq_left this]
      obtain ⟨xs, how, hidx, hob⟩ := hown
      obtain ⟨v', w', hrun, how', hgr, hblk⟩ := run_appz (P := P) (ty := type) (kq := kx) huU huD hE hz hz1 hzl hsz (base := 0) (Nat.zero_le _) how hi.2 (by unfold maxLen; omega) hb
      rw [← q2] at hrun
      rw [hob] at hgr hblk
      refine exec_value (append_run2 hrun) ?_
      have hlen : (xs ++ news).length = (es2.take n ++ List.replicate kz (z.map cvc)).length * E.size := by
        rw [List.length_append, hidx.1, hi.1.1, List.length_append, List.length_replicate, Nat.add_mul]
      have hle : n + (kz) = (es2.take n ++ List.replicate kz (z.map cvc)).length := by rw [List.length_append, List.length_take, Nat.min_eq_left hn, List.length_replicate]
      have hv' : OwnV w' E.size (n + (kz)) v' v'.ownBlock := by
        rcases how'.2 with ⟨h1, h2⟩ | ⟨g, cap2, cur, h1, _, h3, h4, h5, h6, h7⟩
        · rw [h1]; exact ⟨h2, rfl⟩
        · rw [h1]
          exact ⟨cap2, e, rfl, h4, h5, by rw [h3.shape]; simp [h6]⟩
      obtain ⟨g, r'⟩ := r.turn hL hm hgr (ob' := v'.ownBlock) (blk' := .row e E.size (es2.take n ++ List.replicate kz (z.map cvc))) (fun b hb' => by
        refine ⟨?_, ?_⟩
        · rcases hblk with h1 | h1
          · rw [h1] at hb'; exact Or.inl hb'
          · rw [h1] at hb'; cases hb'; exact Or.inr (Nat.le_refl _)
        · rcases how'.2 with ⟨h1, h2⟩ | ⟨gg, cap2, cur, h1, _, h3, h4, h5, h6, h7⟩
          · rw [h1] at hb'; cases hb'
          · rw [h1] at hb'; cases hb'; exact h3.lt) (fun g => by
        have hmm : (m.set L v'.ownBlock)[L]? = some v'.ownBlock := by
          rw [List.getElem?_set, if_pos rfl, if_pos (List.getElem?_eq_some_iff.1 hm).1]
        rcases how'.2 with ⟨h1, h2⟩ | ⟨gg, cap2, cur, h1, _, h3, h4, h5, h6, h7⟩
        · rw [h1] at hmm ⊢
          exact ⟨none, hmm, List.eq_nil_of_length_eq_zero (by rw [← hle, h2])⟩
        · rw [h1] at hmm ⊢
          refine OwnB.of_idx hmm h3 ?_
          rw [← hle, h7]
          exact (hidx.append hi.1).mono g.mo g.cells)
      refine ⟨_, ok, g, r', ⟨v'.ownBlock, ?_, hv'⟩, fun _ => .turn hm (by simp [touchO, hs, namesV]) hgr (fun b hb' => by
        rcases hblk with h1 | h1
        · rw [h1] at hb'; exact Or.inl hb'
        · rw [h1] at hb'; cases hb'; exact Or.inr (Nat.le_refl _))⟩
      rw [List.getElem?_set, if_pos rfl, if_pos (List.getElem?_eq_some_iff.1 hm).1]
    · cases hp
  · cases hrow
end

end Go.Proofs.Ytgjamefpphhobaa.Eng
