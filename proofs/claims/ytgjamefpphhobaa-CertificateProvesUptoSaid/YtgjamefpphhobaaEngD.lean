/- A walk over values in the place of memory, the fourth part: what is less known; programs as functions of values. No program is named here. -/
import Derived.Test.YtgjamefpphhobaaEng
namespace Go.Proofs.Ytgjamefpphhobaa.Eng
set_option linter.unusedVariables false
set_option linter.unusedSimpArgs false
set_option linter.unusedSectionVars false

-- part 25
section
open RowKit
/-! Less may be known: nil is an empty slice of data, and so on, at any depth. -/
mutual
def leV : AV → AV → Prop
  | .nils, y => y = .junk ∨ y = .nils ∨ ∃ st, y = .sl false st []
  | .sl nn st es, y => y = .junk ∨ ∃ nn' es', y = .sl nn' st es' ∧ (nn' = true → nn = true) ∧ leE es es'
  | .dptr xs, y => y = .junk ∨ ∃ ys, y = .dptr ys ∧ leL xs ys
  | .agg xs, y => y = .junk ∨ ∃ ys, y = .agg ys ∧ leL xs ys
  | .tup xs, y => y = .junk ∨ ∃ ys, y = .tup ys ∧ leL xs ys
  | .fn f xs, y => y = .junk ∨ ∃ ys, y = .fn f ys ∧ leL xs ys
  | .mv f xs, y => y = .junk ∨ ∃ ys, y = .mv f ys ∧ leL xs ys
  | .cut st es, y => y = .junk ∨ y = .cut st es
  | .junk, y => y = .junk
  | .c v, y => y = .junk ∨ y = .c v
  | .ptr L j, y => y = .junk ∨ y = .ptr L j
  | .rp L i j, y => y = .junk ∨ y = .rp L i j
  | .mp L, y => y = .junk ∨ y = .mp L
  | .own L st n, y => y = .junk ∨ y = .own L st n
def leL : List AV → List AV → Prop
  | [], l => l = []
  | x :: xs, l => ∃ y ys, l = y :: ys ∧ leV x y ∧ leL xs ys
def leE : List (List AV) → List (List AV) → Prop
  | [], l => l = []
  | x :: xs, l => ∃ y ys, l = y :: ys ∧ leL x y ∧ leE xs ys
end
mutual
theorem leV.refl : ∀ x : AV, leV x x
  | .nils => .inr (.inl rfl)
  | .sl nn st es => .inr ⟨nn, es, rfl, fun h => h, leE.refl es⟩
  | .dptr xs => .inr ⟨xs, rfl, leL.refl xs⟩
  | .agg xs => .inr ⟨xs, rfl, leL.refl xs⟩
  | .tup xs => .inr ⟨xs, rfl, leL.refl xs⟩
  | .fn _ xs => .inr ⟨xs, rfl, leL.refl xs⟩
  | .mv _ xs => .inr ⟨xs, rfl, leL.refl xs⟩
  | .junk => rfl
  | .c _ => .inr rfl
  | .ptr _ _ => .inr rfl
  | .rp _ _ _ => .inr rfl
  | .mp _ => .inr rfl
  | .own _ _ _ => .inr rfl
  | .cut _ _ => .inr rfl
theorem leL.refl : ∀ xs : List AV, leL xs xs
  | [] => rfl
  | x :: xs => ⟨x, xs, rfl, leV.refl x, leL.refl xs⟩
theorem leE.refl : ∀ xs : List (List AV), leE xs xs
  | [] => rfl
  | x :: xs => ⟨x, xs, rfl, leL.refl x, leE.refl xs⟩
end
theorem leL.len : ∀ {xs ys : List AV}, leL xs ys → ys.length = xs.length
  | [], _, h => by rw [show _ = [] from h]
  | x :: xs, _, ⟨y, ys, e, _, h⟩ => by rw [e, List.length_cons, List.length_cons, leL.len h]
theorem leE.len : ∀ {xs ys : List (List AV)}, leE xs ys → ys.length = xs.length
  | [], _, h => by rw [show _ = [] from h]
  | x :: xs, _, ⟨y, ys, e, _, h⟩ => by rw [e, List.length_cons, List.length_cons, leE.len h]
theorem leE.get : ∀ {xs ys : List (List AV)} {i : Nat} {x y : List AV}, leE xs ys → ys[i]? = some y → ∃ x, xs[i]? = some x ∧ leL x y
  | [], _, i, _, _, h, e => by rw [show _ = [] from h] at e; simp at e
  | x :: xs, _, 0, _, _, ⟨y, ys, e, h1, _⟩, hy => by
    rw [e] at hy
    cases hy
    exact ⟨x, rfl, h1⟩
  | x :: xs, _, i + 1, z, _, ⟨y, ys, e, _, h⟩, hy => by
    rw [e] at hy
    obtain ⟨x', h1, h2⟩ := leE.get (x := z) h (by simpa using hy)
    exact ⟨x', by simpa using h1, h2⟩
theorem leL.get : ∀ {xs ys : List AV} {i : Nat} {y : AV}, leL xs ys → ys[i]? = some y → ∃ x, xs[i]? = some x ∧ leV x y
  | [], _, i, _, h, e => by rw [show _ = [] from h] at e; simp at e
  | x :: xs, _, 0, _, ⟨y, ys, e, h1, _⟩, hy => by
    rw [e] at hy
    cases hy
    exact ⟨x, rfl, h1⟩
  | x :: xs, _, i + 1, _, ⟨y, ys, e, _, h⟩, hy => by
    rw [e] at hy
    obtain ⟨x', h1, h2⟩ := leL.get h (by simpa using hy)
    exact ⟨x', by simpa using h1, h2⟩
section
variable {m : List (Option Nat)} {ok : Nat → Prop} {w : World}
mutual
theorem RepD.le : ∀ (x : AV) {y : AV} {v : Value}, leV x y → RepD ok w x v → RepD ok w y v
  | .nils, y, v, h, k => by
    rcases h with rfl | rfl | ⟨st, rfl⟩
    · trivial
    · exact k
    · exact ⟨none, 0, k, ⟨fun h => (by cases h), fun _ => rfl, Nat.le_refl _⟩, fun h0 => by simp at h0⟩
  | .sl nn st es, y, v, h, ⟨A, cap, hv, hn, hr⟩ => by
    rcases h with rfl | ⟨nn', es', rfl, h1, h2⟩
    · trivial
    · refine ⟨A, cap, by rw [leE.len h2]; exact hv, ⟨fun e => hn.1 (h1 e), hn.2.1, by rw [leE.len h2]; exact hn.2.2⟩, fun h0 => ?_⟩
      obtain ⟨b, o, hA, hb, he⟩ := hr (by rw [← leE.len h2]; exact h0)
      exact ⟨b, o, hA, hb, RepEs.le es h2 he⟩
  | .dptr xs, y, v, h, ⟨b, o, hv, hb, hr⟩ => by
    rcases h with rfl | ⟨ys, rfl, h2⟩
    · trivial
    · exact ⟨b, o, hv, hb, RepCs.le xs h2 hr⟩
  | .agg xs, y, v, h, ⟨vs, hv, hr, h1⟩ => by
    rcases h with rfl | ⟨ys, rfl, h2⟩
    · trivial
    · exact ⟨vs, hv, RepDL.le xs h2 hr, h1⟩
  | .tup xs, y, v, h, ⟨vs, hv, hr⟩ => by
    rcases h with rfl | ⟨ys, rfl, h2⟩
    · trivial
    · exact ⟨vs, hv, RepDL.le xs h2 hr⟩
  | .fn f xs, y, v, h, ⟨vs, hv, hr⟩ => by
    rcases h with rfl | ⟨ys, rfl, h2⟩
    · trivial
    · exact ⟨vs, hv, RepDL.le xs h2 hr⟩
  | .mv f xs, y, v, h, ⟨vs, hv, hr⟩ => by
    rcases h with rfl | ⟨ys, rfl, h2⟩
    · trivial
    · exact ⟨vs, hv, RepDL.le xs h2 hr⟩
  | .junk, y, v, h, k => by rw [show y = .junk from h]; trivial
  | .c u, y, v, h, k => by
    rcases h with rfl | rfl
    · trivial
    · exact k
  | .cut st es, y, v, h, k => by
    rcases h with rfl | rfl
    · trivial
    · exact k
  | .ptr _ _, _, _, _, k => k.elim
  | .rp _ _ _, _, _, _, k => k.elim
  | .mp _, _, _, _, k => k.elim
  | .own _ _ _, _, _, _, k => k.elim
theorem RepDL.le : ∀ (xs : List AV) {ys : List AV} {l : List Value}, leL xs ys → RepDL ok w xs l → RepDL ok w ys l
  | [], _, _, h, k => by rw [show _ = [] from h]; exact k
  | x :: xs, _, _, ⟨y, ys, e, h1, h2⟩, ⟨u, us, hl, hx, hr⟩ => by
    rw [e]
    exact ⟨u, us, hl, RepD.le x h1 hx, RepDL.le xs h2 hr⟩
theorem RepCs.le : ∀ (xs : List AV) {ys : List AV} {b o : Nat}, leL xs ys → RepCs ok w b o xs → RepCs ok w b o ys
  | [], _, _, _, h, k => by rw [show _ = [] from h]; exact k
  | x :: xs, _, _, _, ⟨y, ys, e, h1, h2⟩, ⟨⟨u, hc, ho, hx⟩, hr⟩ => by
    rw [e]
    exact ⟨⟨u, hc, ho, RepD.le x h1 hx⟩, RepCs.le xs h2 hr⟩
theorem RepEs.le : ∀ (es : List (List AV)) {fs : List (List AV)} {st b o : Nat}, leE es fs → RepEs ok w st b o es → RepEs ok w st b o fs
  | [], _, _, _, _, h, k => by rw [show _ = [] from h]; exact k
  | x :: xs, _, _, _, _, ⟨y, ys, e, h1, h2⟩, ⟨hl, hc, hr⟩ => by
    rw [e]
    exact ⟨by rw [leL.len h1]; exact hl, RepCs.le x h1 hc, RepEs.le xs h2 hr⟩
end
mutual
theorem RepV.le : ∀ (x : AV) {y : AV} {v : Value}, leV x y → RepV m ok w x v → RepV m ok w y v
  | .nils, y, v, h, k => by
    rcases h with rfl | rfl | ⟨st, rfl⟩
    · trivial
    · exact k
    · exact RepD.le .nils (.inr (.inr ⟨st, rfl⟩)) k
  | .sl nn st es, y, v, h, k => by
    rcases h with rfl | ⟨nn', es', rfl, h1, h2⟩
    · trivial
    · exact RepD.le (.sl nn st es) (.inr ⟨nn', es', rfl, h1, h2⟩) k
  | .dptr xs, y, v, h, k => by
    rcases h with rfl | ⟨ys, rfl, h2⟩
    · trivial
    · exact RepD.le (.dptr xs) (.inr ⟨ys, rfl, h2⟩) k
  | .agg xs, y, v, h, ⟨vs, hv, hr, h1⟩ => by
    rcases h with rfl | ⟨ys, rfl, h2⟩
    · trivial
    · exact ⟨vs, hv, RepL.le xs h2 hr, h1⟩
  | .tup xs, y, v, h, ⟨vs, hv, hr⟩ => by
    rcases h with rfl | ⟨ys, rfl, h2⟩
    · trivial
    · exact ⟨vs, hv, RepL.le xs h2 hr⟩
  | .fn f xs, y, v, h, ⟨vs, hv, hr⟩ => by
    rcases h with rfl | ⟨ys, rfl, h2⟩
    · trivial
    · exact ⟨vs, hv, RepL.le xs h2 hr⟩
  | .mv f xs, y, v, h, ⟨vs, hv, hr⟩ => by
    rcases h with rfl | ⟨ys, rfl, h2⟩
    · trivial
    · exact ⟨vs, hv, RepL.le xs h2 hr⟩
  | .junk, y, v, h, k => by rw [show y = .junk from h]; trivial
  | .cut st es, y, v, h, k => by
    rcases h with rfl | rfl
    · trivial
    · exact k
  | .c u, y, v, h, k => by
    rcases h with rfl | rfl
    · trivial
    · exact k
  | .ptr _ _, y, _, h, k => by
    rcases h with rfl | rfl
    · trivial
    · exact k
  | .rp _ _ _, y, _, h, k => by
    rcases h with rfl | rfl
    · trivial
    · exact k
  | .mp _, y, _, h, k => by
    rcases h with rfl | rfl
    · trivial
    · exact k
  | .own _ _ _, y, _, h, k => by
    rcases h with rfl | rfl
    · trivial
    · exact k
theorem RepL.le : ∀ (xs : List AV) {ys : List AV} {l : List Value}, leL xs ys → RepL m ok w xs l → RepL m ok w ys l
  | [], _, _, h, k => by rw [show _ = [] from h]; exact k
  | x :: xs, _, _, ⟨y, ys, e, h1, h2⟩, ⟨u, us, hl, hx, hr⟩ => by
    rw [e]
    exact ⟨u, us, hl, RepV.le x h1 hx, RepL.le xs h2 hr⟩
end
end

def leBk : Blk → Blk → Prop
  | .var t cs, .var t' cs' => t' = t ∧ leL cs cs'
  | .row e st es, .row e' st' es' => e' = e ∧ st' = st ∧ leE es es'
  | .map k es, .map k' es' => k' = k ∧ es' = es
  | _, _ => False
theorem OwnB.le {m : List (Option Nat)} {ok : Nat → Prop} {w : World} {L : Nat} : ∀ {x y : Blk}, leBk x y → OwnB m ok w L x → OwnB m ok w L y
  | .var t cs, .var t' cs', h0, ⟨b, vs, hm, hb, hr, h1⟩ => by
    obtain ⟨rfl, h⟩ := h0
    exact ⟨b, vs, hm, hb, RepL.le cs h hr, h1⟩
  | .row e st es, .row e' st' es', h0, ⟨ob, hm, hx⟩ => by
    obtain ⟨rfl, rfl, h⟩ := h0
    refine ⟨ob, hm, ?_⟩
    cases ob with
    | none =>
      rw [show es = [] from hx] at h
      exact h
    | some b =>
      obtain ⟨cs, hb, hl, hr⟩ := hx
      refine ⟨cs, hb, by rw [leE.len h]; exact hl, fun i y hy => ?_⟩
      obtain ⟨x, h1, h2⟩ := leE.get (x := y) h hy
      obtain ⟨h3, h4⟩ := hr i x h1
      refine ⟨by rw [leL.len h2]; exact h3, fun j z hz => ?_⟩
      obtain ⟨u, h5, h6⟩ := leL.get h2 hz
      obtain ⟨v, h7, h8, h9⟩ := h4 j u h5
      exact ⟨v, h7, h8, RepD.le u h6 h9⟩
  | .map k es, .map k' es', h0, h => by
    obtain ⟨rfl, rfl⟩ := h0
    exact h
  | .var .., .row .., h, _ => h.elim
  | .var .., .map .., h, _ => h.elim
  | .row .., .var .., h, _ => h.elim
  | .row .., .map .., h, _ => h.elim
  | .map .., .var .., h, _ => h.elim
  | .map .., .row .., h, _ => h.elim

/-- The slots, with less known. -/
def WeakV (t : List (Nat × AV)) : List (Nat × AV) → Prop
  | [] => True
  | (i, v) :: r => leV (slot t i) v ∧ WeakV t r
theorem WeakV.slot {t : List (Nat × AV)} {m : List (Option Nat)} {ok : Nat → Prop} {w : World} : ∀ {t' : List (Nat × AV)} (i : Nat) {v : Value}, WeakV t t' → RepV m ok w (slot t i) v → RepV m ok w (slot t' i) v
  | [], _, _, _, _ => trivial
  | (j, x) :: r, i, v, ⟨h1, h2⟩, hv => by
    unfold Eng.slot
    split
    · rename_i e
      subst e
      exact RepV.le _ h1 hv
    · exact WeakV.slot i h2 hv
/-- The first blocks, with less known. -/
def HeapV : Heap → Heap → Prop
  | _, [] => True
  | [], _ :: _ => False
  | a :: r, b :: r' => (match b with
    | none => True
    | some y => ∃ x, a = some x ∧ leBk x y) ∧ HeapV r r'
theorem HeapV.len : ∀ {h h' : Heap}, HeapV h h' → h'.length ≤ h.length
  | _, [], _ => Nat.zero_le _
  | [], _ :: _, h => h.elim
  | a :: r, b :: r', ⟨_, h⟩ => by
    have := HeapV.len h
    simp only [List.length_cons]
    omega
theorem HeapV.get : ∀ {h h' : Heap} {L : Nat} {y : Blk}, HeapV h h' → h'[L]? = some (some y) → ∃ x, h[L]? = some (some x) ∧ leBk x y
  | _, [], _, _, _, e => by simp at e
  | [], _ :: _, _, _, h, _ => h.elim
  | a :: r, b :: r', 0, _, ⟨h, _⟩, e => by
    simp at e
    subst e
    obtain ⟨x, h1, h2⟩ := h
    exact ⟨x, by simp [h1], h2⟩
  | a :: r, b :: r', L + 1, _, ⟨_, h⟩, e => by
    obtain ⟨x, h1, h2⟩ := HeapV.get (L := L) h (by simpa using e)
    exact ⟨x, by simpa using h1, h2⟩
theorem HRel.le {w0 : World} {ok0 : Nat → Prop} {m : List (Option Nat)} {ok : Nat → Prop} {h h' : Heap} {w : World} (r : HRel w0 ok0 m ok h w) (e : HeapV h h') (hr : refsH h'.length h' = true) : HRel w0 ok0 (m.take h'.length) ok h' w := by
  have get : ∀ {L : Nat} {b : Option Nat}, (m.take h'.length)[L]? = some b → m[L]? = some b := fun {L b} hm => by
    rw [List.getElem?_take] at hm
    split at hm
    · exact hm
    · cases hm
  refine ⟨by rw [List.length_take, r.len]; have := e.len; omega, fun L blk hL => ?_, fun L L' b h1 h2 => r.inj L L' b (get h1) (get h2), fun L b blk hL hm => ?_, fun L b hm => r.new L b (get hm), r.okb, r.oko, r.bel, r.tab⟩
  · have h2 := (List.getElem?_eq_some_iff.1 hL).1
    obtain ⟨x, h1, hle⟩ := e.get hL
    have ho := OwnB.le hle (r.own L x h1)
    cases blk with
    | var t xs =>
      obtain ⟨b, cs, hm, hb, hx, hone⟩ := ho
      exact ⟨b, cs, trim_get h2 hm, hb, RepL.trim xs (refsH_get hr hL) hx, hone⟩
    | row e st es =>
      obtain ⟨ob, hm, hx⟩ := ho
      exact ⟨ob, trim_get h2 hm, hx⟩
    | map k es =>
      obtain ⟨b, l, clock, hm, hx⟩ := ho
      exact ⟨b, l, clock, trim_get h2 hm, hx⟩
  · obtain ⟨x, h1, hle⟩ := e.get hL
    exact r.nok L b x h1 (get hm)
theorem LeS.weak {σ σ' : AS} (hn : σ.n = σ'.n) (ht : WeakV σ.t σ'.t) (hh : HeapV σ.h σ'.h) (k1 : refsT σ'.h.length σ'.t = true) (k2 : refsH σ'.h.length σ'.h = true) : LeS σ σ' :=
  ⟨hn, fun w0 ok0 m ok w ρ h4 h3 => ⟨m.take σ'.h.length, ok, h4.le hh k2, fun i => RepV.trim _ (refsT_slot i k1) (WeakV.slot i ht (h3 i))⟩⟩

/-- A name for a block that there is not yet. -/
theorem HRel.grow {w0 : World} {ok0 : Nat → Prop} {m : List (Option Nat)} {ok : Nat → Prop} {h : Heap} {w : World} (r : HRel w0 ok0 m ok h w) (e : TypeId) (st : Nat) : HRel w0 ok0 (m ++ [none]) ok (h ++ [some (.row e st [])]) w := by
  have get : ∀ {L b : Nat}, (m ++ [none])[L]? = some (some b) → m[L]? = some (some b) := fun {L b} hm => by
    rw [List.getElem?_append] at hm
    split at hm
    · exact hm
    · rename_i hlt
      cases hk : L - m.length with
      | zero => rw [hk] at hm; simp at hm
      | succ j => rw [hk] at hm; simp at hm
  have mono : ∀ (L : Nat) b, m[L]? = some b → (m ++ [none])[L]? = some b := fun L b hm => by
    rw [List.getElem?_append_left (List.getElem?_eq_some_iff.1 hm).1]; exact hm
  refine ⟨by simp [r.len], fun L blk hL => ?_, fun L L' b h1 h2 => r.inj L L' b (get h1) (get h2), fun L b blk hL hm => ?_, fun L b hm => r.new L b (get hm), r.okb, r.oko, r.bel, r.tab⟩
  · rw [List.getElem?_append] at hL
    split at hL
    · have ho := r.own L blk hL
      cases blk with
      | var t xs =>
        obtain ⟨b, cs, hm, hb, hx, hone⟩ := ho
        exact ⟨b, cs, mono _ _ hm, hb, RepL.mono0 mono (fun _ h => h) (fun _ _ _ => rfl) (fun _ _ _ _ h => h) xs hx, hone⟩
      | row e st es =>
        obtain ⟨ob, hm, hx⟩ := ho
        exact ⟨ob, mono _ _ hm, hx⟩
      | map k es =>
        obtain ⟨b, l, clock, hm, hx⟩ := ho
        exact ⟨b, l, clock, mono _ _ hm, hx⟩
    · rename_i hlt
      cases hk : L - h.length with
      | succ j => rw [hk] at hL; simp at hL
      | zero =>
        rw [hk] at hL
        simp at hL
        subst hL
        have hL' : L = m.length := by rw [r.len]; omega
        subst hL'
        exact ⟨none, by simp, rfl⟩
  · have hm' := get hm
    have hlt := (List.getElem?_eq_some_iff.1 hm').1
    rw [r.len] at hlt
    rw [List.getElem?_append_left hlt] at hL
    exact r.nok L b blk hL hm'
theorem RepV.growM {m : List (Option Nat)} {ok : Nat → Prop} {w : World} {x : AV} {v : Value} (h : RepV m ok w x v) : RepV (m ++ [none]) ok w x v :=
  RepV.mono0 (fun L b hm => by rw [List.getElem?_append_left (List.getElem?_eq_some_iff.1 hm).1]; exact hm) (fun _ h => h) (fun _ _ _ => rfl) (fun _ _ _ _ h => h) x h
/-- A slice that is nil is one of the call's own. -/
theorem LeS.own {n : Nat} {t : List (Nat × AV)} {h : Heap} (i : Nat) (e : TypeId) (st : Nat) (hs : slot t i = .nils) : LeS ⟨n, t, h⟩ ⟨n, (i, .own h.length st 0) :: t, h ++ [some (.row e st [])]⟩ :=
  ⟨rfl, fun w0 ok0 m ok w ρ h4 h3 => ⟨m ++ [none], ok, h4.grow e st, fun j => by
    show RepV _ _ _ (slot ((i, _) :: t) j) _
    unfold slot
    split
    · rename_i e'
      subst e'
      have := h3 i
      simp only [hs] at this
      exact ⟨none, by simp [← h4.len], rfl, this⟩
    · exact (h3 j).growM⟩⟩
/-- The end of a function: what it returns, or more than that. -/
def retV (P : Program) (rs : List ResultVar) (res : AV) : AX → AS → Prop := fun e σ =>
  notExit e ∧ resA P σ rs fun vs => elO (toD σ.h (oneA vs)) fun r => leV r res

theorem meetsV_of {X : Bool} {P : Program} {f : FuncId} {fn : Func} {c : Code} {args : List AV} {res : AV} (hm : P.follows .mixedOrders = true) (hf : P.funcs[f]? = some fn) (hname : (fn.name == "runtime.NumGoroutine") = false) (hb : fn.body = some c) (hc : okF fn c = true) (hn : args.length ≤ fn.ntmps)
    (h : awp X P noY c (retV P fn.results.toList res) ⟨fn.ntmps, argT args 0, []⟩) : Meets P f args res := by
  simp only [okF, Bool.and_eq_true] at hc
  refine ⟨Proofs.enters_of hf hname hb, fun ok w vs hok hd => ?_⟩
  have hl := hd.length
  have hr : RelS w ok none w (fun _ => undef) ⟨fn.ntmps, argT args 0, []⟩ { tmps := vs.toArray ++ Array.replicate (fn.ntmps - vs.toArray.size) undef, defers := [] } w := by
    refine ⟨[], ok, .start none w rfl, by simp; omega, fun i => ?_, ⟨rfl, fun L blk hL => by simp at hL, fun L L' b h1 _ => by simp at h1, fun L b blk hL _ => by simp at hL, fun L b hL => by simp at hL, hok.1, fun b hb => Or.inl hb, Below.refl _ _, hok.2⟩⟩
    unfold valX
    split
    · exact enter_rel (m := []) hd.rep hn i (by assumption)
    · rename_i hi
      have := argT_look (m := []) 0 i (hd.rep (m := []))
      rw [if_pos (Nat.zero_le _), Nat.sub_zero, List.getD_eq_getElem?_getD, List.getElem?_eq_none (by simp only at hi; omega)] at this
      exact this
  have key : CallsIn Fence.wide 0 P f vs.toArray w fun e w' => ∃ v, e = .returned v ∧ RepD (fun b => ok b ∨ (w.heap.size ≤ b ∧ b < w'.heap.size)) w' res v ∧ Below w.heap.size w w' := by
    refine callsIn_of_wp_marks (F := FW none) hf hb trivial (wpIn_mono (awp_ok (rr := none) hm (noY_sound P _ w _) c _ _ _ w hc.1 (Or.inl rfl) rfl h hr) fun e a w' hp => ?_)
    obtain ⟨q, σ, rfl, hn', hq, hr'⟩ := hp
    obtain ⟨hq1, hq2⟩ := hq
    obtain ⟨m, ok', ⟨hko, Ds, hds, hnd, _, hD⟩, hs, ht, r⟩ := hr'
    have fin : ∀ w'', Took w w' w'' → ∃ v, (results fn a.tmps).run P w'' = .ok v w'' ∧ ∃ v', Ending.returned v = .returned v' ∧ RepD (fun b => ok b ∨ (w.heap.size ≤ b ∧ b < w''.heap.size)) w'' res v' ∧ Below w.heap.size w w'' := fun w'' tk => by
      have r2 := r.took tk (Nat.le_refl _)
      obtain ⟨xs, v, hK, hv, hrv⟩ := results_ok (a := a) (fun i hi => by
        have := ht i
        unfold valX at this
        rw [if_pos (by rw [hn']; exact hi)] at this
        exact tk.rep _ this) r2.own hc.2 hq2
      obtain ⟨rr, hrr, hle⟩ := elO_ex hK
      have hD := RepD.le rr hle (toD_ok r2.own _ hrr hrv)
      refine ⟨v, hv, v, rfl, RepD.mono (fun b hb => ?_) (fun _ _ _ => rfl) res hD, r2.bel⟩
      rcases hb with hb | ⟨L, _, hb⟩
      · rcases r2.oko b hb with h1 | h1
        · exact Or.inl h1
        · exact Or.inr ⟨h1, r2.okb b hb⟩
      · exact Or.inr (r2.new L b hb)
    cases q with
    | norm => show LeavesInM _ _ _ _ _ _ _ _ _; rw [hds]; exact leaves_marks Ds w' hnd hD fin
    | ret => show LeavesInM _ _ _ _ _ _ _ _ _; rw [hds]; exact leaves_marks Ds w' hnd hD fin
    | exit id => exact hq1.elim
  exact callsIn_wide.1 key


theorem Meets.le {P : Program} {f : FuncId} {args args' : List AV} {res : AV} (h : Meets P f args res) (ha : leL args' args) : Meets P f args' res := h.args fun _ _ _ hd => RepDL.le args' ha hd
theorem retV_is (P : Program) (rs : List ResultVar) (res : AV) (e : AX) (σ : AS) : retV P rs res e σ = (notExit e ∧ resA P σ rs fun vs => elO (toD σ.h (oneA vs)) fun r => leV r res) := Eq.trans rfl rfl
end

-- part 26
section
open RowKit
/-! What a program makes of values, as a function: loops. -/
inductive St (S R : Type) where
  | nx (s : S)
  | br (s : S)
  | rt (r : R)
def St.on {S R T : Type} (f g : S → T) (h : R → T) : St S R → T
  | .nx s => f s
  | .br s => g s
  | .rt r => h r
/-- n rounds, the first with number k. -/
def forI {S R : Type} (f : Nat → S → Option (St S R)) : Nat → Nat → S → Option (S ⊕ R)
  | 0, _, s => some (.inl s)
  | m + 1, k, s => (f k s).bind (St.on (fun s' => forI f m (k + 1) s') (fun s' => some (.inl s')) (fun r => some (.inr r)))
def forC {S R : Type} (n : Nat) (s : S) (f : Nat → S → Option (St S R)) : Option (S ⊕ R) := if n ≤ 9223372036854775807 then forI f n 0 s else none
/-- Rounds until one ends the loop, at most so many. -/
def whlI {S R : Type} (f : S → Option (St S R)) : Nat → S → Option (S ⊕ R)
  | 0, _ => none
  | m + 1, s => (f s).bind (St.on (fun s' => whlI f m s') (fun s' => some (.inl s')) (fun r => some (.inr r)))
def whlC {S R : Type} (s : S) (f : S → Option (St S R)) : Option (S ⊕ R) := whlI f 18446744073709551616 s
def idxO {α : Type} (l : List α) (i : Int) : Option α := if 0 ≤ i then l[i.toNat]? else none
def idxB (s : ByteArray) (i : Int) : Option UInt8 := if 0 ≤ i then s[i.toNat]? else none
/-- Only if. -/
def iffO {α : Type} (c : Bool) (x : Option α) : Option α := if c = true then x else none

theorem bindS {α β : Type} {o : Option α} {f : α → Option β} {r : β} (h : o.bind f = some r) : ∃ a, o = some a ∧ f a = some r := by
  cases o with
  | none => cases h
  | some a => exact ⟨a, rfl, h⟩
theorem idxO_some {α : Type} {l : List α} {i : Int} {x : α} (h : idxO l i = some x) : 0 ≤ i ∧ i.toNat < l.length ∧ l[i.toNat]? = some x := by
  unfold idxO at h
  split at h
  · exact ⟨by assumption, (List.getElem?_eq_some_iff.1 h).1, h⟩
  · cases h
theorem idxB_some {s : ByteArray} {i : Int} {x : UInt8} (h : idxB s i = some x) : 0 ≤ i ∧ s[i.toNat]? = some x := by
  unfold idxB at h
  split at h
  · exact ⟨by assumption, h⟩
  · cases h
theorem iffO_some {α : Type} {c : Bool} {x : Option α} {r : α} (h : iffO c x = some r) : c = true ∧ x = some r := by
  unfold iffO at h
  split at h
  · exact ⟨by assumption, h⟩
  · cases h
/-- Texts are equal; one is before the other. -/
def eqB (a b : ByteArray) : Bool := a.data.toList == b.data.toList
def lessB (a b : ByteArray) : Bool := Op.bytesLess a.data.toList b.data.toList
theorem eqB_is (a b : ByteArray) : (a.toList == b.toList) = eqB a b := by unfold eqB; rw [ByteArray.toList_eq, ByteArray.toList_eq]
theorem lessB_is (a b : ByteArray) : Op.bytesLess a.toList b.toList = lessB a b := by unfold lessB; rw [ByteArray.toList_eq, ByteArray.toList_eq]
theorem eqB_iff {a b : ByteArray} : eqB a b = true ↔ a = b := by
  unfold eqB
  rw [beq_iff_eq]
  constructor
  · intro h
    cases a; cases b
    simp only at h
    rw [Array.toList_inj.1 h]
  · rintro rfl; rfl
theorem eqB_self (a : ByteArray) : eqB a a = true := eqB_iff.2 rfl
theorem take_map_self {α β : Type} (f : α → β) (l : List α) : (l.map f).take l.length = l.map f := List.take_of_length_le (by simp)
theorem get_map {α β : Type} (f : α → β) {l : List α} {i : Nat} {x : α} (h : l[i]? = some x) : (l.map f)[i]? = some (f x) := by rw [List.getElem?_map, h]; rfl

/-- The loop with a number that counts its rounds. -/
theorem loop_for {B : (AX → AS → Prop) → AS → Prop} {Q : AX → AS → Prop} {σ : AS} {S R T : Type} {f : Nat → S → Option (St S R)} {n : Nat} {s0 : S} {c : S ⊕ R → Option T} {r : T} (hr : (forC n s0 f).bind c = some r) (st : Nat → S → AS) (h0 : LeS σ (st 0 s0))
    (hb : ∀ k s q, k < n → n ≤ 9223372036854775807 → IntKind.i64.wrap ((k : Int) + 1) = ((k + 1 : Nat) : Int) → decide ((k : Int) < (n : Int)) = true → f k s = some q → St.on (fun _ => True) (fun s' => c (.inl s') = some r) (fun r' => c (.inr r') = some r) q → ∀ K : AS → Prop, (∀ s' σ', q = .nx s' → LeS σ' (st (k + 1) s') → K σ') → B (loopQ Q K) (st k s))
    (he : ∀ s, c (.inl s) = some r → n ≤ 9223372036854775807 → decide ((n : Int) < (n : Int)) = false → ∀ K : AS → Prop, B (loopQ Q K) (st n s)) : LoopA B Q σ := by
  have hn : n ≤ 9223372036854775807 ∧ (forI f n 0 s0).bind c = some r := by
    unfold forC at hr
    split at hr
    · exact ⟨by assumption, hr⟩
    · cases hr
  refine loop_v (fun a : Nat × S => a.1 ≤ n ∧ (forI f (n - a.1) a.1 a.2).bind c = some r) (fun a => st a.1 a.2) (fun a => n - a.1) (0, s0) ⟨Nat.zero_le _, hn.2⟩ h0 ?_
  rintro ⟨k, s⟩ ⟨hk, hf⟩ K hK
  simp only at hk hf hK ⊢
  by_cases hlt : k < n
  · obtain ⟨m, hm⟩ : ∃ m, n - k = m + 1 := ⟨n - k - 1, by omega⟩
    rw [hm, forI] at hf
    obtain ⟨q', hq', hc'⟩ := bindS hf
    obtain ⟨q, hq, hc⟩ := bindS hq'
    refine hb k s q hlt hn.1 (by rw [IntKind.wrap_i64]; omega) (decide_eq_true (by omega)) hq ?_ K fun s' σ' hs hle => ?_
    · cases q with
      | nx s' => trivial
      | br s' => cases hc; exact hc'
      | rt r' => cases hc; exact hc'
    · subst hs
      refine hK (k + 1, s') σ' ⟨hlt, ?_⟩ (by simp only; omega) hle
      simp only [St.on] at hc
      rw [show n - (k + 1) = m by omega, hc]
      exact hc'
  · obtain rfl : k = n := by omega
    rw [Nat.sub_self, forI] at hf
    exact he s hf hn.1 (decide_eq_false (by omega)) K
/-- Any loop. -/
theorem loop_whl {B : (AX → AS → Prop) → AS → Prop} {Q : AX → AS → Prop} {σ : AS} {S R T : Type} {f : S → Option (St S R)} {s0 : S} {c : S ⊕ R → Option T} {r : T} (hr : (whlC s0 f).bind c = some r) (st : S → AS) (h0 : LeS σ (st s0))
    (hb : ∀ s q, f s = some q → St.on (fun _ => True) (fun s' => c (.inl s') = some r) (fun r' => c (.inr r') = some r) q → ∀ K : AS → Prop, (∀ s' σ', q = .nx s' → LeS σ' (st s') → K σ') → B (loopQ Q K) (st s)) : LoopA B Q σ := by
  refine loop_v (fun a : Nat × S => (whlI f a.1 a.2).bind c = some r) (fun a => st a.2) (fun a => a.1) (_, s0) hr h0 ?_
  rintro ⟨m, s⟩ hf K hK
  simp only at hf hK ⊢
  cases m with
  | zero => cases hf
  | succ m =>
    rw [whlI] at hf
    obtain ⟨q', hq', hc'⟩ := bindS hf
    obtain ⟨q, hq, hc⟩ := bindS hq'
    refine hb s q hq ?_ K fun s' σ' hs hle => ?_
    · cases q with
      | nx s' => trivial
      | br s' => cases hc; exact hc'
      | rt r' => cases hc; exact hc'
    · subst hs
      refine hK (m, s') σ' ?_ (by simp only; omega) hle
      simp only [St.on] at hc
      rw [hc]
      exact hc'

/-! Facts on what is less known, for rewriting. -/
theorem leV_refl (x : AV) : leV x x = True := eq_true (leV.refl x)
theorem leL_refl (x : List AV) : leL x x = True := eq_true (leL.refl x)
theorem leE_refl (x : List (List AV)) : leE x x = True := eq_true (leE.refl x)
theorem leV_nil (st : Nat) : leV .nils (.sl false st []) = True := eq_true (.inr (.inr ⟨st, rfl⟩))
theorem leV_sl (nn : Bool) (st st' : Nat) (es es' : List (List AV)) (h : st = st') (k : leE es es') : leV (.sl nn st es) (.sl false st' es') := .inr ⟨false, es', by rw [h], fun h => (by cases h), k⟩
theorem leV_agg (xs ys : List AV) (h : leL xs ys) : leV (.agg xs) (.agg ys) := .inr ⟨ys, rfl, h⟩
theorem leV_tup (xs ys : List AV) (h : leL xs ys) : leV (.tup xs) (.tup ys) := .inr ⟨ys, rfl, h⟩
theorem leL_cons (x y : AV) (xs ys : List AV) (h : leV x y) (k : leL xs ys) : leL (x :: xs) (y :: ys) := ⟨y, ys, rfl, h, k⟩
theorem leE_cons (x y : List AV) (xs ys : List (List AV)) (h : leL x y) (k : leE xs ys) : leE (x :: xs) (y :: ys) := ⟨y, ys, rfl, h, k⟩
/-- Some blocks become data. -/
theorem LeS.freeze {n : Nat} {t : List (Nat × AV)} {h : Heap} (ks : List Nat) : LeS ⟨n, t, h⟩ ⟨n, killT h ks t, killH h ks (dropL ks h)⟩ :=
  ⟨rfl, fun w0 ok0 m ok w ρ h4 h3 => by
    obtain ⟨g, r⟩ := h4.freeze ks
    exact ⟨m, _, r, fun i => killT_look g t i (h3 i)⟩⟩

/-! Maps with texts as keys. -/
def mapG {V : Type} (k : ByteArray) : List (ByteArray × V) → Option V
  | [] => none
  | p :: r => if eqB p.1 k = true then some p.2 else mapG k r
def mapP {V : Type} (k : ByteArray) (x : V) : List (ByteArray × V) → List (ByteArray × V)
  | [] => [(k, x)]
  | p :: r => if eqB p.1 k = true then (k, x) :: r else p :: mapP k x r
def mapV {V : Type} (f : V → AV) (l : List (ByteArray × V)) : List (MK × AV) := l.map fun p => (.s p.1, f p.2)
theorem mapV_nil {V : Type} (f : V → AV) : mapV f [] = [] := rfl
theorem mapG_mget {V : Type} (f : V → AV) (k : ByteArray) : ∀ l : List (ByteArray × V), mget (.s k) (mapV f l) = (mapG k l).map f
  | [] => rfl
  | p :: r => by
    simp only [mapV, List.map_cons, mget, mapG, MK.s.injEq]
    by_cases h : p.1 = k
    · rw [if_pos h, if_pos (eqB_iff.2 h)]; rfl
    · rw [if_neg h, if_neg (fun e => h (eqB_iff.1 e))]; exact mapG_mget f k r
theorem mapG_is {V : Type} (f : V → AV) (z : V) (A : AV) (hA : A = f z) (k : ByteArray) (l : List (ByteArray × V)) (K : AV → Prop) : lookK false A K (mget (.s k) (mapV f l)) = K (f ((mapG k l).getD z)) := by
  rw [mapG_mget, hA]
  cases mapG k l <;> rfl
theorem mapP_is {V : Type} (f : V → AV) (x : V) (A : AV) (hA : A = f x) (k : ByteArray) : ∀ l : List (ByteArray × V), mput (.s k) A (mapV f l) = mapV f (mapP k x l)
  | [] => by rw [hA]; rfl
  | p :: r => by
    simp only [mapV, List.map_cons, mput, mapP, MK.s.injEq]
    by_cases h : p.1 = k
    · rw [if_pos h, if_pos (eqB_iff.2 h), hA]; rfl
    · rw [if_neg h, if_neg (fun e => h (eqB_iff.1 e)), List.map_cons]
      congr 1
      exact mapP_is f x A hA k r
theorem mapV_len {V : Type} (f : V → AV) (l : List (ByteArray × V)) : (mapV f l).length = l.length := List.length_map ..
def insL (k : List UInt8) : List (List UInt8) → List (List UInt8)
  | [] => [k]
  | x :: r => if leB k x = true then k :: x :: r else x :: insL k r
def isort (l : List (List UInt8)) : List (List UInt8) := l.foldr insL []
theorem leB_tr (a b c : List UInt8) (h1 : leB a b = true) (h2 : leB b c = true) : leB a c = true := by
  simp only [leB, decide_eq_true_eq] at *; exact List.le_trans h1 h2
theorem leB_to (a b : List UInt8) : (leB a b || leB b a) = true := by
  simp only [leB, Bool.or_eq_true, decide_eq_true_eq]; exact List.le_total a b
theorem leB_as {a b : List UInt8} (h1 : leB a b = true) (h2 : leB b a = true) : a = b := by
  simp only [leB, decide_eq_true_eq] at *; exact List.le_antisymm h1 h2
theorem insL_perm (k : List UInt8) : ∀ l, (insL k l).Perm (k :: l)
  | [] => .refl _
  | x :: r => by
    unfold insL
    split
    · exact .refl _
    · exact ((insL_perm k r).cons x).trans (.swap k x r)
theorem isort_perm : ∀ l, (isort l).Perm l
  | [] => .refl _
  | k :: l => (insL_perm k _).trans ((isort_perm l).cons k)
theorem insL_sorted (k : List UInt8) : ∀ l, l.Pairwise (fun a b => leB a b = true) → (insL k l).Pairwise (fun a b => leB a b = true)
  | [], _ => by simp [insL]
  | x :: r, h => by
    obtain ⟨h1, h2⟩ := List.pairwise_cons.1 h
    unfold insL
    split
    · rename_i hk
      exact List.pairwise_cons.2 ⟨fun y hy => (List.mem_cons.1 hy).elim (fun e => e ▸ hk) (fun hy => leB_tr _ _ _ hk (h1 y hy)), h⟩
    · rename_i hk
      have hx : leB x k = true := by
        have := leB_to k x
        rcases Bool.or_eq_true_iff.1 this with h | h
        · exact absurd h hk
        · exact h
      refine List.pairwise_cons.2 ⟨fun y hy => ?_, insL_sorted k r h2⟩
      rcases List.mem_cons.1 ((insL_perm k r).mem_iff.1 hy) with rfl | hy
      · exact hx
      · exact h1 y hy
theorem isort_sorted : ∀ l, (isort l).Pairwise (fun a b => leB a b = true)
  | [] => List.Pairwise.nil
  | k :: l => insL_sorted k _ (isort_sorted l)
theorem sorted_one {l l' : List (List UInt8)} (hp : l.Perm l') (h : l.Pairwise (fun a b => leB a b = true)) (h' : l'.Pairwise (fun a b => leB a b = true)) : l = l' :=
  List.Perm.eq_of_pairwise (le := fun a b => leB a b = true) (fun a b _ _ h1 h2 => leB_as h1 h2) h h' hp
theorem mergeSort_isort (l : List (List UInt8)) : l.mergeSort leB = isort l :=
  sorted_one ((List.mergeSort_perm l leB).trans (isort_perm l).symm) (List.pairwise_mergeSort leB_tr leB_to l) (isort_sorted l)

/-- The keys of a map in their order. -/
def mapKeys {V : Type} (l : List (ByteArray × V)) : List ByteArray := (isort (l.map fun p => p.1.data.toList)).map fun k => ⟨k.toArray⟩
def mapOk {V : Type} (l : List (ByteArray × V)) : Bool := l.all (fun p => decide (p.1.size ≤ 9223372036854775807)) && decide (l.length * 16 ≤ 140737488355328)
theorem mapKeys_is {V : Type} (f : V → AV) (l : List (ByteArray × V)) : ((sortedK (mapV f l)).map fun k => [AV.c (Proofs.encStr k)]) = (mapKeys l).map fun k => [AV.c (.string k)] := by
  unfold sortedK mapKeys mapV
  rw [mergeSort_isort, List.map_map, List.map_map]
  rfl
theorem call_sortedM {P : Program} {σ : AS} {dst : Option Tmp} {g gk : FuncId} {V : Type} (hc : KeysSorted P g gk) (f : V → AV) {L M : Nat} {t : TypeId} {l : List (ByteArray × V)} {K : AS → Prop} (hL : σ.h[L]? = some (some (.var t [.mp M]))) (hM : σ.h[M]? = some (some (.map .s (mapV f l)))) (hk : mapOk l = true)
    (h : K (σ.upd dst (.sl false 1 ((mapKeys l).map fun k => [.c (.string k)])) [] [] σ.h)) : CallS P σ dst g [.fn gk [.ptr L 0]] K := by
  unfold mapOk at hk
  rw [Bool.and_eq_true, List.all_eq_true, decide_eq_true_eq] at hk
  refine call_sorted hc hL hM (fun p hp => ?_) (by rw [mapV_len]; exact hk.2) (by rw [mapKeys_is]; exact h)
  obtain ⟨q, hq, rfl⟩ := List.mem_map.1 hp
  have := of_decide_eq_true (hk.1 q hq)
  show (q.1.data.toList).length ≤ maxLen
  rw [Array.length_toList]
  exact this
end

-- part 27
section
open RowKit
/-! Results that are the caller's own. -/
def LeR (h : Heap) (v : AV) (hr : Heap) (res : AV) : Prop := ∀ (w0 : World) (ok0 : Nat → Prop) (m : List (Option Nat)) (ok : Nat → Prop) (w : World) (u : Value), HRel w0 ok0 m ok h w → RepV m ok w v u → ∃ m1, HRel w0 ok0 m1 ok hr w ∧ RepV m1 ok w res u
/-- The end of a function that hands blocks of its own to its caller, whatever their names. -/
def retG (P : Program) (rs : List ResultVar) (res : AV) (hr : Heap) : AX → AS → Prop := fun e σ =>
  notExit e ∧ resA P σ rs fun vs => LeR σ.h (oneA vs) hr res
theorem retG_is (P : Program) (rs : List ResultVar) (res : AV) (hr : Heap) (e : AX) (σ : AS) : retG P rs res hr e σ = (notExit e ∧ resA P σ rs fun vs => LeR σ.h (oneA vs) hr res) := Eq.trans rfl rfl

theorem meetsG_of {X : Bool} {P : Program} {f : FuncId} {fn : Func} {c : Code} {args : List AV} {res : AV} {hr : Heap} (hm : P.follows .mixedOrders = true) (hf : P.funcs[f]? = some fn) (hname : (fn.name == "runtime.NumGoroutine") = false) (hb : fn.body = some c) (hc : okF fn c = true) (hn : args.length ≤ fn.ntmps)
    (h : awp X P noY c (retG P fn.results.toList res hr) ⟨fn.ntmps, argT args 0, []⟩) : MeetsO P f args res hr := by
  simp only [okF, Bool.and_eq_true] at hc
  refine ⟨Proofs.enters_of hf hname hb, fun ok w vs hok hd => ?_⟩
  have hl := hd.length
  have hr0 : RelS w ok none w (fun _ => undef) ⟨fn.ntmps, argT args 0, []⟩ { tmps := vs.toArray ++ Array.replicate (fn.ntmps - vs.toArray.size) undef, defers := [] } w := by
    refine ⟨[], ok, .start none w rfl, by simp; omega, fun i => ?_, ⟨rfl, fun L blk hL => by simp at hL, fun L L' b h1 _ => by simp at h1, fun L b blk hL _ => by simp at hL, fun L b hL => by simp at hL, hok.1, fun b hb => Or.inl hb, Below.refl _ _, hok.2⟩⟩
    unfold valX
    split
    · exact enter_rel (m := []) hd.rep hn i (by assumption)
    · rename_i hi
      have := argT_look (m := []) 0 i (hd.rep (m := []))
      rw [if_pos (Nat.zero_le _), Nat.sub_zero, List.getD_eq_getElem?_getD, List.getElem?_eq_none (by simp only at hi; omega)] at this
      exact this
  have key : CallsIn Fence.wide 0 P f vs.toArray w fun e w' => ∃ v m1 ok1, e = .returned v ∧ (∀ b, ok b → ok1 b) ∧ HRel w ok m1 ok1 hr w' ∧ RepV m1 ok1 w' res v := by
    refine callsIn_of_wp_marks (F := FW none) hf hb trivial (wpIn_mono (awp_ok (rr := none) hm (noY_sound P _ w _) c _ _ _ w hc.1 (Or.inl rfl) rfl h hr0) fun e a w' hp => ?_)
    obtain ⟨q, σ, rfl, hn', hq, hr'⟩ := hp
    obtain ⟨hq1, hq2⟩ := hq
    obtain ⟨m, ok', ⟨hko, Ds, hds, hnd, _, hD⟩, hs, ht, r⟩ := hr'
    have fin : ∀ w'', Took w w' w'' → ∃ v, (results fn a.tmps).run P w'' = .ok v w'' ∧ ∃ v' m1 ok1, Ending.returned v = .returned v' ∧ (∀ b, ok b → ok1 b) ∧ HRel w ok m1 ok1 hr w'' ∧ RepV m1 ok1 w'' res v' := fun w'' tk => by
      have r2 := r.took tk (Nat.le_refl _)
      obtain ⟨xs, v, hK, hv, hrv⟩ := results_ok (a := a) (fun i hi => by
        have := ht i
        unfold valX at this
        rw [if_pos (by rw [hn']; exact hi)] at this
        exact tk.rep _ this) r2.own hc.2 hq2
      obtain ⟨mm, r3, up⟩ := hK w ok m ok' w'' v r2 hrv
      have g : Grow [] [] mm ok' w'' mm (fun b => ok' b ∨ ok b) w'' := ⟨fun _ _ _ h => h, fun _ h => Or.inl h, fun _ _ _ => rfl, fun _ _ _ _ _ h => h, ⟨(fun _ _ _ _ _ _ h => by cases h), fun _ _ _ _ h => by cases h⟩, .refl _⟩
      refine ⟨v, hv, v, mm, fun b => ok' b ∨ ok b, rfl, fun b hb => Or.inr hb, ⟨r3.len, fun L blk hL => OwnB.mono g (fun _ _ => rfl) (r3.own L blk hL), r3.inj, fun L b blk hL hm hk => ?_, r3.new, fun b hb => ?_, fun b hb => ?_, r3.bel, r3.tab.mono g.mo g.cells⟩, RepV.mono g _ up⟩
      · rcases hk with hk | hk
        · exact r3.nok L b blk hL hm hk
        · have := (r3.new L b hm).1; have := hok.1 b hk; omega
      · rcases hb with hb | hb
        · exact r3.okb b hb
        · exact Nat.lt_of_lt_of_le (hok.1 b hb) r3.bel.size
      · rcases hb with hb | hb
        · exact r3.oko b hb
        · exact Or.inl hb
    cases q with
    | norm => show LeavesInM _ _ _ _ _ _ _ _ _; rw [hds]; exact leaves_marks Ds w' hnd hD fin
    | ret => show LeavesInM _ _ _ _ _ _ _ _ _; rw [hds]; exact leaves_marks Ds w' hnd hD fin
    | exit id => exact hq1.elim
  exact callsIn_wide.1 key


theorem OwnB.takes {m : List (Option Nat)} {ok : Nat → Prop} {w : World} {L : Nat} {e : TypeId} {st : Nat} {es : List (List AV)} (q : Nat) (h : OwnB m ok w L (.row e st es)) : OwnB m ok w L (.row e st (es.take q)) := by
  obtain ⟨ob, hm, h⟩ := h
  refine ⟨ob, hm, ?_⟩
  cases ob with
  | none => simp [show es = [] from h]
  | some b =>
    obtain ⟨cs, hc, hl, hg⟩ := h
    refine ⟨cs, hc, Nat.le_trans (Nat.mul_le_mul_right _ (by rw [List.length_take]; omega)) hl, fun i x hx => hg i x ?_⟩
    rw [List.getElem?_take] at hx
    split at hx
    · exact hx
    · cases hx
/-! How the names of blocks are told anew. -/
mutual
def relV (Ls : List (Option Nat)) : AV → AV → Prop
  | .own L st n, y => ∃ i, y = .own i st n ∧ Ls[i]? = some (some L)
  | .nils, y => y = .nils ∨ (∃ st, y = .sl false st []) ∨ ∃ i st, y = .own i st 0 ∧ Ls[i]? = some none
  | .agg xs, y => ∃ ys, y = .agg ys ∧ relL Ls xs ys
  | .tup xs, y => ∃ ys, y = .tup ys ∧ relL Ls xs ys
  | .sl nn st es, y => leV (.sl nn st es) y
  | .cut st es, y => leV (.cut st es) y
  | .dptr xs, y => leV (.dptr xs) y
  | .fn f xs, y => isDL xs = true ∧ leV (.fn f xs) y
  | .mv f xs, y => isDL xs = true ∧ leV (.mv f xs) y
  | .junk, y => leV .junk y
  | .c v, y => leV (.c v) y
  | .ptr _ _, y => y = .junk
  | .rp _ _ _, y => y = .junk
  | .mp _, y => y = .junk
def relL (Ls : List (Option Nat)) : List AV → List AV → Prop
  | [], l => l = []
  | x :: xs, l => ∃ y ys, l = y :: ys ∧ relV Ls x y ∧ relL Ls xs ys
end
def pickB (h : Heap) : List (Option Nat) → Heap → Prop
  | [], hr => hr = []
  | some L :: Ls, hr => ∃ e st es es0 r, hr = some (.row e st es) :: r ∧ h[L]? = some (some (.row e st es0)) ∧ (∃ q, leE (es0.take q) es) ∧ pickB h Ls r
  | none :: Ls, hr => ∃ e st r, hr = some (.row e st []) :: r ∧ pickB h Ls r
def pickM (m : List (Option Nat)) (Ls : List (Option Nat)) : List (Option Nat) := Ls.map fun o => match o with
  | some L => (m[L]?).getD none
  | none => none
theorem pickB.len {h : Heap} : ∀ {Ls : List (Option Nat)} {hr : Heap}, pickB h Ls hr → hr.length = Ls.length
  | [], _, e => by rw [show _ = [] from e]; rfl
  | some L :: Ls, _, ⟨e, st, es, es0, r, rfl, _, _, k⟩ => by rw [List.length_cons, List.length_cons, pickB.len k]
  | none :: Ls, _, ⟨e, st, r, rfl, k⟩ => by rw [List.length_cons, List.length_cons, pickB.len k]
theorem pickB.get {h : Heap} : ∀ {Ls : List (Option Nat)} {hr : Heap} {i : Nat} {blk : Blk}, pickB h Ls hr → hr[i]? = some (some blk) → ∃ o, Ls[i]? = some o ∧ ∃ e st es, blk = .row e st es ∧ ((o = none ∧ es = []) ∨ ∃ L es0, o = some L ∧ h[L]? = some (some (.row e st es0)) ∧ ∃ q, leE (es0.take q) es)
  | [], _, _, _, e, hi => by rw [show _ = [] from e] at hi; simp at hi
  | some L :: Ls, _, 0, blk, ⟨e, st, es, es0, r, rfl, h1, h2, k⟩, hi => by
    simp at hi
    exact ⟨some L, rfl, e, st, es, hi.symm, Or.inr ⟨L, es0, rfl, h1, h2⟩⟩
  | none :: Ls, _, 0, blk, ⟨e, st, r, rfl, k⟩, hi => by
    simp at hi
    exact ⟨none, rfl, e, st, [], hi.symm, Or.inl ⟨rfl, rfl⟩⟩
  | some L :: Ls, _, i + 1, blk, ⟨e, st, es, es0, r, rfl, h1, h2, k⟩, hi => by simpa using pickB.get (i := i) k (by simpa using hi)
  | none :: Ls, _, i + 1, blk, ⟨e, st, r, rfl, k⟩, hi => by simpa using pickB.get (i := i) k (by simpa using hi)
theorem pickM_get {m Ls : List (Option Nat)} {i : Nat} {b : Nat} (h : (pickM m Ls)[i]? = some (some b)) : ∃ L, Ls[i]? = some (some L) ∧ m[L]? = some (some b) := by
  unfold pickM at h
  rw [List.getElem?_map] at h
  cases e : Ls[i]? with
  | none => rw [e] at h; cases h
  | some o =>
    rw [e] at h
    cases o with
    | none => simp at h
    | some L =>
      refine ⟨L, rfl, ?_⟩
      simp only [Option.map_some, Option.some.injEq] at h
      cases e2 : m[L]? with
      | none => rw [e2] at h; cases h
      | some x => rw [e2] at h; simp at h; rw [h]
section
variable {m : List (Option Nat)} {ok : Nat → Prop} {w : World} {Ls : List (Option Nat)}
mutual
theorem RepV.rel : ∀ (x : AV) {y : AV} {v : Value}, relV Ls x y → RepV m ok w x v → RepV (pickM m Ls) ok w y v
  | .own L st n, y, v, ⟨i, e, hi⟩, ⟨ob, hm, h⟩ => by
    subst e
    refine ⟨ob, ?_, h⟩
    unfold pickM
    rw [List.getElem?_map, hi]
    simp [hm]
  | .nils, y, v, h, k => by
    rcases h with rfl | ⟨st, rfl⟩ | ⟨i, st, rfl, hi⟩
    · exact k
    · exact RepD.le .nils (.inr (.inr ⟨st, rfl⟩)) k
    · refine ⟨none, ?_, rfl, k⟩
      unfold pickM
      rw [List.getElem?_map, hi]
      rfl
  | .agg xs, y, v, ⟨ys, e, h⟩, ⟨vs, hv, hr, h1⟩ => by subst e; exact ⟨vs, hv, RepL.rel xs h hr, h1⟩
  | .tup xs, y, v, ⟨ys, e, h⟩, ⟨vs, hv, hr⟩ => by subst e; exact ⟨vs, hv, RepL.rel xs h hr⟩
  | .sl nn st es, y, v, h, k => RepD.up y (RepD.le (.sl nn st es) h k)
  | .cut st es, y, v, h, k => RepD.up y (RepD.le (.cut st es) h k)
  | .dptr xs, y, v, h, k => RepD.up y (RepD.le (.dptr xs) h k)
  | .fn f xs, y, v, ⟨hd, h⟩, k => RepD.up y (RepD.le (.fn f xs) h (isD_ok (.fn f xs) hd k))
  | .mv f xs, y, v, ⟨hd, h⟩, k => RepD.up y (RepD.le (.mv f xs) h (isD_ok (.mv f xs) hd k))
  | .junk, y, v, h, k => by rw [show y = .junk from h]; trivial
  | .c u, y, v, h, k => by
    rcases h with rfl | rfl
    · trivial
    · exact k
  | .ptr _ _, y, v, h, k => by rw [show y = .junk from h]; trivial
  | .rp _ _ _, y, v, h, k => by rw [show y = .junk from h]; trivial
  | .mp _, y, v, h, k => by rw [show y = .junk from h]; trivial
theorem RepL.rel : ∀ (xs : List AV) {ys : List AV} {l : List Value}, relL Ls xs ys → RepL m ok w xs l → RepL (pickM m Ls) ok w ys l
  | [], _, _, h, k => by rw [show _ = [] from h]; exact k
  | x :: xs, _, _, ⟨y, ys, e, h1, h2⟩, ⟨u, us, hl, hx, hr⟩ => by
    subst e
    exact ⟨u, us, hl, RepV.rel x h1 hx, RepL.rel xs h2 hr⟩
end
end
theorem LeR.pick {h : Heap} {v : AV} {hr : Heap} {res : AV} (Ls : List (Option Nat)) (hn : ∀ i j L : Nat, Ls[i]? = some (some L) → Ls[j]? = some (some L) → i = j) (hb : pickB h Ls hr) (hv : relV Ls v res) : LeR h v hr res := by
  intro w0 ok0 m ok w u r hu
  refine ⟨pickM m Ls, ⟨by rw [hb.len]; simp [pickM], fun i blk hi => ?_, fun i j b h1 h2 => ?_, fun i b blk hi hm => ?_, fun i b hm => ?_, r.okb, r.oko, r.bel, r.tab⟩, RepV.rel v hv hu⟩
  · obtain ⟨o, ho, e, st, es, rfl, h1⟩ := hb.get hi
    rcases h1 with ⟨rfl, rfl⟩ | ⟨L, es0, rfl, h1, q, h2⟩
    · exact ⟨none, by unfold pickM; rw [List.getElem?_map, ho]; rfl, rfl⟩
    · obtain ⟨ob, hm, hx⟩ := OwnB.le (x := .row e st (es0.take q)) (y := .row e st es) ⟨rfl, rfl, h2⟩ (OwnB.takes q (r.own L _ h1))
      exact ⟨ob, by unfold pickM; rw [List.getElem?_map, ho]; simp [hm], hx⟩
  · obtain ⟨L, a1, a2⟩ := pickM_get h1
    obtain ⟨L', b1, b2⟩ := pickM_get h2
    obtain rfl := r.inj L L' b a2 b2
    exact hn i j L a1 b1
  · obtain ⟨L, a1, a2⟩ := pickM_get hm
    obtain ⟨o, ho, e, st, es, rfl, h1⟩ := hb.get hi
    rw [a1] at ho
    cases ho
    rcases h1 with ⟨h1, _⟩ | ⟨L', es0, h1, h2, _⟩
    · cases h1
    · cases h1
      exact r.nok L b _ h2 a2
  · obtain ⟨L, a1, a2⟩ := pickM_get hm
    exact r.new L b a2
/-- No name twice. -/
def ndL : List (Option Nat) → Bool
  | [] => true
  | none :: r => ndL r
  | some L :: r => !r.contains (some L) && ndL r
theorem ndL_ok : ∀ {Ls : List (Option Nat)}, ndL Ls = true → ∀ i j L : Nat, Ls[i]? = some (some L) → Ls[j]? = some (some L) → i = j
  | [], _, i, _, _, h, _ => by simp at h
  | none :: r, h, 0, _, _, h1, _ => by simp at h1
  | none :: r, h, i + 1, 0, _, _, h2 => by simp at h2
  | none :: r, h, i + 1, j + 1, L, h1, h2 => by rw [ndL_ok (Ls := r) h i j L (by simpa using h1) (by simpa using h2)]
  | some M :: r, h, i, j, L, h1, h2 => by
    simp only [ndL, Bool.and_eq_true, Bool.not_eq_true', List.contains_eq_mem, decide_eq_false_iff_not] at h
    cases i with
    | zero =>
      cases j with
      | zero => rfl
      | succ j =>
        simp at h1 h2
        subst h1
        exact absurd (List.mem_of_getElem? h2) h.1
    | succ i =>
      cases j with
      | zero =>
        simp at h1 h2
        subst h2
        exact absurd (List.mem_of_getElem? h1) h.1
      | succ j => rw [ndL_ok (Ls := r) h.2 i j L (by simpa using h1) (by simpa using h2)]
theorem LeR.picks {h : Heap} {v : AV} {hr : Heap} {res : AV} (Ls : List (Option Nat)) (hn : ndL Ls = true) (hb : pickB h Ls hr) (hv : relV Ls v res) : LeR h v hr res := .pick Ls (ndL_ok hn) hb hv
theorem MeetsO.le {P : Program} {f : FuncId} {args args' : List AV} {res : AV} {hr : Heap} (h : MeetsO P f args res hr) (ha : leL args' args) : MeetsO P f args' res hr := ⟨h.1, fun ok w vs hok hd => h.2 ok w vs hok (RepDL.le args' ha hd)⟩
theorem pickB_nil (h : Heap) : pickB h [] [] := rfl
theorem pickB_some (h : Heap) (L : Nat) (Ls : List (Option Nat)) (e : TypeId) (st : Nat) (es es0 : List (List AV)) (r : Heap) (k : pickB h Ls r) (h1 : h[L]? = some (some (.row e st es0))) (h2 : leE es0 es) : pickB h (some L :: Ls) (some (.row e st es) :: r) := ⟨e, st, es, es0, r, rfl, h1, ⟨es0.length, by rw [List.take_length]; exact h2⟩, k⟩
theorem pickB_take (h : Heap) (L : Nat) (Ls : List (Option Nat)) (e : TypeId) (st : Nat) (es es0 : List (List AV)) (r : Heap) (k : pickB h Ls r) (h1 : h[L]? = some (some (.row e st es0))) (q : Nat) (h2 : leE (es0.take q) es) : pickB h (some L :: Ls) (some (.row e st es) :: r) := ⟨e, st, es, es0, r, rfl, h1, ⟨q, h2⟩, k⟩
theorem pickB_none (h : Heap) (Ls : List (Option Nat)) (e : TypeId) (st : Nat) (r : Heap) (k : pickB h Ls r) : pickB h (none :: Ls) (some (.row e st []) :: r) := ⟨e, st, r, rfl, k⟩
theorem relL_nil (Ls : List (Option Nat)) : relL Ls [] [] := rfl
theorem relL_cons (Ls : List (Option Nat)) (x y : AV) (xs ys : List AV) (h : relV Ls x y) (k : relL Ls xs ys) : relL Ls (x :: xs) (y :: ys) := ⟨y, ys, rfl, h, k⟩
theorem relV_agg (Ls : List (Option Nat)) (xs ys : List AV) (h : relL Ls xs ys) : relV Ls (.agg xs) (.agg ys) := ⟨ys, rfl, h⟩
theorem relV_tup (Ls : List (Option Nat)) (xs ys : List AV) (h : relL Ls xs ys) : relV Ls (.tup xs) (.tup ys) := ⟨ys, rfl, h⟩
theorem relV_own (Ls : List (Option Nat)) (L i st n k : Nat) (h : Ls[i]? = some (some L)) (e : n = k) : relV Ls (.own L st n) (.own i st k) := ⟨i, by rw [e], h⟩
theorem relV_nil (Ls : List (Option Nat)) (i st k : Nat) (h : Ls[i]? = some none) (e : 0 = k) : relV Ls .nils (.own i st k) := .inr (.inr ⟨i, st, by rw [e], h⟩)
theorem relV_c (Ls : List (Option Nat)) (u v : Value) (e : u = v) : relV Ls (.c u) (.c v) := .inr (by rw [e])
/-! States whose blocks are named anew. -/
mutual
def relW (Ls : List (Option Nat)) : AV → AV → Prop
  | .own L st n, y => y = .junk ∨ ∃ i, y = .own i st n ∧ Ls[i]? = some (some L)
  | .nils, y => y = .junk ∨ y = .nils ∨ (∃ st, y = .sl false st []) ∨ ∃ i st, y = .own i st 0 ∧ Ls[i]? = some none
  | .agg xs, y => y = .junk ∨ ∃ ys, y = .agg ys ∧ relWL Ls xs ys
  | .tup xs, y => y = .junk ∨ ∃ ys, y = .tup ys ∧ relWL Ls xs ys
  | .fn f xs, y => y = .junk ∨ ∃ ys, y = .fn f ys ∧ relWL Ls xs ys
  | .mv f xs, y => y = .junk ∨ ∃ ys, y = .mv f ys ∧ relWL Ls xs ys
  | .sl nn st es, y => leV (.sl nn st es) y
  | .cut st es, y => leV (.cut st es) y
  | .dptr xs, y => leV (.dptr xs) y
  | .junk, y => y = .junk
  | .c v, y => y = .junk ∨ y = .c v
  | .ptr L j, y => y = .junk ∨ ∃ i, y = .ptr i j ∧ Ls[i]? = some (some L)
  | .rp L k j, y => y = .junk ∨ ∃ i, y = .rp i k j ∧ Ls[i]? = some (some L)
  | .mp L, y => y = .junk ∨ ∃ i, y = .mp i ∧ Ls[i]? = some (some L)
def relWL (Ls : List (Option Nat)) : List AV → List AV → Prop
  | [], l => l = []
  | x :: xs, l => ∃ y ys, l = y :: ys ∧ relW Ls x y ∧ relWL Ls xs ys
end
def pickW (A : List (Option Nat)) (h : Heap) : List (Option Nat) → Heap → Prop
  | [], hr => hr = []
  | o :: Ls, hr => ∃ b r, hr = b :: r ∧ pickW A h Ls r ∧ match b with
    | none => True
    | some (.row e st es) => (o = none ∧ es = []) ∨ ∃ L es0, o = some L ∧ h[L]? = some (some (.row e st es0)) ∧ ∃ q, leE (es0.take q) es
    | some (.var t cs) => ∃ L cs0, o = some L ∧ h[L]? = some (some (.var t cs0)) ∧ relWL A cs0 cs
    | some (.map k es) => ∃ L, o = some L ∧ h[L]? = some (some (.map k es))
theorem pickW.len {A : List (Option Nat)} {h : Heap} : ∀ {Ls : List (Option Nat)} {hr : Heap}, pickW A h Ls hr → hr.length = Ls.length
  | [], _, e => by rw [show _ = [] from e]; rfl
  | o :: Ls, _, ⟨b, r, e, k, _⟩ => by rw [e, List.length_cons, List.length_cons, pickW.len k]
theorem pickW.get {A : List (Option Nat)} {h : Heap} : ∀ {Ls : List (Option Nat)} {hr : Heap} {i : Nat} {blk : Blk}, pickW A h Ls hr → hr[i]? = some (some blk) → ∃ o, Ls[i]? = some o ∧ match blk with
    | .row e st es => (o = none ∧ es = []) ∨ ∃ L es0, o = some L ∧ h[L]? = some (some (.row e st es0)) ∧ ∃ q, leE (es0.take q) es
    | .var t cs => ∃ L cs0, o = some L ∧ h[L]? = some (some (.var t cs0)) ∧ relWL A cs0 cs
    | .map k es => ∃ L, o = some L ∧ h[L]? = some (some (.map k es))
  | [], _, _, _, e, hi => by rw [show _ = [] from e] at hi; simp at hi
  | o :: Ls, _, 0, blk, ⟨b, r, e, k, h1⟩, hi => by
    subst e
    simp at hi
    subst hi
    exact ⟨o, rfl, by cases blk <;> exact h1⟩
  | o :: Ls, _, i + 1, blk, ⟨b, r, e, k, h1⟩, hi => by
    subst e
    simpa using pickW.get (i := i) k (by simpa using hi)
section
variable {m : List (Option Nat)} {ok : Nat → Prop} {w : World} {Ls : List (Option Nat)}
theorem pickM_own {L i : Nat} {ob : Option Nat} (h : Ls[i]? = some (some L)) (hm : m[L]? = some ob) : (pickM m Ls)[i]? = some ob := by
  unfold pickM
  rw [List.getElem?_map, h]
  simp [hm]
theorem pickM_nil {i : Nat} (h : Ls[i]? = some none) : (pickM m Ls)[i]? = some none := by
  unfold pickM
  rw [List.getElem?_map, h]
  rfl
mutual
theorem RepV.relw : ∀ (x : AV) {y : AV} {v : Value}, relW Ls x y → RepV m ok w x v → RepV (pickM m Ls) ok w y v
  | .own L st n, y, v, h, ⟨ob, hm, k⟩ => by
    rcases h with rfl | ⟨i, rfl, hi⟩
    · trivial
    · exact ⟨ob, pickM_own hi hm, k⟩
  | .nils, y, v, h, k => by
    rcases h with rfl | rfl | ⟨st, rfl⟩ | ⟨i, st, rfl, hi⟩
    · trivial
    · exact k
    · exact RepD.le .nils (.inr (.inr ⟨st, rfl⟩)) k
    · exact ⟨none, pickM_nil hi, rfl, k⟩
  | .agg xs, y, v, h, ⟨vs, hv, hr, h1⟩ => by
    rcases h with rfl | ⟨ys, rfl, h⟩
    · trivial
    · exact ⟨vs, hv, RepL.relw xs h hr, h1⟩
  | .tup xs, y, v, h, ⟨vs, hv, hr⟩ => by
    rcases h with rfl | ⟨ys, rfl, h⟩
    · trivial
    · exact ⟨vs, hv, RepL.relw xs h hr⟩
  | .fn f xs, y, v, h, ⟨vs, hv, hr⟩ => by
    rcases h with rfl | ⟨ys, rfl, h⟩
    · trivial
    · exact ⟨vs, hv, RepL.relw xs h hr⟩
  | .mv f xs, y, v, h, ⟨vs, hv, hr⟩ => by
    rcases h with rfl | ⟨ys, rfl, h⟩
    · trivial
    · exact ⟨vs, hv, RepL.relw xs h hr⟩
  | .sl nn st es, y, v, h, k => RepD.up y (RepD.le (.sl nn st es) h k)
  | .cut st es, y, v, h, k => RepD.up y (RepD.le (.cut st es) h k)
  | .dptr xs, y, v, h, k => RepD.up y (RepD.le (.dptr xs) h k)
  | .junk, y, v, h, k => by rw [show y = .junk from h]; trivial
  | .c u, y, v, h, k => by
    rcases h with rfl | rfl
    · trivial
    · exact k
  | .ptr L j, y, v, h, ⟨b, hm, k⟩ => by
    rcases h with rfl | ⟨i, rfl, hi⟩
    · trivial
    · exact ⟨b, pickM_own hi hm, k⟩
  | .rp L a j, y, v, h, ⟨b, hm, k⟩ => by
    rcases h with rfl | ⟨i, rfl, hi⟩
    · trivial
    · exact ⟨b, pickM_own hi hm, k⟩
  | .mp L, y, v, h, ⟨b, hm, k⟩ => by
    rcases h with rfl | ⟨i, rfl, hi⟩
    · trivial
    · exact ⟨b, pickM_own hi hm, k⟩
theorem RepL.relw : ∀ (xs : List AV) {ys : List AV} {l : List Value}, relWL Ls xs ys → RepL m ok w xs l → RepL (pickM m Ls) ok w ys l
  | [], _, _, h, k => by rw [show _ = [] from h]; exact k
  | x :: xs, _, _, ⟨y, ys, e, h1, h2⟩, ⟨u, us, hl, hx, hr⟩ => by
    subst e
    exact ⟨u, us, hl, RepV.relw x h1 hx, RepL.relw xs h2 hr⟩
end
end
def relT (Ls : List (Option Nat)) (t : List (Nat × AV)) : List (Nat × AV) → Prop
  | [] => True
  | (i, v) :: r => relW Ls (slot t i) v ∧ relT Ls t r
theorem relT.slot {Ls : List (Option Nat)} {t : List (Nat × AV)} {m : List (Option Nat)} {ok : Nat → Prop} {w : World} : ∀ {t' : List (Nat × AV)} (i : Nat) {v : Value}, relT Ls t t' → RepV m ok w (slot t i) v → RepV (pickM m Ls) ok w (slot t' i) v
  | [], _, _, _, _ => trivial
  | (j, x) :: r, i, v, ⟨h1, h2⟩, hv => by
    unfold Eng.slot
    split
    · rename_i e
      subst e
      exact RepV.relw _ h1 hv
    · exact relT.slot i h2 hv
theorem LeS.pick {σ σ' : AS} (Ls : List (Option Nat)) (hd : ndL Ls = true) (hn : σ.n = σ'.n) (ht : relT Ls σ.t σ'.t) (hb : pickW Ls σ.h Ls σ'.h) : LeS σ σ' :=
  ⟨hn, fun w0 ok0 m ok w ρ r h3 => by
    have hnd := ndL_ok hd
    refine ⟨pickM m Ls, ok, ⟨by rw [hb.len]; simp [pickM], fun i blk hi => ?_, fun i j b h1 h2 => ?_, fun i b blk hi hm => ?_, fun i b hm => ?_, r.okb, r.oko, r.bel, r.tab⟩, fun i => relT.slot i ht (h3 i)⟩
    · obtain ⟨o, ho, h1⟩ := hb.get hi
      cases blk with
      | row e st es =>
        rcases h1 with ⟨rfl, rfl⟩ | ⟨L, es0, rfl, h1, q, h2⟩
        · exact ⟨none, pickM_nil ho, rfl⟩
        · obtain ⟨ob, hm, hx⟩ := OwnB.le (x := .row e st (es0.take q)) (y := .row e st es) ⟨rfl, rfl, h2⟩ (OwnB.takes q (r.own L _ h1))
          exact ⟨ob, pickM_own ho hm, hx⟩
      | var t cs =>
        obtain ⟨L, cs0, rfl, h1, h2⟩ := h1
        obtain ⟨b, vs, hm, hbk, hx, h3⟩ := r.own L _ h1
        exact ⟨b, vs, pickM_own ho hm, hbk, RepL.relw cs0 h2 hx, h3⟩
      | map k es =>
        obtain ⟨L, rfl, h1⟩ := h1
        obtain ⟨b, l, clock, hm, hx⟩ := r.own L _ h1
        exact ⟨b, l, clock, pickM_own ho hm, hx⟩
    · obtain ⟨L, a1, a2⟩ := pickM_get h1
      obtain ⟨L', b1, b2⟩ := pickM_get h2
      obtain rfl := r.inj L L' b a2 b2
      exact hnd i j L a1 b1
    · obtain ⟨L, a1, a2⟩ := pickM_get hm
      obtain ⟨o, ho, h1⟩ := hb.get hi
      rw [a1] at ho
      cases ho
      cases blk with
      | row e st es =>
        rcases h1 with ⟨h1, _⟩ | ⟨L', es0, h1, h2, _⟩
        · cases h1
        · cases h1
          exact r.nok L b _ h2 a2
      | var t cs =>
        obtain ⟨L', cs0, h1, h2, _⟩ := h1
        cases h1
        exact r.nok L b _ h2 a2
      | map k es =>
        obtain ⟨L', h1, h2⟩ := h1
        cases h1
        exact r.nok L b _ h2 a2
    · obtain ⟨L, a1, a2⟩ := pickM_get hm
      exact r.new L b a2⟩
theorem relWL_nil (Ls : List (Option Nat)) : relWL Ls [] [] := rfl
theorem relWL_cons (Ls : List (Option Nat)) (x y : AV) (xs ys : List AV) (h : relW Ls x y) (k : relWL Ls xs ys) : relWL Ls (x :: xs) (y :: ys) := ⟨y, ys, rfl, h, k⟩
theorem relW_agg (Ls : List (Option Nat)) (xs ys : List AV) (h : relWL Ls xs ys) : relW Ls (.agg xs) (.agg ys) := .inr ⟨ys, rfl, h⟩
theorem relW_fn (Ls : List (Option Nat)) (f : FuncId) (xs ys : List AV) (h : relWL Ls xs ys) : relW Ls (.fn f xs) (.fn f ys) := .inr ⟨ys, rfl, h⟩
theorem relW_own (Ls : List (Option Nat)) (L i st n k : Nat) (h : Ls[i]? = some (some L)) (e : n = k) : relW Ls (.own L st n) (.own i st k) := .inr ⟨i, by rw [e], h⟩
theorem relW_nil (Ls : List (Option Nat)) (i st k : Nat) (h : Ls[i]? = some none) (e : 0 = k) : relW Ls .nils (.own i st k) := .inr (.inr (.inr ⟨i, st, by rw [e], h⟩))
theorem relW_c (Ls : List (Option Nat)) (u v : Value) (e : u = v) : relW Ls (.c u) (.c v) := .inr (by rw [e])
theorem relW_sl (Ls : List (Option Nat)) (nn nn' : Bool) (st st' : Nat) (es es' : List (List AV)) (h : leV (.sl nn st es) (.sl nn' st' es')) : relW Ls (.sl nn st es) (.sl nn' st' es') := h
theorem relW_dptr (Ls : List (Option Nat)) (xs ys : List AV) (h : leV (.dptr xs) (.dptr ys)) : relW Ls (.dptr xs) (.dptr ys) := h
theorem relW_nn (Ls : List (Option Nat)) : relW Ls .nils .nils := .inr (.inl rfl)
theorem relW_nsl (Ls : List (Option Nat)) (st : Nat) : relW Ls .nils (.sl false st []) := .inr (.inr (.inl ⟨st, rfl⟩))
theorem relW_ptr (Ls : List (Option Nat)) (L i j : Nat) (h : Ls[i]? = some (some L)) : relW Ls (.ptr L j) (.ptr i j) := .inr ⟨i, rfl, h⟩
theorem relW_mp (Ls : List (Option Nat)) (L i : Nat) (h : Ls[i]? = some (some L)) : relW Ls (.mp L) (.mp i) := .inr ⟨i, rfl, h⟩
theorem relT_nil (Ls : List (Option Nat)) (t : List (Nat × AV)) : relT Ls t [] := trivial
theorem relT_cons (Ls : List (Option Nat)) (t : List (Nat × AV)) (i : Nat) (v : AV) (r : List (Nat × AV)) (k : relT Ls t r) (h : relW Ls (slot t i) v) : relT Ls t ((i, v) :: r) := ⟨h, k⟩
theorem pickW_nil (A : List (Option Nat)) (h : Heap) : pickW A h [] [] := rfl
theorem pickW_no (A : List (Option Nat)) (h : Heap) (o : Option Nat) (Ls : List (Option Nat)) (r : Heap) (k : pickW A h Ls r) : pickW A h (o :: Ls) (none :: r) := ⟨none, r, rfl, k, trivial⟩
theorem pickW_row0 (A : List (Option Nat)) (h : Heap) (Ls : List (Option Nat)) (e : TypeId) (st : Nat) (es : List (List AV)) (r : Heap) (k : pickW A h Ls r) (h2 : es = []) : pickW A h (none :: Ls) (some (.row e st es) :: r) := ⟨_, r, rfl, k, .inl ⟨rfl, h2⟩⟩
theorem pickW_row (A : List (Option Nat)) (h : Heap) (L : Nat) (Ls : List (Option Nat)) (e : TypeId) (st : Nat) (es es0 : List (List AV)) (r : Heap) (k : pickW A h Ls r) (h1 : h[L]? = some (some (.row e st es0))) (h2 : leE es0 es) : pickW A h (some L :: Ls) (some (.row e st es) :: r) := ⟨_, r, rfl, k, .inr ⟨L, es0, rfl, h1, es0.length, by rw [List.take_length]; exact h2⟩⟩
theorem pickW_var (A : List (Option Nat)) (h : Heap) (L : Nat) (Ls : List (Option Nat)) (t : TypeId) (cs cs0 : List AV) (r : Heap) (k : pickW A h Ls r) (h1 : h[L]? = some (some (.var t cs0))) (h2 : relWL A cs0 cs) : pickW A h (some L :: Ls) (some (.var t cs) :: r) := ⟨_, r, rfl, k, L, cs0, rfl, h1, h2⟩
theorem pickW_map (A : List (Option Nat)) (h : Heap) (L : Nat) (Ls : List (Option Nat)) (kt : KT) (es es0 : List (MK × AV)) (r : Heap) (k : pickW A h Ls r) (h1 : h[L]? = some (some (.map kt es0))) (h2 : es0 = es) : pickW A h (some L :: Ls) (some (.map kt es) :: r) := ⟨_, r, rfl, k, L, rfl, by rw [← h2]; exact h1⟩
end

-- part 28
section
open RowKit
/-! What is less known, as rewriting rules. -/
theorem leV_sl_s (nn : Bool) (st st' : Nat) (es es' : List (List AV)) (h : st = st') (k : leE es es') : leV (.sl nn st es) (.sl false st' es') = True := eq_true (leV_sl nn st st' es es' h k)
theorem leV_agg_s (xs ys : List AV) (h : leL xs ys) : leV (.agg xs) (.agg ys) = True := eq_true (leV_agg xs ys h)
theorem leV_tup_s (xs ys : List AV) (h : leL xs ys) : leV (.tup xs) (.tup ys) = True := eq_true (leV_tup xs ys h)
theorem leL_cons_s (x y : AV) (xs ys : List AV) (h : leV x y) (k : leL xs ys) : leL (x :: xs) (y :: ys) = True := eq_true (leL_cons x y xs ys h k)
theorem leE_cons_s (x y : List AV) (xs ys : List (List AV)) (h : leL x y) (k : leE xs ys) : leE (x :: xs) (y :: ys) = True := eq_true (leE_cons x y xs ys h k)
theorem relV_agg_s (Ls : List (Option Nat)) (xs ys : List AV) (h : relL Ls xs ys) : relV Ls (.agg xs) (.agg ys) = True := eq_true (relV_agg Ls xs ys h)
theorem relV_tup_s (Ls : List (Option Nat)) (xs ys : List AV) (h : relL Ls xs ys) : relV Ls (.tup xs) (.tup ys) = True := eq_true (relV_tup Ls xs ys h)
theorem relL_nil_s (Ls : List (Option Nat)) : relL Ls [] [] = True := eq_true (relL_nil Ls)
theorem relL_cons_s (Ls : List (Option Nat)) (x y : AV) (xs ys : List AV) (h : relV Ls x y) (k : relL Ls xs ys) : relL Ls (x :: xs) (y :: ys) = True := eq_true (relL_cons Ls x y xs ys h k)
theorem relV_own_s (Ls : List (Option Nat)) (L i st n k : Nat) (h : Ls[i]? = some (some L)) (e : n = k) : relV Ls (.own L st n) (.own i st k) = True := eq_true (relV_own Ls L i st n k h e)
theorem relV_nil_s (Ls : List (Option Nat)) (i st k : Nat) (h : Ls[i]? = some none) (e : 0 = k) : relV Ls .nils (.own i st k) = True := eq_true (relV_nil Ls i st k h e)
theorem relV_c_s (Ls : List (Option Nat)) (u v : Value) (e : u = v) : relV Ls (.c u) (.c v) = True := eq_true (relV_c Ls u v e)
theorem relWL_nil_s (Ls : List (Option Nat)) : relWL Ls [] [] = True := eq_true (relWL_nil Ls)
theorem relWL_cons_s (Ls : List (Option Nat)) (x y : AV) (xs ys : List AV) (h : relW Ls x y) (k : relWL Ls xs ys) : relWL Ls (x :: xs) (y :: ys) = True := eq_true (relWL_cons Ls x y xs ys h k)
theorem relW_agg_s (Ls : List (Option Nat)) (xs ys : List AV) (h : relWL Ls xs ys) : relW Ls (.agg xs) (.agg ys) = True := eq_true (relW_agg Ls xs ys h)
theorem relW_fn_s (Ls : List (Option Nat)) (f : FuncId) (xs ys : List AV) (h : relWL Ls xs ys) : relW Ls (.fn f xs) (.fn f ys) = True := eq_true (relW_fn Ls f xs ys h)
theorem relW_nn_s (Ls : List (Option Nat)) : relW Ls .nils .nils = True := eq_true (relW_nn Ls)
theorem relW_own_s (Ls : List (Option Nat)) (L i st n k : Nat) (h : Ls[i]? = some (some L)) (e : n = k) : relW Ls (.own L st n) (.own i st k) = True := eq_true (relW_own Ls L i st n k h e)
theorem relW_nil_s (Ls : List (Option Nat)) (i st k : Nat) (h : Ls[i]? = some none) (e : 0 = k) : relW Ls .nils (.own i st k) = True := eq_true (relW_nil Ls i st k h e)
theorem relW_c_s (Ls : List (Option Nat)) (u v : Value) (e : u = v) : relW Ls (.c u) (.c v) = True := eq_true (relW_c Ls u v e)
theorem relW_nsl_s (Ls : List (Option Nat)) (st : Nat) : relW Ls .nils (.sl false st []) = True := eq_true (relW_nsl Ls st)
theorem relW_sl_s (Ls : List (Option Nat)) (nn nn' : Bool) (st st' : Nat) (es es' : List (List AV)) (h : leV (.sl nn st es) (.sl nn' st' es')) : relW Ls (.sl nn st es) (.sl nn' st' es') = True := eq_true (relW_sl Ls nn nn' st st' es es' h)
theorem relW_dptr_s (Ls : List (Option Nat)) (xs ys : List AV) (h : leV (.dptr xs) (.dptr ys)) : relW Ls (.dptr xs) (.dptr ys) = True := eq_true (relW_dptr Ls xs ys h)
theorem relW_ptr_s (Ls : List (Option Nat)) (L i j : Nat) (h : Ls[i]? = some (some L)) : relW Ls (.ptr L j) (.ptr i j) = True := eq_true (relW_ptr Ls L i j h)
theorem relW_mp_s (Ls : List (Option Nat)) (L i : Nat) (h : Ls[i]? = some (some L)) : relW Ls (.mp L) (.mp i) = True := eq_true (relW_mp Ls L i h)
theorem relT_nil_s (Ls : List (Option Nat)) (t : List (Nat × AV)) : relT Ls t [] = True := eq_true (relT_nil Ls t)
theorem relT_cons_s (Ls : List (Option Nat)) (t : List (Nat × AV)) (i : Nat) (v : AV) (r : List (Nat × AV)) (h : relW Ls (slot t i) v) (k : relT Ls t r) : relT Ls t ((i, v) :: r) = True := eq_true (relT_cons Ls t i v r k h)
def rowLe (o : Option (Option Blk)) (e : TypeId) (st : Nat) (es : List (List AV)) : Prop := match o with | some (some (.row e' st' es0)) => e' = e ∧ st' = st ∧ leE es0 es | _ => False
theorem rowLe_is (e e' : TypeId) (st st' : Nat) (es es0 : List (List AV)) : rowLe (some (some (.row e' st' es0))) e st es = (e' = e ∧ st' = st ∧ leE es0 es) := Eq.trans rfl rfl
theorem rowLe_of {o : Option (Option Blk)} {e : TypeId} {st : Nat} {es : List (List AV)} (h : rowLe o e st es) : ∃ es0, o = some (some (.row e st es0)) ∧ leE es0 es := by
  unfold rowLe at h
  split at h
  · obtain ⟨rfl, rfl, h⟩ := h
    exact ⟨_, rfl, h⟩
  · exact h.elim
def varLe (A : List (Option Nat)) (o : Option (Option Blk)) (t : TypeId) (cs : List AV) : Prop := match o with | some (some (.var t' cs0)) => t' = t ∧ relWL A cs0 cs | _ => False
theorem varLe_is (A : List (Option Nat)) (t t' : TypeId) (cs cs0 : List AV) : varLe A (some (some (.var t' cs0))) t cs = (t' = t ∧ relWL A cs0 cs) := Eq.trans rfl rfl
theorem varLe_of {A : List (Option Nat)} {o : Option (Option Blk)} {t : TypeId} {cs : List AV} (h : varLe A o t cs) : ∃ cs0, o = some (some (.var t cs0)) ∧ relWL A cs0 cs := by
  unfold varLe at h
  split at h
  · obtain ⟨rfl, h⟩ := h
    exact ⟨_, rfl, h⟩
  · exact h.elim
def mapLe (o : Option (Option Blk)) (kt : KT) (es : List (MK × AV)) : Prop := match o with | some (some (.map kt' es0)) => kt' = kt ∧ es0 = es | _ => False
theorem mapLe_is (kt kt' : KT) (es es0 : List (MK × AV)) : mapLe (some (some (.map kt' es0))) kt es = (kt' = kt ∧ es0 = es) := Eq.trans rfl rfl
theorem mapLe_of {o : Option (Option Blk)} {kt : KT} {es : List (MK × AV)} (h : mapLe o kt es) : o = some (some (.map kt es)) := by
  unfold mapLe at h
  split at h
  · obtain ⟨rfl, rfl⟩ := h
    rfl
  · exact h.elim
theorem pickW_nil_s (A : List (Option Nat)) (h : List (Option Blk)) : pickW A h [] [] = True := eq_true (pickW_nil A h)
theorem pickW_no_s (A : List (Option Nat)) (h : List (Option Blk)) (o : Option Nat) (Ls : List (Option Nat)) (r : List (Option Blk)) (k : pickW A h Ls r) : pickW A h (o :: Ls) (none :: r) = True := eq_true (pickW_no A h o Ls r k)
theorem pickW_row0_s (A : List (Option Nat)) (h : List (Option Blk)) (Ls : List (Option Nat)) (e : TypeId) (st : Nat) (es : List (List AV)) (r : List (Option Blk)) (h2 : es = []) (k : pickW A h Ls r) : pickW A h (none :: Ls) (some (.row e st es) :: r) = True := eq_true (pickW_row0 A h Ls e st es r k h2)
theorem pickW_row_s (A : List (Option Nat)) (h : List (Option Blk)) (L : Nat) (Ls : List (Option Nat)) (e : TypeId) (st : Nat) (es : List (List AV)) (r : List (Option Blk)) (h1 : rowLe h[L]? e st es) (k : pickW A h Ls r) : pickW A h (some L :: Ls) (some (.row e st es) :: r) = True := by
  obtain ⟨es0, q1, q2⟩ := rowLe_of h1
  exact eq_true (pickW_row A h L Ls e st es es0 r k q1 q2)
theorem pickW_var_s (A : List (Option Nat)) (h : List (Option Blk)) (L : Nat) (Ls : List (Option Nat)) (t : TypeId) (cs : List AV) (r : List (Option Blk)) (h1 : varLe A h[L]? t cs) (k : pickW A h Ls r) : pickW A h (some L :: Ls) (some (.var t cs) :: r) = True := by
  obtain ⟨cs0, q1, q2⟩ := varLe_of h1
  exact eq_true (pickW_var A h L Ls t cs cs0 r k q1 q2)
theorem pickW_map_s (A : List (Option Nat)) (h : List (Option Blk)) (L : Nat) (Ls : List (Option Nat)) (kt : KT) (es : List (MK × AV)) (r : List (Option Blk)) (h1 : mapLe h[L]? kt es) (k : pickW A h Ls r) : pickW A h (some L :: Ls) (some (.map kt es) :: r) = True := eq_true (pickW_map A h L Ls kt es es r k (mapLe_of h1) rfl)
theorem cast0 : ((0 : Nat) : Int) = 0 := Eq.trans rfl rfl
theorem cast1 : ((1 : Nat) : Int) = 1 := Eq.trans rfl rfl
end

end Go.Proofs.Ytgjamefpphhobaa.Eng
