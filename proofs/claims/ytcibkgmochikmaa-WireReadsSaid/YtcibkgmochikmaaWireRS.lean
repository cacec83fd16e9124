/- Sources of the reference. -/
import Derived.Test.YtcibkgmochikmaaWireGood
namespace Go.Proofs.Ytcibkgmochikmaa.WireRS
set_option linter.unusedVariables false
open Go.RowKit Go.Proofs.Ytcibkgmochikmaa.WireBase Go.Proofs.Ytcibkgmochikmaa.WireInt Go.Proofs.Ytcibkgmochikmaa.WireAppend

open Go.Proofs.Ytcibkgmochikmaa.WireSrc (Only Cut)

/-- A source lies at block g: what is left and the error. -/
def Src (w : World) (g : Nat) (v : Value) (e : Int) : Prop := w.heap[g]? = some (.cells #[v, .int .i64 e] 39)

theorem Src.lt {w : World} {g : Nat} {v : Value} {e : Int} (h : Src w g v e) : g < w.heap.size := (Array.getElem?_eq_some_iff.1 h).1
theorem Src.rest {w : World} {g : Nat} {v : Value} {e : Int} (h : Src w g v e) : w.cell? ⟨g, 0, none⟩ = some v := by
  unfold Src at h
  simp [World.cell?, h]
theorem Src.err {w : World} {g : Nat} {v : Value} {e : Int} (h : Src w g v e) : w.cell? ⟨g, 1, none⟩ = some (.int .i64 e) := by
  unfold Src at h
  simp [World.cell?, h]
theorem Src.free {w : World} {g : Nat} {v : Value} {e : Int} (h : Src w g v e) (j : Nat) : w.frozen? ⟨g, j, none⟩ = false := frozen_of h
theorem Src.setErr {w : World} {g : Nat} {v : Value} {e : Int} (h : Src w g v e) (e' : Int) : Src (w.setCell ⟨g, 1, none⟩ (.int .i64 e')) g v e' := by
  unfold Src at *
  simp [World.setCell, Array.getElem?_modify, h]
theorem Src.setRest {w : World} {g : Nat} {v : Value} {e : Int} (h : Src w g v e) (v' : Value) : Src (w.setCell ⟨g, 0, none⟩ v') g v' e := by
  unfold Src at *
  simp [World.setCell, Array.getElem?_modify, h]
theorem Src.below {w w' : World} {g : Nat} {v : Value} {e : Int} (h : Src w g v e) (hb : Below w.heap.size w w') : Src w' g v e := (hb.block g h.lt).trans h
theorem Src.only {w w' : World} {g k : Nat} {v : Value} {e : Int} (h : Src w g v e) (hb : Only k w w') (hk : g ≠ k) : Src w' g v e := (hb.block g h.lt hk).trans h

theorem Src.alloc {w : World} {g : Nat} {v : Value} {e : Int} (h : Src w g v e) (o : Obj) : Src (w.alloc o) g v e := h.below ((Below.refl _ _).alloc (Nat.le_refl _) o)

/-- Bytes do not lie where a source lies. -/
theorem Src.apart {w : World} {g : Nat} {v : Value} {e : Int} {B : Nat} {A : Option Addr} {zs : List Int} (h : Src w g v e) (hv : ∀ n, v ≠ .int .u8 n) (hl : Lies w .u8 B A zs) (h0 : 0 < zs.length) : ∃ ad, A = some ad ∧ ad.block ≠ g := by
  obtain ⟨ad, rfl, _, hc⟩ := hl h0
  refine ⟨ad, rfl, ?_⟩
  rintro rfl
  have := hc 0 h0
  obtain ⟨b, o, s⟩ := ad
  have hs := World.cell?_spot this
  have hs : s = none := by simpa [Addr.add] using hs
  subst hs
  rw [add_plain] at this
  unfold Src at h
  simp only [World.cell?, h] at this
  match o, this with
  | 0, e => simp at e; exact hv _ e
  | 1, e => simp at e
  | n + 2, e => simp at e

theorem Lies.onlyR {w w' : World} {g : Nat} {v : Value} {e : Int} {A : Option Addr} {zs : List Int} (hl : Lies w .u8 w.heap.size A zs) (hs : Src w g v e) (hv : ∀ n, v ≠ .int .u8 n) (h : Only g w w') : Lies w' .u8 w'.heap.size A zs := fun h0 => by
  obtain ⟨ad, rfl, hne⟩ := hs.apart hv hl h0
  obtain ⟨ad', e', hlt, hc⟩ := hl h0
  obtain rfl := Option.some.inj e'
  refine ⟨ad, rfl, Nat.lt_of_lt_of_le hlt h.size, fun i hi => ?_⟩
  rw [← hc i hi]
  exact World.cell?_of_block (by rw [block_add_of]; exact h.block _ hlt hne)

theorem lies_only {w w' : World} {g B : Nat} {v : Value} {e : Int} {A : Option Addr} {zs : List Int} (hl : Lies w .u8 B A zs) (hB : B ≤ w.heap.size) (hs : Src w g v e) (hv : ∀ n, v ≠ .int .u8 n) (h : Only g w w') : Lies w' .u8 B A zs := fun h0 => by
  obtain ⟨ad, rfl, hne⟩ := hs.apart hv hl h0
  obtain ⟨ad', e', hlt, hc⟩ := hl h0
  obtain rfl := Option.some.inj e'
  refine ⟨ad, rfl, hlt, fun i hi => ?_⟩
  rw [← hc i hi]
  exact World.cell?_of_block (by rw [block_add_of]; exact h.block _ (Nat.lt_of_lt_of_le hlt hB) hne)

/-- A source without an error has the bytes Y. -/
def Here (w : World) (g B : Nat) (Y : List Int) : Prop := Bytes Y ∧ B ≤ w.heap.size ∧ ∃ A c, Y.length ≤ c ∧ (c : Int) ≤ 9223372036854775807 ∧ Src w g (.slice A Y.length c) 0 ∧ Lies w .u8 B A Y

/-- A source without an error, its slice named. -/
structure Full (w : World) (g B : Nat) (A : Option Addr) (cap : Nat) (Z : List Int) : Prop where
  bytes : Bytes Z
  bound : B ≤ w.heap.size
  room : Z.length ≤ cap
  top : (cap : Int) ≤ 9223372036854775807
  src : Src w g (.slice A Z.length cap) 0
  lies : Lies w .u8 B A Z

theorem Full.later {w w' : World} {g B cap : Nat} {A : Option Addr} {Z : List Int} (h : Full w g B A cap Z) (hb : Below w.heap.size w w') : Full w' g B A cap Z :=
  ⟨h.bytes, Nat.le_trans h.bound hb.size, h.room, h.top, h.src.below hb, h.lies.below (hb.mono h.bound)⟩


/-- The same source's bytes lie in another world that is as it was but for block g. -/
theorem Full.part {w w' : World} {g B cap : Nat} {A : Option Addr} {Z : List Int} (h : Full w g B A cap Z) (ho : Only g w w') : Lies w' .u8 B A Z := lies_only h.lies h.bound h.src (WireSrc.not_byte _ _ _) ho

theorem full_cut {w : World} {g B cap v : Nat} {A A' : Option Addr} {c' : Nat} {Y : List Int} (h : Full w g B A cap Y) (hv : v ≤ Y.length) (hcut : Cut A cap v A' c') : Full (w.setCell ⟨g, 0, none⟩ (.slice A' (Y.length - v) c')) g B A' c' (Y.drop v) := by
  have hlen : (Y.drop v).length = Y.length - v := List.length_drop
  have h1 := h.room
  have h2 := h.top
  refine ⟨fun x hx => h.bytes x (List.mem_of_mem_drop hx), by have := h.bound; simpa [World.setCell] using this, ?_, ?_, ?_, ?_⟩
  · rcases hcut with ⟨_, rfl⟩ | ⟨_, rfl, h3⟩ <;> omega
  · rcases hcut with ⟨_, rfl⟩ | ⟨_, rfl, h3⟩ <;> omega
  · rw [hlen]; exact h.src.setRest _
  · exact WireSrc.Cut.lies hcut (h.part (WireSrc.Only.set 0 _)) h1

end Go.Proofs.Ytcibkgmochikmaa.WireRS
