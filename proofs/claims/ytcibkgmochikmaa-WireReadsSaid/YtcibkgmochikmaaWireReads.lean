/- The law WireReads: two sources side by side. -/
import Derived.Test.YtcibkgmochikmaaWireBoth
namespace Go.Proofs.Ytcibkgmochikmaa.WireReads
set_option linter.unusedVariables false
open Go.RowKit Go.Proofs.Ytcibkgmochikmaa.WireBase Go.Proofs.Ytcibkgmochikmaa.WireInt Go.Proofs.Ytcibkgmochikmaa.WireAppend Go.Proofs.Ytcibkgmochikmaa.WireRead Go.Proofs.Ytcibkgmochikmaa.WireParse Go.Proofs.Ytcibkgmochikmaa.WireCode Go.Proofs.Ytcibkgmochikmaa.WireCanon Go.Proofs.Ytcibkgmochikmaa.WireText
open Go.Proofs.Ytcibkgmochikmaa.WireSrc (Only Cut not_byte)
open Go.Proofs.Ytcibkgmochikmaa.WireRd (rdI rdT)
open Go.Proofs.Ytcibkgmochikmaa.WireLst (rdL OwnV)

/-- Two sources with the same bytes and the same error. -/
structure Both (w : World) (gs gt B C : Nat) (e : Int) (Z : List Int) : Prop where
  bytes : Bytes Z
  short : Z.length ≤ 1000
  bs : B ≤ w.heap.size
  bt : C ≤ w.heap.size
  ne : gs ≠ gt
  s : ∃ A c, Z.length ≤ c ∧ (c : Int) ≤ 9223372036854775807 ∧ WireSrc.Src w gs (.slice A Z.length c) e ∧ Lies w .u8 B A Z
  t : ∃ A c, Z.length ≤ c ∧ (c : Int) ≤ 9223372036854775807 ∧ WireRS.Src w gt (.slice A Z.length c) e ∧ Lies w .u8 C A Z

theorem Both.later {w w' : World} {gs gt B C : Nat} {e : Int} {Z : List Int} (h : Both w gs gt B C e Z) (hb : Below w.heap.size w w') : Both w' gs gt B C e Z := by
  obtain ⟨h1, h2, h3, h4, h5, ⟨A, c, a1, a2, a3, a4⟩, ⟨A', c', b1, b2, b3, b4⟩⟩ := h
  exact ⟨h1, h2, Nat.le_trans h3 hb.size, Nat.le_trans h4 hb.size, h5, ⟨A, c, a1, a2, a3.below hb, a4.below (hb.mono h3)⟩, ⟨A', c', b1, b2, b3.below hb, b4.below (hb.mono h4)⟩⟩

theorem Both.lts {w : World} {gs gt B C : Nat} {e : Int} {Z : List Int} (h : Both w gs gt B C e Z) : gs < w.heap.size ∧ gt < w.heap.size := by
  obtain ⟨A, c, _, _, a3, _⟩ := h.s
  obtain ⟨A', c', _, _, b3, _⟩ := h.t
  exact ⟨a3.lt, b3.lt⟩

/-- The program's source read, the other one as it was. -/
def Half {α : Type} (w1 : World) (gs gt B C : Nat) (Z : List Int) (res : Except Int (α × List Int)) : Prop :=
  Bytes Z ∧ Z.length ≤ 1000 ∧ B ≤ w1.heap.size ∧ C ≤ w1.heap.size ∧ gs ≠ gt ∧ (∃ A' c', WireRS.Full w1 gt C A' c' Z) ∧
  match res with
  | .error e => e ≠ 0 ∧ ∃ A c, Z.length ≤ c ∧ (c : Int) ≤ 9223372036854775807 ∧ WireSrc.Src w1 gs (.slice A Z.length c) e ∧ Lies w1 .u8 B A Z
  | .ok (x, Y) => WireRd.Here w1 gs B Y ∧ Y.length ≤ 1000

theorem half {α : Type} {w w1 : World} {gs gt B C : Nat} {Z : List Int} {A : Option Addr} {c : Nat} {res : Except Int (α × List Int)} {bad : Int → Prop} {good : α → List Int → Prop} (h : Both w gs gt B C 0 Z) (hf : WireMeth.Full w gs B A c Z) (ho : Only gs w w1) (he : WireMeth.Ends res (fun e => bad e ∧ WireSrc.Src w1 gs (.slice A Z.length c) e) (fun x Y => good x Y ∧ WireRd.Here w1 gs B Y)) (hless : ∀ x Y, res = .ok (x, Y) → Y.length ≤ Z.length) : Half w1 gs gt B C Z res := by
  obtain ⟨h1, h2, h3, h4, h5, _, ⟨A', c', b1, b2, b3, b4⟩⟩ := h
  have l1 : Lies w1 .u8 C A' Z := WireRd.lies_only b4 h4 hf.src (not_byte _ _ _) ho
  refine ⟨h1, h2, Nat.le_trans h3 ho.size, Nat.le_trans h4 ho.size, h5, ⟨A', c', h1, Nat.le_trans h4 ho.size, b1, b2, b3.only ho (Ne.symm h5), l1⟩, ?_⟩
  cases res with
  | error e => exact ⟨he.1, A, c, hf.room, hf.top, he.2.2, WireRd.lies_only hf.lies hf.bound hf.src (not_byte _ _ _) ho⟩
  | ok p => exact ⟨he.2, Nat.le_trans (hless _ _ rfl) h2⟩

theorem whole {α : Type} {w1 w2 : World} {gs gt B C : Nat} {Z : List Int} {A : Option Addr} {c : Nat} {res : Except Int (α × List Int)} {bad : Int → Prop} {good : α → List Int → Prop} (h : Half w1 gs gt B C Z res) (hf : WireRS.Full w1 gt C A c Z) (ho : Only gt w1 w2) (he : WireMeth.Ends res (fun e => bad e ∧ WireRS.Src w2 gt (.slice A Z.length c) e) (fun x Y => good x Y ∧ WireRS.Here w2 gt C Y)) : ∃ e' Z', Both w2 gs gt B C e' Z' := by
  obtain ⟨h1, h2, h3, h4, h5, _, h6⟩ := h
  cases res with
  | error e =>
    obtain ⟨h7, A1, c1, a1, a2, a3, a4⟩ := h6
    exact ⟨e, Z, h1, h2, Nat.le_trans h3 ho.size, Nat.le_trans h4 ho.size, h5, ⟨A1, c1, a1, a2, a3.only ho h5, WireRS.lies_only a4 h3 hf.src (not_byte _ _ _) ho⟩, ⟨A, c, hf.room, hf.top, he.2.2, WireRS.lies_only hf.lies hf.bound hf.src (not_byte _ _ _) ho⟩⟩
  | ok p =>
    obtain ⟨x, Y⟩ := p
    obtain ⟨⟨k1, k2, A1, c1, a1, a2, a3, a4⟩, k3⟩ := h6
    obtain ⟨j1, j2, A2, c2, b1, b2, b3, b4⟩ := he.2
    exact ⟨0, Y, k1, k3, Nat.le_trans k2 ho.size, j2, h5, ⟨A1, c1, a1, a2, a3.only ho h5, WireRS.lies_only a4 k2 hf.src (not_byte _ _ _) ho⟩, ⟨A2, c2, b1, b2, b3, b4⟩⟩

end Go.Proofs.Ytcibkgmochikmaa.WireReads
