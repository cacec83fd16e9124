/- The law WireReads: a reading where an error stands; any reading. -/
import Derived.Test.YtcibkgmochikmaaWireReads2
namespace Go.Proofs.Ytcibkgmochikmaa.WireReads
set_option linter.unusedVariables false
open Go.RowKit Go.Proofs.Ytcibkgmochikmaa.WireBase Go.Proofs.Ytcibkgmochikmaa.WireInt Go.Proofs.Ytcibkgmochikmaa.WireAppend Go.Proofs.Ytcibkgmochikmaa.WireRead Go.Proofs.Ytcibkgmochikmaa.WireParse Go.Proofs.Ytcibkgmochikmaa.WireCode Go.Proofs.Ytcibkgmochikmaa.WireCanon Go.Proofs.Ytcibkgmochikmaa.WireText
open Go.Proofs.Ytcibkgmochikmaa.WireSrc (Only Cut not_byte)
open Go.Proofs.Ytcibkgmochikmaa.WireRd (rdI rdT)
open Go.Proofs.Ytcibkgmochikmaa.WireLst (rdL rdN OwnV)

theorem Both.dead {w : World} {gs gt B C : Nat} {e : Int} {Z : List Int} (h : Both w gs gt B C e Z) (he : (e == 0) = false) : WireErrs.Dead w (.pointer (some ⟨gs, 0, none⟩)) := by
  obtain ⟨A, c, _, _, a, _⟩ := h.s
  exact Or.inr ⟨gs, _, e, rfl, a, he⟩

theorem Both.rsrc {w : World} {gs gt B C : Nat} {e : Int} {Z : List Int} (h : Both w gs gt B C e Z) : ∃ v, WireRS.Src w gt v e := by
  obtain ⟨A, c, _, _, a, _⟩ := h.t
  exact ⟨_, a⟩

/-- Both sources as they were, after reading nothing. -/
def Idle (base : Nat) (w : World) (gs gt B C : Nat) (e : Int) (Z : List Int) (w1 : World) : Prop := Both w1 gs gt B C e Z ∧ Below base w w1 ∧ w.heap.size < w1.heap.size

theorem idle_of {w W w' : World} {base gs gt B C : Nat} {e : Int} {Z : List Int} (h : Both w gs gt B C e Z) (hbs : base ≤ gs) (hb : Below w.heap.size w W) (hs : w.heap.size < W.heap.size) (hb2 : Below W.heap.size W w') : w'.heap[w.heap.size]? = W.heap[w.heap.size]? ∧ Idle base w gs gt B C e Z w' := by
  have hl := h.lts
  exact ⟨hb2.block _ hs, (h.later hb).later hb2, (hb.mono (by omega)).trans (hb2.mono (by omega)), Nat.lt_of_lt_of_le hs hb2.size⟩

theorem Idle.after {base : Nat} {w w1 : World} {gs gt B C : Nat} {e : Int} {Z : List Int} (h : Idle base w gs gt B C e Z w1) : After base w gs gt B C w1 := ⟨h.2.1, e, Z, h.1⟩

theorem dead_0 (base gs gt B C : Nat) (Z : List Int) (e k m lo hi : Int) (w : World) (hk0 : (k == 0) = true) (he : (e == 0) = false) (h : Both w gs gt B C e Z) (hbs : base ≤ gs) :
    Calls Try.prog 24 #[.pointer (some ⟨gs, 0, none⟩), .pointer (some ⟨gt, 0, none⟩), .agg #[.int .i64 k, .int .i64 m, .int .i64 lo, .int .i64 hi]] w fun r w' => r = .returned (.bool true) ∧ After base w gs gt B C w' := by
  refine WireBoth.read_0 w gs gt k m lo hi (fun w1 x => Idle base w gs gt B C e Z w1 ∧ x = 0) _ hk0 (Lib.hid fun W hb hs => ?_) (Lib.hid fun W x hp => ?_)
  · refine (WireErrs.src_Int_dead _ lo hi W ((h.later hb).dead he)).mono ?_
    rintro r w' ⟨rfl, b2⟩
    have q := idle_of h hbs hb (lt_of_some hs) b2
    exact ⟨_, rfl, q.1, q.2, rfl⟩
  · obtain ⟨p1, rfl⟩ := hp
    obtain ⟨v, hv⟩ := p1.1.rsrc
    refine (WireRDead.int_rdead gt v e lo hi W hv he).mono ?_
    rintro r w' ⟨rfl, rfl⟩
    exact ⟨rfl, rfl, p1.after⟩

theorem dead_1 (base gs gt B C : Nat) (Z : List Int) (e k m lo hi : Int) (w : World) (hk0 : (k == 0) = false) (hk1 : (k == 1) = true) (he : (e == 0) = false) (h : Both w gs gt B C e Z) (hbs : base ≤ gs) :
    Calls Try.prog 24 #[.pointer (some ⟨gs, 0, none⟩), .pointer (some ⟨gt, 0, none⟩), .agg #[.int .i64 k, .int .i64 m, .int .i64 lo, .int .i64 hi]] w fun r w' => r = .returned (.bool true) ∧ After base w gs gt B C w' := by
  refine WireBoth.read_1 w gs gt k m lo hi (fun w1 x => Idle base w gs gt B C e Z w1 ∧ x = false) _ hk0 hk1 (Lib.hid fun W hb hs => ?_) (Lib.hid fun W x hp => ?_)
  · refine (WireErrs.bool_dead _ W ((h.later hb).dead he)).mono ?_
    rintro r w' ⟨rfl, b2⟩
    have q := idle_of h hbs hb (lt_of_some hs) b2
    exact ⟨_, rfl, q.1, q.2, rfl⟩
  · obtain ⟨p1, rfl⟩ := hp
    obtain ⟨v, hv⟩ := p1.1.rsrc
    refine (WireRDead.bool_rdead gt v e W hv he).mono ?_
    rintro r w' ⟨rfl, rfl⟩
    exact ⟨rfl, rfl, p1.after⟩

theorem dead_2 (base gs gt B C : Nat) (Z : List Int) (e k m lo hi : Int) (w : World) (hk0 : (k == 0) = false) (hk1 : (k == 1) = false) (hk2 : (k == 2) = true) (he : (e == 0) = false) (h : Both w gs gt B C e Z) (hbs : base ≤ gs) :
    Calls Try.prog 24 #[.pointer (some ⟨gs, 0, none⟩), .pointer (some ⟨gt, 0, none⟩), .agg #[.int .i64 k, .int .i64 m, .int .i64 lo, .int .i64 hi]] w fun r w' => r = .returned (.bool true) ∧ After base w gs gt B C w' := by
  refine WireBoth.read_2 w gs gt k m lo hi (fun w1 x => Idle base w gs gt B C e Z w1 ∧ x = ⟨#[]⟩) _ hk0 hk1 hk2 (Lib.hid fun W hb hs => ?_) (Lib.hid fun W x hp => ?_)
  · refine (WireErrs.src_Text_dead _ m W ((h.later hb).dead he)).mono ?_
    rintro r w' ⟨rfl, b2⟩
    have q := idle_of h hbs hb (lt_of_some hs) b2
    exact ⟨_, rfl, q.1, q.2, rfl⟩
  · obtain ⟨p1, rfl⟩ := hp
    obtain ⟨v, hv⟩ := p1.1.rsrc
    refine (WireRDead.text_rdead gt v e m W hv he).mono ?_
    rintro r w' ⟨rfl, rfl⟩
    exact ⟨rfl, rfl, p1.after⟩

theorem dead_3 (base gs gt B C : Nat) (Z : List Int) (e k m lo hi : Int) (w : World) (hk0 : (k == 0) = false) (hk1 : (k == 1) = false) (hk2 : (k == 2) = false) (hk3 : (k == 3) = true) (he : (e == 0) = false) (h : Both w gs gt B C e Z) (hbs : base ≤ gs) :
    Calls Try.prog 24 #[.pointer (some ⟨gs, 0, none⟩), .pointer (some ⟨gt, 0, none⟩), .agg #[.int .i64 k, .int .i64 m, .int .i64 lo, .int .i64 hi]] w fun r w' => r = .returned (.bool true) ∧ After base w gs gt B C w' := by
  refine WireBoth.read_3 w gs gt k m lo hi (fun w1 x => Idle base w gs gt B C e Z w1 ∧ x = .slice none 0 0) (fun w1 x y => Idle base w gs gt B C e Z w1 ∧ x = .slice none 0 0 ∧ y = .slice none 0 0) _ hk0 hk1 hk2 hk3 (Lib.hid fun W hb hs => ?_) (Lib.hid fun W x hp => ?_) (Lib.hid fun W x y hp => ?_)
  · refine (WireErrs.src_Ints_dead _ m lo hi W ((h.later hb).dead he)).mono ?_
    rintro r w' ⟨rfl, b2⟩
    have q := idle_of h hbs hb (lt_of_some hs) b2
    exact ⟨_, rfl, q.1, q.2, rfl⟩
  · obtain ⟨p1, rfl⟩ := hp
    obtain ⟨v, hv⟩ := p1.1.rsrc
    refine (WireRDead.ints_rdead gt v e m lo hi W hv he).mono ?_
    rintro r w' ⟨rfl, rfl⟩
    exact ⟨_, rfl, rfl, p1, rfl, rfl⟩
  · obtain ⟨p1, rfl, rfl⟩ := hp
    have hl := h.lts
    refine (WireGood.same_ints none none 0 0 [] W (fun h => by simp at h) (fun h => by simp at h) (by simp)).mono ?_
    rintro r w' ⟨rfl, hb⟩
    exact ⟨rfl, hb.block _ p1.2.2, p1.after.later hb (by omega)⟩

theorem dead_4 (base gs gt B C : Nat) (Z : List Int) (e k m lo hi : Int) (w : World) (hk0 : (k == 0) = false) (hk1 : (k == 1) = false) (hk2 : (k == 2) = false) (hk3 : (k == 3) = false) (he : (e == 0) = false) (h : Both w gs gt B C e Z) (hbs : base ≤ gs) :
    Calls Try.prog 24 #[.pointer (some ⟨gs, 0, none⟩), .pointer (some ⟨gt, 0, none⟩), .agg #[.int .i64 k, .int .i64 m, .int .i64 lo, .int .i64 hi]] w fun r w' => r = .returned (.bool true) ∧ After base w gs gt B C w' := by
  refine WireBoth.read_4 w gs gt k m lo hi (fun w1 x => Idle base w gs gt B C e Z w1 ∧ x = .slice none 0 0) (fun w1 x y => Idle base w gs gt B C e Z w1 ∧ x = .slice none 0 0 ∧ y = .slice none 0 0) _ hk0 hk1 hk2 hk3 (Lib.hid fun W hb hs => ?_) (Lib.hid fun W x hp => ?_) (Lib.hid fun W x y hp => ?_)
  · refine (WireErrs.src_Texts_dead _ m hi W ((h.later hb).dead he)).mono ?_
    rintro r w' ⟨rfl, b2⟩
    have q := idle_of h hbs hb (lt_of_some hs) b2
    exact ⟨_, rfl, q.1, q.2, rfl⟩
  · obtain ⟨p1, rfl⟩ := hp
    obtain ⟨v, hv⟩ := p1.1.rsrc
    refine (WireRDead.texts_rdead gt v e m hi W hv he).mono ?_
    rintro r w' ⟨rfl, rfl⟩
    exact ⟨_, rfl, rfl, p1, rfl, rfl⟩
  · obtain ⟨p1, rfl, rfl⟩ := hp
    have hl := h.lts
    refine (WireGood.same_texts none none 0 0 [] W (fun h => by simp at h) (fun h => by simp at h) (by simp)).mono ?_
    rintro r w' ⟨rfl, hb⟩
    exact ⟨rfl, hb.block _ p1.2.2, p1.after.later hb (by omega)⟩

/-- Any reading. -/
theorem read_any (base gs gt B C : Nat) (Z : List Int) (e k m lo hi : Int) (w : World) (hm : m ≤ 9223372036854775807) (h : Both w gs gt B C e Z) (hbs : base ≤ gs) (hbt : base ≤ gt) :
    Calls Try.prog 24 #[.pointer (some ⟨gs, 0, none⟩), .pointer (some ⟨gt, 0, none⟩), .agg #[.int .i64 k, .int .i64 m, .int .i64 lo, .int .i64 hi]] w fun r w' => r = .returned (.bool true) ∧ After base w gs gt B C w' := by
  cases he : (e == 0) with
  | true =>
    obtain rfl := beq_iff_eq.1 he
    cases h0 : (k == 0) with
    | true => exact alive_0 base gs gt B C Z k m lo hi w h0 h hbs hbt
    | false =>
      cases h1 : (k == 1) with
      | true => exact alive_1 base gs gt B C Z k m lo hi w h0 h1 h hbs hbt
      | false =>
        cases h2 : (k == 2) with
        | true => exact alive_2 base gs gt B C Z k m lo hi w h0 h1 h2 h hbs hbt
        | false =>
          cases h3 : (k == 3) with
          | true => exact alive_3 base gs gt B C Z k m lo hi w h0 h1 h2 h3 hm h hbs hbt
          | false => exact alive_4 base gs gt B C Z k m lo hi w h0 h1 h2 h3 hm h hbs hbt
  | false =>
    cases h0 : (k == 0) with
    | true => exact dead_0 base gs gt B C Z e k m lo hi w h0 he h hbs
    | false =>
      cases h1 : (k == 1) with
      | true => exact dead_1 base gs gt B C Z e k m lo hi w h0 h1 he h hbs
      | false =>
        cases h2 : (k == 2) with
        | true => exact dead_2 base gs gt B C Z e k m lo hi w h0 h1 h2 he h hbs
        | false =>
          cases h3 : (k == 3) with
          | true => exact dead_3 base gs gt B C Z e k m lo hi w h0 h1 h2 h3 he h hbs
          | false => exact dead_4 base gs gt B C Z e k m lo hi w h0 h1 h2 h3 he h hbs

end Go.Proofs.Ytcibkgmochikmaa.WireReads
