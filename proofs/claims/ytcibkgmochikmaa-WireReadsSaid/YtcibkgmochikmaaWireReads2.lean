/- The law WireReads: one reading from two sources. -/
import Derived.Test.YtcibkgmochikmaaWireRDead
import Derived.Test.YtcibkgmochikmaaWireGood
namespace Go.Proofs.Ytcibkgmochikmaa.WireReads
set_option linter.unusedVariables false
open Go.RowKit Go.Proofs.Ytcibkgmochikmaa.WireBase Go.Proofs.Ytcibkgmochikmaa.WireInt Go.Proofs.Ytcibkgmochikmaa.WireAppend Go.Proofs.Ytcibkgmochikmaa.WireRead Go.Proofs.Ytcibkgmochikmaa.WireParse Go.Proofs.Ytcibkgmochikmaa.WireCode Go.Proofs.Ytcibkgmochikmaa.WireCanon Go.Proofs.Ytcibkgmochikmaa.WireText
open Go.Proofs.Ytcibkgmochikmaa.WireSrc (Only Cut not_byte)
open Go.Proofs.Ytcibkgmochikmaa.WireRd (rdI rdT)
open Go.Proofs.Ytcibkgmochikmaa.WireLst (rdL rdN OwnV)

/-- What a reading gives. -/
def pick {α β : Type} (d : β) (f : α → β) (res : Except Int (α × List Int)) : β :=
  match res with
  | .error _ => d
  | .ok (x, _) => f x

theorem ends_pick {α β : Type} {res : Except Int (α × List Int)} {bad : Int → Prop} {good : α → List Int → Prop} {v : β} (d : β) (f : α → β) (h : WireMeth.Ends res (fun e => v = d ∧ bad e) (fun x Y => v = f x ∧ good x Y)) : v = pick d f res := by
  cases res with
  | error e => exact h.2.1
  | ok p => exact h.1

/-- The list that a reading gives lies somewhere. -/
def RowV {α : Type} (w : World) (b0 : Nat) (T : TypeId) (f : α → Value) (v : Value) (res : Except Int (List α × List Int)) : Prop :=
  match res with
  | .error _ => v = .slice none 0 0
  | .ok (xs, _) => ∃ base, b0 ≤ base ∧ OwnV w base T v (xs.map f)

theorem ends_row {α : Type} {res : Except Int (List α × List Int)} {bad : Int → Prop} {good : List α → List Int → Prop} {v : Value} {w : World} {b0 : Nat} {T : TypeId} {f : α → Value} (h : WireMeth.Ends res (fun e => v = .slice none 0 0 ∧ bad e) (fun x Y => (∃ base, b0 ≤ base ∧ OwnV w base T v (x.map f)) ∧ good x Y)) : RowV w b0 T f v res := by
  cases res with
  | error e => exact h.2.1
  | ok p => exact h.1

theorem RowV.only {α : Type} {res : Except Int (List α × List Int)} {v : Value} {w w' : World} {b0 b1 g : Nat} {T : TypeId} {f : α → Value} (h : RowV w b0 T f v res) (ho : Only g w w') (hg : g < b0) (hb : b1 ≤ b0) : RowV w' b1 T f v res := by
  cases res with
  | error e => exact h
  | ok p =>
    obtain ⟨base, h1, h2⟩ := h
    exact ⟨base, by omega, h2.only ho (by omega)⟩

theorem rdN_less {α : Type} (take : List Int → Except Int (α × List Int)) (ht : ∀ Z x Y, Bytes Z → take Z = .ok (x, Y) → Bytes Y ∧ Y.length < Z.length) : ∀ (n : Nat) (Z Y : List Int) (xs : List α), Bytes Z → rdN take n Z = .ok (xs, Y) → xs.length + Y.length ≤ Z.length
  | 0, Z, Y, xs, _, h => by
    have h' : (Except.ok ([], Z) : Except Int (List α × List Int)) = .ok (xs, Y) := h
    cases h'
    simp
  | n + 1, Z, Y, xs, hb, h => by
    have h' : (match take Z with
      | .error e => .error e
      | .ok (x, Y) => match rdN take n Y with
        | .error e => .error e
        | .ok (xs, Y') => .ok (x :: xs, Y') : Except Int (List α × List Int)) = .ok (xs, Y) := h
    cases hz : take Z with
    | error e => rw [hz] at h'; cases h'
    | ok p =>
      obtain ⟨x, X⟩ := p
      rw [hz] at h'
      obtain ⟨k1, k2⟩ := ht Z x X hb hz
      have h2 : (match rdN take n X with
        | .error e => .error e
        | .ok (xs, Y') => .ok (x :: xs, Y') : Except Int (List α × List Int)) = .ok (xs, Y) := h'
      cases hr : rdN take n X with
      | error e => rw [hr] at h2; cases h2
      | ok q =>
        obtain ⟨ys, X'⟩ := q
        rw [hr] at h2
        cases h2
        have := rdN_less take ht n X _ ys k1 hr
        simp only [List.length_cons]
        omega

theorem rdT_bytes {most : Int} {s : ByteArray} {Z Y : List Int} (hb : Bytes Z) (h : rdT most Z = .ok (s, Y)) : Bytes Y ∧ Y.length < Z.length := by
  refine ⟨?_, WireMeth.rdT_less hb h⟩
  unfold rdT at h
  cases hr : rdI 0 most 3 Z with
  | error e => rw [hr] at h; cases h
  | ok p =>
    obtain ⟨n, X⟩ := p
    rw [hr] at h
    have h' : (if n ≤ X.length then Except.ok (strOfNums (X.take n.toNat), X.drop n.toNat) else Except.error 4 : Except Int (ByteArray × List Int)) = .ok (s, Y) := h
    split at h'
    · cases h'
      exact WireRd.drop_bytes (WireMeth.rdI_bytes hb hr).1 _
    · cases h'

theorem rdL_less {α : Type} (take : List Int → Except Int (α × List Int)) (ht : ∀ Z x Y, Bytes Z → take Z = .ok (x, Y) → Bytes Y ∧ Y.length < Z.length) (most : Int) (Z Y : List Int) (xs : List α) (hb : Bytes Z) (h : rdL take most Z = .ok (xs, Y)) : xs.length + Y.length ≤ Z.length := by
  unfold rdL at h
  cases hr : rdI 0 most 3 Z with
  | error e => rw [hr] at h; cases h
  | ok p =>
    obtain ⟨n, X⟩ := p
    rw [hr] at h
    have h1 := WireMeth.rdI_bytes hb hr
    have := rdN_less take ht n.toNat X Y xs h1.1 h
    omega

/-- Both lists are the same. -/
def Lists {α : Type} (w : World) (b0 : Nat) (T : TypeId) (f : α → Value) (v v' : Value) : Prop := ∃ (xs : List α) (A1 A2 : Option Addr) (c1 c2 : Nat), v = .slice A1 xs.length c1 ∧ v' = .slice A2 xs.length c2 ∧ LiesV w w.heap.size A1 (xs.map f) ∧ LiesV w w.heap.size A2 (xs.map f) ∧ xs.length ≤ 1000

theorem lists_of {α : Type} {res : Except Int (List α × List Int)} {w : World} {b0 b1 : Nat} {T : TypeId} {f : α → Value} {v v' : Value} (h : RowV w b0 T f v res) (h' : RowV w b1 T f v' res) (hl : ∀ xs Y, res = .ok (xs, Y) → xs.length ≤ 1000) : Lists w b0 T f v v' := by
  cases res with
  | error e =>
    obtain rfl : v = .slice none 0 0 := h
    obtain rfl : v' = .slice none 0 0 := h'
    exact ⟨[], none, none, 0, 0, rfl, rfl, fun h => by simp at h, fun h => by simp at h, by simp⟩
  | ok p =>
    obtain ⟨xs, Y⟩ := p
    obtain ⟨b, _, h⟩ := h
    obtain ⟨b', _, h'⟩ := h'
    obtain ⟨A, c, rfl, l⟩ := WireGood.own_liesV h
    obtain ⟨A', c', rfl, l'⟩ := WireGood.own_liesV h'
    exact ⟨xs, A, A', c, c', by rw [List.length_map], by rw [List.length_map], l, l', hl _ _ rfl⟩

theorem lies_of_ints {w : World} {B : Nat} {A : Option Addr} {l : List Int} (h : LiesV w B A (l.map (Value.int .i64))) : Lies w .i64 B A l := fun h0 => by
  obtain ⟨ad, rfl, h1, h2⟩ := h (by simpa using h0)
  refine ⟨ad, rfl, h1, fun i hi => h2 i _ ?_⟩
  rw [List.getElem?_map, List.getElem?_eq_getElem hi, List.getD_eq_getElem?_getD, List.getElem?_eq_getElem hi]
  rfl

/-- What holds behind a reading. -/
def After (base : Nat) (w : World) (gs gt B C : Nat) (w' : World) : Prop := Below base w w' ∧ ∃ e' Z', Both w' gs gt B C e' Z'

theorem After.later {base gs gt B C : Nat} {w w1 w2 : World} (h : After base w gs gt B C w1) (hb : Below w1.heap.size w1 w2) (hs : base ≤ w.heap.size) : After base w gs gt B C w2 := by
  obtain ⟨h1, e, Z, h2⟩ := h
  exact ⟨h1.trans (hb.mono (Nat.le_trans hs h1.size)), e, Z, h2.later hb⟩

theorem half_of {α : Type} {w W w1 : World} {base gs gt B C : Nat} {Z : List Int} {A : Option Addr} {c : Nat} {res : Except Int (α × List Int)} {bad : Int → Prop} {good : α → List Int → Prop} (h : Both w gs gt B C 0 Z) (hb : Below w.heap.size w W) (hn : w.heap.size < W.heap.size) (hbase : base ≤ gs) (hf : WireMeth.Full W gs B A c Z) (ho : Only gs W w1) (he : WireMeth.Ends res (fun e => bad e ∧ WireSrc.Src w1 gs (.slice A Z.length c) e) (fun x Y => good x Y ∧ WireRd.Here w1 gs B Y)) (hless : ∀ x Y, res = .ok (x, Y) → Y.length ≤ Z.length) : Half w1 gs gt B C Z res ∧ Below base w w1 ∧ w.heap.size < w1.heap.size ∧ w1.heap[w.heap.size]? = W.heap[w.heap.size]? := by
  have hl := h.lts
  refine ⟨half (h.later hb) hf ho he hless, (hb.mono (by omega)).trans (ho.below (by omega) hbase), Nat.lt_of_lt_of_le hn ho.size, ho.block _ hn (by omega)⟩

theorem lt_of_some {w : World} {k : Nat} {o : Obj} (h : w.heap[k]? = some o) : k < w.heap.size := (Array.getElem?_eq_some_iff.1 h).1

theorem after_of {α : Type} {w w1 w2 : World} {base gs gt B C : Nat} {Z : List Int} {A : Option Addr} {c : Nat} {res : Except Int (α × List Int)} {bad : Int → Prop} {good : α → List Int → Prop} (hg : gt < w.heap.size) (hbase : base ≤ gt) (h : Half w1 gs gt B C Z res ∧ Below base w w1 ∧ w.heap.size < w1.heap.size) (hf : WireRS.Full w1 gt C A c Z) (ho : Only gt w1 w2) (he : WireMeth.Ends res (fun e => bad e ∧ WireRS.Src w2 gt (.slice A Z.length c) e) (fun x Y => good x Y ∧ WireRS.Here w2 gt C Y)) : w2.heap[w.heap.size]? = w1.heap[w.heap.size]? ∧ After base w gs gt B C w2 :=
  ⟨ho.block _ h.2.2 (by omega), h.2.1.trans (ho.below (by omega) hbase), whole h.1 hf ho he⟩

section
variable (base gs gt B C : Nat) (Z : List Int) (k m lo hi : Int) (w : World) (h : Both w gs gt B C 0 Z) (hbs : base ≤ gs) (hbt : base ≤ gt)

theorem alive_0 (hk : (k == 0) = true) (h : Both w gs gt B C 0 Z) (hbs : base ≤ gs) (hbt : base ≤ gt) :
    Calls Try.prog 24 #[.pointer (some ⟨gs, 0, none⟩), .pointer (some ⟨gt, 0, none⟩), .agg #[.int .i64 k, .int .i64 m, .int .i64 lo, .int .i64 hi]] w fun r w' => r = .returned (.bool true) ∧ After base w gs gt B C w' := by
  have hl := h.lts
  refine WireBoth.read_0 w gs gt k m lo hi (fun w1 x => (Half w1 gs gt B C Z (rdI lo hi 2 Z) ∧ Below base w w1 ∧ w.heap.size < w1.heap.size) ∧ x = pick 0 (fun x => x) (rdI lo hi 2 Z)) _ hk (Lib.hid fun W hb hs => ?_) (Lib.hid fun W x hp => ?_)
  · obtain ⟨A, c, a1, a2, a3, a4⟩ := (h.later hb).s
    have hf : WireMeth.Full W gs B A c Z := ⟨h.bytes, (h.later hb).bs, a1, a2, a3, a4⟩
    refine (WireMeth.int_m gs B c A Z lo hi W hf).mono ?_
    rintro r w' ⟨v, rfl, ho, he⟩
    obtain ⟨q1, q2, q3, q4⟩ := half_of (base := base) h hb (lt_of_some hs) hbs hf ho he fun x Y e => Nat.le_of_lt (WireMeth.rdI_less h.bytes e)
    exact ⟨v, rfl, q4, ⟨q1, q2, q3⟩, ends_pick _ _ he⟩
  · obtain ⟨p1, rfl⟩ := hp
    obtain ⟨A, c, hf⟩ := p1.1.2.2.2.2.2.1
    refine (WireRMeth.int_r gt C c A Z lo hi W hf).mono ?_
    rintro r w' ⟨v, rfl, ho, he⟩
    have q := after_of hl.2 hbt p1 hf ho he
    exact ⟨by rw [ends_pick _ (fun x => x) he], q.1, q.2⟩

theorem alive_1 (hk0 : (k == 0) = false) (hk : (k == 1) = true) (h : Both w gs gt B C 0 Z) (hbs : base ≤ gs) (hbt : base ≤ gt) :
    Calls Try.prog 24 #[.pointer (some ⟨gs, 0, none⟩), .pointer (some ⟨gt, 0, none⟩), .agg #[.int .i64 k, .int .i64 m, .int .i64 lo, .int .i64 hi]] w fun r w' => r = .returned (.bool true) ∧ After base w gs gt B C w' := by
  have hl := h.lts
  refine WireBoth.read_1 w gs gt k m lo hi (fun w1 x => (Half w1 gs gt B C Z (rdI 0 1 2 Z) ∧ Below base w w1 ∧ w.heap.size < w1.heap.size) ∧ x = pick false (fun x => x == 1) (rdI 0 1 2 Z)) _ hk0 hk (Lib.hid fun W hb hs => ?_) (Lib.hid fun W x hp => ?_)
  · obtain ⟨A, c, a1, a2, a3, a4⟩ := (h.later hb).s
    have hf : WireMeth.Full W gs B A c Z := ⟨h.bytes, (h.later hb).bs, a1, a2, a3, a4⟩
    refine (WireMeth.bool_m gs B c A Z W hf).mono ?_
    rintro r w' ⟨v, rfl, ho, he⟩
    obtain ⟨q1, q2, q3, q4⟩ := half_of (base := base) h hb (lt_of_some hs) hbs hf ho he fun x Y e => Nat.le_of_lt (WireMeth.rdI_less h.bytes e)
    exact ⟨v, rfl, q4, ⟨q1, q2, q3⟩, ends_pick _ _ he⟩
  · obtain ⟨p1, rfl⟩ := hp
    obtain ⟨A, c, hf⟩ := p1.1.2.2.2.2.2.1
    refine (WireRMeth.bool_r gt C c A Z W hf).mono ?_
    rintro r w' ⟨v, rfl, ho, he⟩
    have q := after_of hl.2 hbt p1 hf ho he
    exact ⟨by rw [ends_pick _ (fun x => x == 1) he], q.1, q.2⟩

theorem alive_2 (hk0 : (k == 0) = false) (hk1 : (k == 1) = false) (hk : (k == 2) = true) (h : Both w gs gt B C 0 Z) (hbs : base ≤ gs) (hbt : base ≤ gt) :
    Calls Try.prog 24 #[.pointer (some ⟨gs, 0, none⟩), .pointer (some ⟨gt, 0, none⟩), .agg #[.int .i64 k, .int .i64 m, .int .i64 lo, .int .i64 hi]] w fun r w' => r = .returned (.bool true) ∧ After base w gs gt B C w' := by
  have hl := h.lts
  refine WireBoth.read_2 w gs gt k m lo hi (fun w1 x => (Half w1 gs gt B C Z (rdT m Z) ∧ Below base w w1 ∧ w.heap.size < w1.heap.size) ∧ x = pick ⟨#[]⟩ (fun x => x) (rdT m Z)) _ hk0 hk1 hk (Lib.hid fun W hb hs => ?_) (Lib.hid fun W x hp => ?_)
  · obtain ⟨A, c, a1, a2, a3, a4⟩ := (h.later hb).s
    have hf : WireMeth.Full W gs B A c Z := ⟨h.bytes, (h.later hb).bs, a1, a2, a3, a4⟩
    refine (WireMeth.text_m gs B c A Z m W hf).mono ?_
    rintro r w' ⟨v, rfl, ho, he⟩
    obtain ⟨q1, q2, q3, q4⟩ := half_of (base := base) h hb (lt_of_some hs) hbs hf ho he fun x Y e => Nat.le_of_lt (WireMeth.rdT_less h.bytes e)
    exact ⟨v, rfl, q4, ⟨q1, q2, q3⟩, ends_pick _ _ he⟩
  · obtain ⟨p1, rfl⟩ := hp
    obtain ⟨A, c, hf⟩ := p1.1.2.2.2.2.2.1
    refine (WireRMeth.text_r gt C c A Z m W hf).mono ?_
    rintro r w' ⟨v, rfl, ho, he⟩
    have q := after_of hl.2 hbt p1 hf ho he
    exact ⟨by rw [ends_pick _ (fun x => x) he], q.1, q.2⟩

theorem alive_3 (hk0 : (k == 0) = false) (hk1 : (k == 1) = false) (hk2 : (k == 2) = false) (hk : (k == 3) = true) (hm : m ≤ 9223372036854775807) (h : Both w gs gt B C 0 Z) (hbs : base ≤ gs) (hbt : base ≤ gt) :
    Calls Try.prog 24 #[.pointer (some ⟨gs, 0, none⟩), .pointer (some ⟨gt, 0, none⟩), .agg #[.int .i64 k, .int .i64 m, .int .i64 lo, .int .i64 hi]] w fun r w' => r = .returned (.bool true) ∧ After base w gs gt B C w' := by
  have hl := h.lts
  have hs0 := h.short
  refine WireBoth.read_3 w gs gt k m lo hi (fun w1 x => (Half w1 gs gt B C Z (rdL (rdI lo hi 2) m Z) ∧ Below base w w1 ∧ w.heap.size < w1.heap.size) ∧ RowV w1 w.heap.size 3 (Value.int .i64) x (rdL (rdI lo hi 2) m Z)) (fun w2 x y => (After base w gs gt B C w2 ∧ w.heap.size < w2.heap.size) ∧ Lists w2 w.heap.size 3 (Value.int .i64) x y) _ hk0 hk1 hk2 hk (Lib.hid fun W hb hs => ?_) (Lib.hid fun W x hp => ?_) (Lib.hid fun W x y hp => ?_)
  · obtain ⟨A, c, a1, a2, a3, a4⟩ := (h.later hb).s
    have hf : WireMeth.Full W gs B A c Z := ⟨h.bytes, (h.later hb).bs, a1, a2, a3, a4⟩
    refine (WireMeth.ints_m gs B c A Z m lo hi W hf (by omega) hm).mono ?_
    rintro r w' ⟨v, rfl, ho, he⟩
    obtain ⟨q1, q2, q3, q4⟩ := half_of (base := base) h hb (lt_of_some hs) hbs hf ho he fun x Y e => Nat.le_trans (Nat.le_add_left _ _) (rdL_less _ (fun _ _ _ hb e => WireMeth.rdI_bytes hb e) m Z Y x h.bytes e)
    have r1 := ends_row he
    refine ⟨v, rfl, q4, ⟨q1, q2, q3⟩, r1.only (Only.of_below (g := 0) (Below.refl _ _)) (by have := lt_of_some hs; omega) hb.size⟩
  · obtain ⟨p1, p2⟩ := hp
    obtain ⟨A, c, hf⟩ := p1.1.2.2.2.2.2.1
    refine (WireRMeth.intsR_r gt C c A Z m lo hi W hf (by omega) hm).mono ?_
    rintro r w' ⟨v, rfl, ho, he⟩
    have q := after_of hl.2 hbt p1 hf ho he
    refine ⟨v, rfl, q.1, ⟨q.2, Nat.lt_of_lt_of_le p1.2.2 ho.size⟩, lists_of (p2.only ho hl.2 (Nat.le_refl _)) (ends_row he) fun xs Y e => ?_⟩
    have := rdL_less _ (fun _ _ _ hb e => WireMeth.rdI_bytes hb e) m Z Y xs h.bytes e
    omega
  · obtain ⟨⟨p1, p3⟩, xs, A1, A2, c1, c2, rfl, rfl, l1, l2, hx⟩ := hp
    refine (WireGood.same_ints A1 A2 c1 c2 xs W (lies_of_ints l1) (lies_of_ints l2) (by omega)).mono ?_
    rintro r w' ⟨rfl, hb⟩
    exact ⟨rfl, hb.block _ p3, p1.later hb (by omega)⟩

theorem alive_4 (hk0 : (k == 0) = false) (hk1 : (k == 1) = false) (hk2 : (k == 2) = false) (hk : (k == 3) = false) (hm : m ≤ 9223372036854775807) (h : Both w gs gt B C 0 Z) (hbs : base ≤ gs) (hbt : base ≤ gt) :
    Calls Try.prog 24 #[.pointer (some ⟨gs, 0, none⟩), .pointer (some ⟨gt, 0, none⟩), .agg #[.int .i64 k, .int .i64 m, .int .i64 lo, .int .i64 hi]] w fun r w' => r = .returned (.bool true) ∧ After base w gs gt B C w' := by
  have hl := h.lts
  have hs0 := h.short
  refine WireBoth.read_4 w gs gt k m lo hi (fun w1 x => (Half w1 gs gt B C Z (rdL (rdT hi) m Z) ∧ Below base w w1 ∧ w.heap.size < w1.heap.size) ∧ RowV w1 w.heap.size 9 Value.string x (rdL (rdT hi) m Z)) (fun w2 x y => (After base w gs gt B C w2 ∧ w.heap.size < w2.heap.size) ∧ Lists w2 w.heap.size 9 Value.string x y) _ hk0 hk1 hk2 hk (Lib.hid fun W hb hs => ?_) (Lib.hid fun W x hp => ?_) (Lib.hid fun W x y hp => ?_)
  · obtain ⟨A, c, a1, a2, a3, a4⟩ := (h.later hb).s
    have hf : WireMeth.Full W gs B A c Z := ⟨h.bytes, (h.later hb).bs, a1, a2, a3, a4⟩
    refine (WireMeth.texts_m gs B c A Z m hi W hf (by omega) hm).mono ?_
    rintro r w' ⟨v, rfl, ho, he⟩
    obtain ⟨q1, q2, q3, q4⟩ := half_of (base := base) h hb (lt_of_some hs) hbs hf ho he fun x Y e => Nat.le_trans (Nat.le_add_left _ _) (rdL_less _ (fun _ _ _ hb e => rdT_bytes hb e) m Z Y x h.bytes e)
    have r1 := ends_row he
    refine ⟨v, rfl, q4, ⟨q1, q2, q3⟩, r1.only (Only.of_below (g := 0) (Below.refl _ _)) (by have := lt_of_some hs; omega) hb.size⟩
  · obtain ⟨p1, p2⟩ := hp
    obtain ⟨A, c, hf⟩ := p1.1.2.2.2.2.2.1
    refine (WireRMeth.textsR_r gt C c A Z m hi W hf (by omega) hm).mono ?_
    rintro r w' ⟨v, rfl, ho, he⟩
    have q := after_of hl.2 hbt p1 hf ho he
    refine ⟨v, rfl, q.1, ⟨q.2, Nat.lt_of_lt_of_le p1.2.2 ho.size⟩, lists_of (p2.only ho hl.2 (Nat.le_refl _)) (ends_row he) fun xs Y e => ?_⟩
    have := rdL_less _ (fun _ _ _ hb e => rdT_bytes hb e) m Z Y xs h.bytes e
    omega
  · obtain ⟨⟨p1, p3⟩, xs, A1, A2, c1, c2, rfl, rfl, l1, l2, hx⟩ := hp
    refine (WireGood.same_texts A1 A2 c1 c2 xs W l1 l2 (by omega)).mono ?_
    rintro r w' ⟨rfl, hb⟩
    exact ⟨rfl, hb.block _ p3, p1.later hb (by omega)⟩
end

end Go.Proofs.Ytcibkgmochikmaa.WireReads
