/- Reading what was written, step by step; equal lists. -/
import Derived.Test.YtcibkgmochikmaaWireBack
import Derived.Test.YtcibkgmochikmaaWireWrites
namespace Go.Proofs.Ytcibkgmochikmaa.WireGood
set_option linter.unusedVariables false
open Go.RowKit Go.Proofs.Ytcibkgmochikmaa.WireBase Go.Proofs.Ytcibkgmochikmaa.WireInt Go.Proofs.Ytcibkgmochikmaa.WireAppend Go.Proofs.Ytcibkgmochikmaa.WireRead Go.Proofs.Ytcibkgmochikmaa.WireParse Go.Proofs.Ytcibkgmochikmaa.WireSrc Go.Proofs.Ytcibkgmochikmaa.WireAwake Go.Proofs.Ytcibkgmochikmaa.WireCode Go.Proofs.Ytcibkgmochikmaa.WireCanon Go.Proofs.Ytcibkgmochikmaa.WireText Go.Proofs.Ytcibkgmochikmaa.WireRd Go.Proofs.Ytcibkgmochikmaa.WireLst Go.Proofs.Ytcibkgmochikmaa.WireMeth Go.Proofs.Ytcibkgmochikmaa.WireBack Go.Proofs.Ytcibkgmochikmaa.WireWrites

theorem int_h (g B : Nat) (x : Int) (R : List Int) (w : World) (h : Here w g B (enc x ++ R)) (hx : isI x) :
    Calls Try.prog 32 #[.pointer (some ⟨g, 0, none⟩), .int .i64 x, .int .i64 x] w fun r w' => r = .returned (.int .i64 x) ∧ Only g w w' ∧ Here w' g B R := by
  obtain ⟨A, c, hf⟩ := WireMeth.Here.full h
  have HM := int_m g B c A _ x x w hf
  rw [rdI_enc x x 2 x hx R ⟨Int.le_refl _, Int.le_refl _⟩] at HM
  refine HM.mono ?_
  rintro r w' ⟨v, rfl, ho, rfl, hh⟩
  exact ⟨rfl, ho, hh⟩

theorem bool_h (g B : Nat) (b : Bool) (R : List Int) (w : World) (h : Here w g B (enc (if b then 1 else 0) ++ R)) :
    Calls Try.prog 33 #[.pointer (some ⟨g, 0, none⟩)] w fun r w' => r = .returned (.bool b) ∧ Only g w w' ∧ Here w' g B R := by
  obtain ⟨A, c, hf⟩ := WireMeth.Here.full h
  have HM := bool_m g B c A _ w hf
  rw [rdI_enc 0 1 2 _ (by cases b <;> exact ⟨by decide, by decide⟩) R (by cases b <;> exact ⟨by decide, by decide⟩)] at HM
  refine HM.mono ?_
  rintro r w' ⟨v, rfl, ho, rfl, hh⟩
  exact ⟨by cases b <;> rfl, ho, hh⟩

theorem text_h (g B : Nat) (s : ByteArray) (R : List Int) (w : World) (h : Here w g B (encT s ++ R)) (hs : s.size ≤ 100000) :
    Calls Try.prog 34 #[.pointer (some ⟨g, 0, none⟩), .int .i64 ((s.size : Nat) : Int)] w fun r w' => r = .returned (.string s) ∧ Only g w w' ∧ Here w' g B R := by
  obtain ⟨A, c, hf⟩ := WireMeth.Here.full h
  have HM := text_m g B c A _ ((s.size : Nat) : Int) w hf
  rw [rdT_enc _ s R (Int.le_refl _) hs] at HM
  refine HM.mono ?_
  rintro r w' ⟨v, rfl, ho, rfl, hh⟩
  exact ⟨rfl, ho, hh⟩

theorem ints_h (g B : Nat) (l : List Int) (R : List Int) (w : World) (h : Here w g B (enc ((l.length : Nat) : Int) ++ l.flatMap enc ++ R)) (hlen : (enc ((l.length : Nat) : Int) ++ l.flatMap enc ++ R).length ≤ 100000) (hl : l.length ≤ 20) (hi : ∀ n ∈ l, isI n) :
    Calls Try.prog 29 #[.pointer (some ⟨g, 0, none⟩), .int .i64 20, .int .i64 (-9223372036854775808), .int .i64 9223372036854775807] w fun r w' => ∃ A c, r = .returned (.slice A l.length c) ∧ Lies w' .i64 w'.heap.size A l ∧ Only g w w' ∧ Here w' g B R := by
  obtain ⟨A, c, hf⟩ := WireMeth.Here.full h
  have HM := ints_m g B c A _ 20 (-9223372036854775808) 9223372036854775807 w hf hlen (by decide)
  rw [rdL_enc (rdI (-9223372036854775808) 9223372036854775807 2) enc l 20 (by omega) (by omega) (fun x hx R => rdI_enc _ _ _ x (hi x hx) R (hi x hx)) R] at HM
  refine HM.mono ?_
  rintro r w' ⟨v, rfl, ho, ⟨base, _, hown⟩, hh⟩
  unfold OwnV at hown
  rw [List.length_map] at hown
  obtain ⟨A1, c1, rfl, l1⟩ := own_lies hown
  exact ⟨A1, c1, rfl, l1, ho, hh⟩

theorem own_liesV {w : World} {base : Nat} {e : TypeId} {v : Value} {vs : List Value} (h : OwnV w base e v vs) : ∃ A c, v = .slice A vs.length c ∧ LiesV w w.heap.size A vs := by
  rcases h.2 with ⟨rfl, h0⟩ | ⟨g, cap, cur, rfl, hb, hg, hnc, _⟩
  · refine ⟨none, 0, by rw [h0], fun h => ?_⟩
    omega
  · refine ⟨some ⟨g, 0, none⟩, cap, rfl, fun _ => ⟨⟨g, 0, none⟩, rfl, (Array.getElem?_eq_some_iff.1 hg).1, fun i u hi => ?_⟩⟩
    exact World.ownsRow.cells h (g := g) rfl i u hi

theorem texts_h (g B : Nat) (t : List ByteArray) (R : List Int) (w : World) (h : Here w g B (enc ((t.length : Nat) : Int) ++ t.flatMap encT ++ R)) (hlen : (enc ((t.length : Nat) : Int) ++ t.flatMap encT ++ R).length ≤ 100000) (hl : t.length ≤ 20) (hi : ∀ s ∈ t, s.size ≤ 100) :
    Calls Try.prog 31 #[.pointer (some ⟨g, 0, none⟩), .int .i64 20, .int .i64 100] w fun r w' => ∃ A c, r = .returned (.slice A t.length c) ∧ LiesV w' w'.heap.size A (t.map Value.string) ∧ Only g w w' ∧ Here w' g B R := by
  obtain ⟨A, c, hf⟩ := WireMeth.Here.full h
  have HM := texts_m g B c A _ 20 100 w hf hlen (by decide)
  rw [rdL_enc (rdT 100) encT t 20 (by omega) (by omega) (fun x hx R => rdT_enc 100 x R (by have := hi x hx; omega) (by have := hi x hx; omega)) R] at HM
  refine HM.mono ?_
  rintro r w' ⟨v, rfl, ho, ⟨base, _, hown⟩, hh⟩
  obtain ⟨A1, c1, rfl, l1⟩ := own_liesV hown
  rw [List.length_map]
  exact ⟨A1, c1, rfl, l1, ho, hh⟩

set_option maxHeartbeats 1000000 in
theorem same_ints (A1 A2 : Option Addr) (c1 c2 : Nat) (l : List Int) (w : World) (h1 : Lies w .i64 w.heap.size A1 l) (h2 : Lies w .i64 w.heap.size A2 l) (hl : ((l.length : Nat) : Int) ≤ 100000) :
    Calls Try.prog 28 #[.slice A1 l.length c1, .slice A2 l.length c2] w fun e w' => e = .returned (.bool true) ∧ Below w.heap.size w w' := by
  have H1 := Lib.hid h1
  have H2 := Lib.hid h2
  clear h1 h2
  go_enter Try.func28, Try.ntmps28
  go_wp2_with (fail)
  go_loopw [5] (fun s wr => ∃ k : Nat, s = .int .i64 k ∧ k ≤ l.length ∧ Hid (Below w.heap.size w wr)) (fun s _ => l.length - (intOf s).toNat)
  case atStart => exact ⟨0, rfl, Nat.zero_le _, Lib.hid (Below.refl _ _)⟩
  case round =>
    obtain ⟨k, rfl, hk, HB⟩ := hrel
    by_cases hlt : k < l.length
    · obtain ⟨ad1, rfl, q1⟩ := (H1.out.below HB.out).at_ hlt
      obtain ⟨ad2, rfl, q2⟩ := (H2.out.below HB.out).at_ hlt
      have hk' : ((k : Nat) : Int) < ((l.length : Nat) : Int) := by omega
      generalize l.getD k 0 = x at *
      go_wp2_with (fail)
      go_region
      go_wp2
      go_roundw
      case rel => exact ⟨k + 1, by go_num, by omega, Lib.hid HB.out.drew⟩
      case measure => simp [intOf]; omega
    · obtain rfl : k = l.length := by omega
      clear hk hlt
      go_wp2
      go_ret
      exact ⟨rfl, HB.out⟩

set_option maxHeartbeats 1000000 in
theorem same_texts (A1 A2 : Option Addr) (c1 c2 : Nat) (l : List ByteArray) (w : World) (h1 : LiesV w w.heap.size A1 (l.map Value.string)) (h2 : LiesV w w.heap.size A2 (l.map Value.string)) (hl : ((l.length : Nat) : Int) ≤ 100000) :
    Calls Try.prog 30 #[.slice A1 l.length c1, .slice A2 l.length c2] w fun e w' => e = .returned (.bool true) ∧ Below w.heap.size w w' := by
  have H1 := Lib.hid h1
  have H2 := Lib.hid h2
  clear h1 h2
  go_enter Try.func30, Try.ntmps30
  go_wp2_with (fail)
  go_loopw [5] (fun s wr => ∃ k : Nat, s = .int .i64 k ∧ k ≤ l.length ∧ Hid (Below w.heap.size w wr)) (fun s _ => l.length - (intOf s).toNat)
  case atStart => exact ⟨0, rfl, Nat.zero_le _, Lib.hid (Below.refl _ _)⟩
  case round =>
    obtain ⟨k, rfl, hk, HB⟩ := hrel
    by_cases hlt : k < l.length
    · obtain ⟨ad1, rfl, q1⟩ := (H1.out.below HB.out).textAt hlt
      obtain ⟨ad2, rfl, q2⟩ := (H2.out.below HB.out).textAt hlt
      have hk' : ((k : Nat) : Int) < ((l.length : Nat) : Int) := by omega
      generalize l.getD k ByteArray.empty = x at *
      go_wp2_with (fail)
      go_region
      go_wp2
      go_roundw
      case rel => exact ⟨k + 1, by go_num, by omega, Lib.hid HB.out.drew⟩
      case measure => simp [intOf]; omega
    · obtain rfl : k = l.length := by omega
      clear hk hlt
      go_wp2
      go_ret
      exact ⟨rfl, HB.out⟩

end Go.Proofs.Ytcibkgmochikmaa.WireGood
