/- Tokens of the program handed to the reference, and two lists of tokens compared; the walk of the law LexerLex. -/
import Derived.Test.YtanhljpmknfabaaDoorLexRLex
namespace Go.Proofs.YtanhljpmknfabaaDoor.LexSame
set_option linter.unusedVariables false
open Go.RowKit Go.Proofs.YtanhljpmknfabaaDoor.LexModel Go.Proofs.YtanhljpmknfabaaDoor.LexMath Go.Proofs.YtanhljpmknfabaaDoor.LexSkip Go.Proofs.YtanhljpmknfabaaDoor.LexTok Go.Proofs.YtanhljpmknfabaaDoor.LexLex Go.Proofs.YtanhljpmknfabaaDoor.LexAwake Go.Proofs.YtanhljpmknfabaaDoor.LexRLex

set_option maxRecDepth 100000 in
set_option maxHeartbeats 4000000 in
theorem theirs_any (ts : List Tok) (A : Option Addr) (c : Nat) (w : World) (ht : Toks w A ts) (hn : ts.length ≤ 4000) :
    Calls Tryd.prog 14 #[.slice A ts.length c] w fun e w' => ∃ A' c', e = .returned (.slice A' ts.length c') ∧ Toks w' A' ts ∧ Below w.heap.size w w' := by
  have HT := Lib.hid ht
  have hn' : ((ts.length : Nat) : Int) ≤ 4000 := by omega
  clear ht hn
  go_enter Tryd.func14, Tryd.ntmps14
  go_wp2_with (fail)
  go_loopw [3, 4] (fun s3 s4 wr => ∃ (A1 : Option Addr) (c1 i : Nat) (us : List Tok), us.length = i ∧ s3 = .slice A1 us.length c1 ∧ s4 = .int .i64 i ∧ (i : Int) ≤ ts.length ∧ Hid (us = ts.take i) ∧ Hid (OwnT wr w.heap.size 38 (.slice A1 us.length c1) us) ∧ Hid (Below w.heap.size w wr)) (fun _ s4 _ => ts.length - (intOf s4).toNat)
  case atStart => exact ⟨none, 0, 0, [], rfl, rfl, rfl, by omega, Lib.hid (by simp), Lib.hid ⟨rfl, Or.inl ⟨rfl, rfl⟩⟩, Lib.hid (Below.refl _ _)⟩
  case round =>
    obtain ⟨A1, c1, i, us, hui, rfl, rfl, hi, HU, HO, HB⟩ := hrel
    by_cases hlt : i < ts.length
    · have hlt' : (i : Int) < ts.length := by omega
      obtain ⟨g, rfl, hg, x0, x1, x2, x3⟩ := (HT.out.below HB.out).at_ hlt
      have HU1 : Hid (us ++ [ts[i]] = ts.take (i + 1)) := Lib.hid (by rw [HU.out, List.take_succ_eq_append_getElem hlt])
      have hui' : ((us.length : Nat) : Int) ≤ 200000 := by omega
      generalize ts[i] = t at *
      clear HU
      go_wp2_with (with_reducible refine stop_at (o := ⟨some 17, _, _, _, _, _⟩) ?_)
      unfold Stop
      refine app_tok 27 38 tokTR _ 40 tokInfoR rfl (by decide) rfl (.tmp 11) (.tmp 16) rfl w.heap.size wr t _ _ _ rfl rfl rfl us _ rfl rfl HO hui' HB.out.size ?_
      intro A4 c4 w4 HO4 HB4
      have HB5 := Lib.hid (HB.out.trans HB4.out)
      have hl4 : (us ++ [t]).length = i + 1 := by rw [List.length_append, hui]; rfl
      clear HO HB HB4
      generalize us ++ [t] = us4 at *
      go_wp2
      go_roundw
      case rel => exact ⟨A4, c4, i + 1, us4, hl4, by rw [hl4], by go_num, by omega, HU1, HO4, HB5⟩
      case measure => simp [intOf]; omega
    · obtain rfl : i = ts.length := by omega
      have hu : us = ts := by rw [HU.out, List.take_length]
      subst hu
      go_wp2
      go_ret
      exact ⟨A1, ⟨c1, rfl⟩, OwnT.toks HO.out, HB.out⟩

set_option maxRecDepth 100000 in
set_option maxHeartbeats 4000000 in
theorem same_any (ts : List Tok) (A B : Option Addr) (c d : Nat) (w : World) (ha : Toks w A ts) (hb : Toks w B ts) (hn : ts.length ≤ 4000) :
    Calls Tryd.prog 13 #[.slice A ts.length c, .slice B ts.length d] w fun e w' => e = .returned (.bool true) ∧ Below w.heap.size w w' := by
  have HA := Lib.hid ha
  have HBt := Lib.hid hb
  have hn' : ((ts.length : Nat) : Int) ≤ 4000 := by omega
  clear ha hb hn
  go_enter Tryd.func13, Tryd.ntmps13
  go_wp2_with (fail)
  go_loopw [5] (fun s5 wr => ∃ i : Nat, s5 = .int .i64 i ∧ (i : Int) ≤ ts.length ∧ Hid (Below w.heap.size w wr)) (fun s5 _ => ts.length - (intOf s5).toNat)
  case atStart => exact ⟨0, rfl, by omega, Lib.hid (Below.refl _ _)⟩
  case round =>
    obtain ⟨i, rfl, hi, HB⟩ := hrel
    by_cases hlt : i < ts.length
    · have hlt' : (i : Int) < ts.length := by omega
      obtain ⟨g, rfl, hg, x0, x1, x2, x3⟩ := (HA.out.below HB.out).at_ hlt
      obtain ⟨g2, rfl, hg2, y0, y1, y2, y3⟩ := (HBt.out.below HB.out).at_ hlt
      generalize ts[i] = t at *
      go_wp2_with (fail)
      go_quiet (fail)
      go_wp2
      go_roundw
      case rel => exact ⟨i + 1, by go_num, by omega, Lib.hid (below_drewN HB.out _)⟩
      case measure => simp [intOf]; omega
    · obtain rfl : i = ts.length := by omega
      go_wp2
      go_ret
      exact ⟨rfl, HB.out⟩

theorem lex_long (l : List UInt8) (w : World) (ht : Tab w) (hl : 400 < l.length) :
    Calls Tryd.prog 3 #[.string (sv l)] w fun e w' => e = .returned (.bool true) ∧ Below w.heap.size w w' := by
  have HA := Lib.hid (awake_any w ht)
  have hz := sv_size l
  have h4 : (400 : Int) < l.length := by omega
  clear ht
  go_enter Tryd.func3, Tryd.ntmps3
  go_wp2_with (fail)
  refine HA.out.mono ?_
  rintro e w1 ⟨rfl, b1⟩
  have HB1 := Lib.hid b1
  clear b1
  go_wp2
  go_ret
  exact ⟨rfl, HB1.out⟩

/-- Lex on either side: the same tokens, place and error. -/
theorem both (l : List UInt8) (hl : ¬ 400 < l.length) : ∃ (ts : List Tok) (p q : Nat), ts.length ≤ 4000 ∧
    (∀ w, Tab w → Calls Tryd.prog 11 #[.string (sv l)] w fun r w' => ∃ A c, r = .returned (.tuple #[.slice A ts.length c, .int .i64 p, .int .i64 q]) ∧ Toks w' A ts ∧ Below w.heap.size w w') ∧
    (∀ w, Calls Tryd.prog 12 #[.string (sv l)] w fun r w' => ∃ A c, r = .returned (.tuple #[.slice A ts.length c, .int .i64 p, .int .i64 q]) ∧ Toks w' A ts ∧ Below w.heap.size w w') := by
  cases hx : lex l with
  | error p =>
    refine ⟨[], p.1, p.2, Nat.zero_le _, fun w ht => ?_, fun w => ?_⟩
    · refine (lex_err l p w ht (by omega) hx).mono fun r w' h => ⟨none, 0, h.1, fun h => absurd h (Nat.lt_irrefl _), h.2⟩
    · refine (refLex_main l w (by omega)).mono fun r w' h => ?_
      unfold RefPost at h
      rw [hx] at h
      exact ⟨none, 0, h.1, fun h => absurd h (Nat.lt_irrefl _), h.2⟩
  | ok ts =>
    refine ⟨ts, 0, 0, lex_len hx, fun w ht => lex_ok l ts w ht (by omega) hx, fun w => ?_⟩
    refine (refLex_main l w (by omega)).mono fun r w' h => ?_
    unfold RefPost at h
    rw [hx] at h
    obtain ⟨A, c, h1, h2, h3⟩ := h
    exact ⟨A, c, h1, OwnT.toks h2, h3⟩

set_option maxRecDepth 100000 in
set_option maxHeartbeats 4000000 in
theorem lex_short (l : List UInt8) (w : World) (ht : Tab w) (hl : ¬ 400 < l.length) :
    Calls Tryd.prog 3 #[.string (sv l)] w fun e w' => e = .returned (.bool true) ∧ Below w.heap.size w w' := by
  obtain ⟨ts, p, q, hn, h1, h2⟩ := both l hl
  have HA := Lib.hid (awake_any w ht)
  have H1 := Lib.hid (fun w1 (hb : Below w.heap.size w w1) => h1 w1 (ht.below hb))
  have H2 := Lib.hid h2
  have HTh := Lib.hid (fun A c w1 h => theirs_any ts A c w1 h hn)
  have HSa := Lib.hid (fun A B c d w1 ha hb => same_any ts A B c d w1 ha hb hn)
  have hz := sv_size l
  have h4 : ¬ (400 : Int) < l.length := by omega
  have hn' : ((ts.length : Nat) : Int) ≤ 4000 := by omega
  clear ht h1 h2 hn
  go_enter Tryd.func3, Tryd.ntmps3
  go_wp2_with (fail)
  refine HA.out.mono ?_
  rintro e w1 ⟨rfl, b1⟩
  have HB1 := Lib.hid b1
  clear b1
  go_wp2_with (fail)
  refine (H1.out w1 HB1.out).mono ?_
  rintro e w2 ⟨A2, c2, rfl, t2, b2⟩
  have HB2 := Lib.hid (bt HB1.out b2)
  have HT2 := Lib.hid t2
  clear b2 t2
  go_wp2_with (fail)
  refine (H2.out w2).mono ?_
  rintro e w3 ⟨A3, c3, rfl, t3, b3⟩
  have HB3 := Lib.hid (bt HB2.out b3)
  have HT3 := Lib.hid t3
  have HT23 := Lib.hid (HT2.out.below b3)
  clear b3 t3
  go_wp2_with (fail)
  refine (HTh.out A2 c2 w3 HT23.out).mono ?_
  rintro e w4 ⟨A4, c4, rfl, t4, b4⟩
  have HB4 := Lib.hid (bt HB3.out b4)
  have HT4 := Lib.hid t4
  have HT34 := Lib.hid (HT3.out.below b4)
  clear b4 t4
  go_wp2_with (fail)
  refine (HSa.out A4 A3 c4 c3 w4 HT4.out HT34.out).mono ?_
  rintro e w5 ⟨rfl, b5⟩
  have HB5 := Lib.hid (bt HB4.out b5)
  clear b5
  go_wp2
  go_ret
  exact ⟨rfl, HB5.out⟩

/-- The law, at any text. -/
theorem lex_law (w : World) (ht : Tab w) (s : ByteArray) (ws : s.size ≤ maxLen) :
    Calls Tryd.prog 3 #[.string s] w fun e w' => e = .returned (.bool true) ∧ Below w.heap.size w w' := by
  rw [← sv_data s]
  generalize s.data.toList = l
  by_cases h : 400 < l.length
  · exact lex_long l w ht h
  · exact lex_short l w ht h

end Go.Proofs.YtanhljpmknfabaaDoor.LexSame
