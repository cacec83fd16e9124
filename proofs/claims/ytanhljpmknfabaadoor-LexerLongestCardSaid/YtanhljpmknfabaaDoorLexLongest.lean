/- The walk of the law LexerLongest. -/
import Derived.Test.YtanhljpmknfabaaDoorLexAwake
import Derived.Deep.RegionHeld3
namespace Go.Proofs.YtanhljpmknfabaaDoor.LexLongest
set_option linter.unusedVariables false
open Go.RowKit Go.Proofs.YtanhljpmknfabaaDoor.LexModel Go.Proofs.YtanhljpmknfabaaDoor.LexMath Go.Proofs.YtanhljpmknfabaaDoor.LexSkip Go.Proofs.YtanhljpmknfabaaDoor.LexTok Go.Proofs.YtanhljpmknfabaaDoor.LexLex Go.Proofs.YtanhljpmknfabaaDoor.LexAwake

theorem longest_long (l : List UInt8) (w : World) (ht : Tab w) (hl : (l.length : Int) ≤ 9223372036854775807) (h4 : 400 < l.length) :
    Calls Tryd.prog 8 #[.string (sv l)] w fun e w' => e = .returned (.bool true) ∧ Below w.heap.size w w' := by
  have HA := Lib.hid (awake_any w ht)
  have HL := Lib.hid (fun w1 (hb : Below w.heap.size w w1) => lex_shape l w1 (ht.below hb) hl)
  have hz := sv_size l
  have h4 : (400 : Int) < l.length := by omega
  clear ht
  go_enter Tryd.func8, Tryd.ntmps8
  go_wp2_with (fail)
  refine HA.out.mono ?_
  rintro e w1 ⟨rfl, b1⟩
  have HB1 := Lib.hid b1
  clear b1
  go_wp2_with (fail)
  refine (HL.out w1 HB1.out).mono ?_
  rintro e w2 ⟨A, n, c, p, q, rfl, b2⟩
  have HB2 := Lib.hid (bt HB1.out b2)
  clear b2
  go_wp2
  go_ret
  exact ⟨rfl, HB2.out⟩

theorem longest_err (l : List UInt8) (w : World) (ht : Tab w) (hl : ¬ 400 < l.length) (p : Nat × Nat) (hp : lex l = .error p) :
    Calls Tryd.prog 8 #[.string (sv l)] w fun e w' => e = .returned (.bool true) ∧ Below w.heap.size w w' := by
  have HA := Lib.hid (awake_any w ht)
  have HL := Lib.hid (fun w1 (hb : Below w.heap.size w w1) => lex_err l p w1 (ht.below hb) (by omega) hp)
  have hz := sv_size l
  have h4 : ¬ (400 : Int) < l.length := by omega
  have hc := lex_code hp
  obtain ⟨p1, p2⟩ := p
  have hc : p2 = 3 ∨ p2 = 6 := hc
  clear ht
  rcases hc with rfl | rfl
  · go_enter Tryd.func8, Tryd.ntmps8
    go_wp2_with (fail)
    refine HA.out.mono ?_
    rintro e w1 ⟨rfl, b1⟩
    have HB1 := Lib.hid b1
    clear b1
    go_wp2_with (fail)
    refine (HL.out w1 HB1.out).mono ?_
    rintro e w2 ⟨rfl, b2⟩
    have HB2 := Lib.hid (bt HB1.out b2)
    clear b2
    go_wp2
    go_ret
    exact ⟨rfl, HB2.out⟩
  · go_enter Tryd.func8, Tryd.ntmps8
    go_wp2_with (fail)
    refine HA.out.mono ?_
    rintro e w1 ⟨rfl, b1⟩
    have HB1 := Lib.hid b1
    clear b1
    go_wp2_with (fail)
    refine (HL.out w1 HB1.out).mono ?_
    rintro e w2 ⟨rfl, b2⟩
    have HB2 := Lib.hid (bt HB1.out b2)
    clear b2
    go_wp2
    go_ret
    exact ⟨rfl, HB2.out⟩

/-- Lexing a token and one more byte. -/
theorem lex_m (l : List UInt8) (t : Tok) (hst : Stands l t) (hlt : t.pos + t.text.length < l.length) (hl : ¬ 400 < l.length) (w : World) (ht : Tab w) :
    Calls Tryd.prog 11 #[.string ((sv l).extract t.pos (t.pos + t.text.length + 1))] w fun r w' => ∃ A c p, ∃ n : Nat, ∃ e : Int, r = .returned (.tuple #[.slice A n c, .int .i64 p, .int .i64 e]) ∧
      ((e == 0) = false ∨ (e = 0 ∧ (((n : Nat) : Int) == 1) = false) ∨ (e = 0 ∧ n = 1 ∧ ∃ g u, A = some ⟨g, 0, none⟩ ∧ g < w'.heap.size ∧ w'.cell? ⟨g, 1, none⟩ = some (.string (sv u)) ∧ ((sv u).toList == ((sv l).extract t.pos (t.pos + t.text.length + 1)).toList) = false)) ∧ Below w.heap.size w w' := by
  have e1 : (sv l).extract t.pos (t.pos + t.text.length + 1) = sv ((l.drop t.pos).take (t.text.length + 1)) := by
    rw [sv_extract, List.drop_take]; congr 2; omega
  rw [e1]
  have hlen : (((l.drop t.pos).take (t.text.length + 1)).length : Int) ≤ 9223372036854775807 := by
    have : ((l.drop t.pos).take (t.text.length + 1)).length ≤ l.length := by
      rw [List.length_take, List.length_drop]; omega
    omega
  cases hm : lex ((l.drop t.pos).take (t.text.length + 1)) with
  | error p =>
    refine (lex_err _ p w ht hlen hm).mono ?_
    rintro r w' ⟨rfl, hb⟩
    have hc := lex_code hm
    refine ⟨_, _, _, 0, _, rfl, ?_, hb⟩
    exact Or.inl (beq_eq_false_iff_ne.2 (by omega))
  | ok us =>
    refine (lex_ok _ us w ht hlen hm).mono ?_
    rintro r w' ⟨A, c, rfl, htk, hb⟩
    refine ⟨_, _, _, us.length, _, rfl, ?_, hb⟩
    by_cases h1 : us.length = 1
    · obtain ⟨u, rfl⟩ := List.length_eq_one_iff.1 h1
      obtain ⟨g, e2, hg, _, c1, _, _⟩ := htk.at_ (i := 0) (by simp)
      refine Or.inr (Or.inr ⟨rfl, rfl, g, u.text, e2, hg, c1, ?_⟩)
      rw [sv_beq]
      exact beq_eq_false_iff_ne.2 (longest_lex hst hlt hm)
    · exact Or.inr (Or.inl ⟨rfl, beq_eq_false_iff_ne.2 (by omega)⟩)

/-- The byte behind a token. -/
theorem byte_m (l : List UInt8) (t : Tok) (hst : Stands l t) (hlt : t.pos + t.text.length < l.length) : ∃ (h : t.pos + t.text.length < (sv l).size) (c : UInt8), (sv l)[t.pos + t.text.length]'h = c ∧
    (t.kind = 4 ∨ (t.kind = 3 ∧ (97 : Int) ≤ c.toNat ∧ (c.toNat : Int) ≤ 122 ∧ (48 : Int) ≤ c.toNat ∧ decide ((c.toNat : Int) ≤ 57) = false) ∨ ((((t.kind : Nat) : Int) != 4) = true ∧ ((97 : Int) ≤ c.toNat ∧ decide ((c.toNat : Int) ≤ 122) = false ∧ (48 : Int) ≤ c.toNat ∧ decide ((c.toNat : Int) ≤ 57) = false ∨ decide ((97 : Int) ≤ c.toNat) = false ∧ (48 : Int) ≤ c.toNat ∧ decide ((c.toNat : Int) ≤ 57) = false ∨ decide ((97 : Int) ≤ c.toNat) = false ∧ decide ((48 : Int) ≤ c.toNat) = false))) := by
  have h : t.pos + t.text.length < (sv l).size := by rw [sv_size]; exact hlt
  refine ⟨h, (sv l)[t.pos + t.text.length]'h, rfl, ?_⟩
  have hc : l[t.pos + t.text.length]? = some ((sv l)[t.pos + t.text.length]'h) := by
    rw [List.getElem?_eq_getElem hlt]
    rfl
  generalize (sv l)[t.pos + t.text.length]'h = c at *
  by_cases h4 : t.kind = 4
  · exact Or.inl h4
  · obtain ⟨hd, hlt⟩ := longest_byte hst c hc h4
    rw [digits_iff] at hd
    rw [letters_iff] at hlt
    simp only [Bool.and_eq_false_iff, decide_eq_false_iff_not] at hd hlt ⊢
    have hk4 : (((t.kind : Nat) : Int) != 4) = true := bne_iff_ne.2 (by omega)
    by_cases h3 : t.kind = 3
    · by_cases hp : (97 : Int) ≤ c.toNat ∧ (c.toNat : Int) ≤ 122
      · exact Or.inr (Or.inl ⟨h3, hp.1, hp.2, by omega, by omega⟩)
      · refine Or.inr (Or.inr ⟨hk4, ?_⟩)
        omega
    · have := hlt h3
      refine Or.inr (Or.inr ⟨hk4, ?_⟩)
      omega

set_option maxRecDepth 100000 in
set_option maxHeartbeats 4000000 in
theorem longest_ok (l : List UInt8) (w : World) (ht : Tab w) (hl : ¬ 400 < l.length) (ts : List Tok) (hp : lex l = .ok ts) :
    Calls Tryd.prog 8 #[.string (sv l)] w fun e w' => e = .returned (.bool true) ∧ Below w.heap.size w w' := by
  have HA := Lib.hid (awake_any w ht)
  have HL := Lib.hid (fun w1 (hb : Below w.heap.size w w1) => lex_ok l ts w1 (ht.below hb) (by omega) hp)
  have HTb := Lib.hid ht
  have hz := sv_size l
  have h4 : ((l.length : Nat) : Int) ≤ 400 := by omega
  have hd4 : decide ((400 : Int) < l.length) = false := decide_eq_false (by omega)
  have HST := Lib.hid (lex_stands hp)
  have hn4 : ((ts.length : Nat) : Int) ≤ 4000 := by have := lex_len hp; omega
  have hl1 := Lib.hid hl
  clear ht hl
  go_enter Tryd.func8, Tryd.ntmps8
  go_wp2_with (fail)
  refine HA.out.mono ?_
  rintro e w1 ⟨rfl, b1⟩
  have HB1 := Lib.hid b1
  clear b1
  go_wp2_with (fail)
  refine (HL.out w1 HB1.out).mono ?_
  rintro e w2 ⟨A, c, rfl, ht2, b2⟩
  have HB2 := Lib.hid (bt HB1.out b2)
  have HT2 := Lib.hid ht2
  clear b2 ht2
  go_wp2_with (fail)
  go_loopw [6] (fun s6 wr => ∃ i : Nat, i ≤ ts.length ∧ s6 = .int .i64 i ∧ Hid (Below w2.heap.size w2 wr)) (fun s6 _ => ts.length - (intOf s6).toNat)
  case atStart => exact ⟨0, Nat.zero_le _, rfl, Lib.hid (Below.refl _ _)⟩
  case round =>
    obtain ⟨i, hi, rfl, HBr⟩ := hrel
    have hi' : ((i : Nat) : Int) ≤ ts.length := by omega
    by_cases hlt : i < ts.length
    · have hlt' : ((i : Nat) : Int) < ts.length := by omega
      have hst := HST.out _ (List.getElem_mem hlt)
      obtain ⟨g, rfl, hg, c0, c1, c2, c3⟩ := (HT2.out.below HBr.out).at_ hlt
      have HTI : Hid (∀ w', Below wr.heap.size wr w' → g < w'.heap.size ∧ w'.cell? ⟨g, i * 4, none⟩ = some (.int .i64 ts[i].kind) ∧ w'.cell? ⟨g, i * 4 + 1, none⟩ = some (.string (sv ts[i].text)) ∧ w'.cell? ⟨g, i * 4 + 3, none⟩ = some (.int .i64 ts[i].pos)) := Lib.hid fun w' hb =>
        ⟨Nat.lt_of_lt_of_le hg hb.size, (hb.cell (p := ⟨g, i * 4, none⟩) hg).trans c0, (hb.cell (p := ⟨g, i * 4 + 1, none⟩) hg).trans c1, (hb.cell (p := ⟨g, i * 4 + 3, none⟩) hg).trans c3⟩
      generalize ts[i] = t at *
      have hle := hst.le
      have hz2 := sv_size t.text
      have hle1 : ((t.pos : Nat) : Int) + t.text.length ≤ l.length := by omega
      have HW2 := Lib.hid (HB2.out.trans (HBr.out.mono HB2.out.size))
      by_cases hend : t.pos + t.text.length < l.length
      · have hend1 : ((t.pos : Nat) : Int) + t.text.length < l.length := by omega
        have HM := Lib.hid (fun w1 h => lex_m l t hst hend hl1.out w1 h)
        obtain ⟨hbz, cb, hcb, hcase⟩ := byte_m l t hst hend
        have HCASE := Lib.hid hcase
        clear hcase hst hle hend
        have HBD : Hid (Below wr.heap.size wr wr.drew) := Lib.hid (by go_grown)
        go_wp2_with (fail)
        go_region
        go_wp2_with (fail)
        refine (HM.out _ (HTb.out.below (HW2.out.trans (HBD.out.mono HW2.out.size)))).mono ?_
        rintro e w3 ⟨A3, c3', p3, n3, e3, rfl, hm, b3⟩
        have HB3 := Lib.hid (HBD.out.trans (b3.mono HBD.out.size))
        obtain ⟨hg3, d0, d1, d3⟩ := HTI.out w3 HB3.out
        have HB4 : Hid (Below w2.heap.size w2 w3) := Lib.hid (HBr.out.trans (HB3.out.mono HBr.out.size))
        clear b3 c0 c1 c2 c3 HTI
        rcases hm with hne0 | ⟨rfl, hn1⟩ | ⟨rfl, rfl, g3, u3, rfl, hg3', hu3, hne⟩
        · have hcase := HCASE.out
          clear HCASE
          go_wp2_with (fail)
          rcases hcase with h | ⟨h, k1, k2, k3, k4⟩ | ⟨h, ⟨k1, k2, k3, k4⟩ | ⟨k1, k3, k4⟩ | ⟨k1, k3⟩⟩
          · rw [h] at d0
            go_quiet (fail)
            go_wp2
            go_roundw
            case rel => exact ⟨i + 1, hlt, by go_num, Lib.hid (below_drewN HB4.out _)⟩
            case measure => simp [intOf]; omega
          · rw [h] at d0
            go_quiet (fail)
            go_wp2
            go_roundw
            case rel => exact ⟨i + 1, hlt, by go_num, Lib.hid (below_drewN HB4.out _)⟩
            case measure => simp [intOf]; omega
          · go_quiet (fail)
            go_wp2
            go_roundw
            case rel => exact ⟨i + 1, hlt, by go_num, Lib.hid (below_drewN HB4.out _)⟩
            case measure => simp [intOf]; omega
          · go_quiet (fail)
            go_wp2
            go_roundw
            case rel => exact ⟨i + 1, hlt, by go_num, Lib.hid (below_drewN HB4.out _)⟩
            case measure => simp [intOf]; omega
          · go_quiet (fail)
            go_wp2
            go_roundw
            case rel => exact ⟨i + 1, hlt, by go_num, Lib.hid (below_drewN HB4.out _)⟩
            case measure => simp [intOf]; omega
        · have hcase := HCASE.out
          clear HCASE
          go_wp2_with (fail)
          rcases hcase with h | ⟨h, k1, k2, k3, k4⟩ | ⟨h, ⟨k1, k2, k3, k4⟩ | ⟨k1, k3, k4⟩ | ⟨k1, k3⟩⟩
          · rw [h] at d0
            go_quiet (fail)
            go_wp2
            go_roundw
            case rel => exact ⟨i + 1, hlt, by go_num, Lib.hid (below_drewN HB4.out _)⟩
            case measure => simp [intOf]; omega
          · rw [h] at d0
            go_quiet (fail)
            go_wp2
            go_roundw
            case rel => exact ⟨i + 1, hlt, by go_num, Lib.hid (below_drewN HB4.out _)⟩
            case measure => simp [intOf]; omega
          · go_quiet (fail)
            go_wp2
            go_roundw
            case rel => exact ⟨i + 1, hlt, by go_num, Lib.hid (below_drewN HB4.out _)⟩
            case measure => simp [intOf]; omega
          · go_quiet (fail)
            go_wp2
            go_roundw
            case rel => exact ⟨i + 1, hlt, by go_num, Lib.hid (below_drewN HB4.out _)⟩
            case measure => simp [intOf]; omega
          · go_quiet (fail)
            go_wp2
            go_roundw
            case rel => exact ⟨i + 1, hlt, by go_num, Lib.hid (below_drewN HB4.out _)⟩
            case measure => simp [intOf]; omega
        · have hcase := HCASE.out
          clear HCASE
          go_wp2_with (fail)
          rcases hcase with h | ⟨h, k1, k2, k3, k4⟩ | ⟨h, ⟨k1, k2, k3, k4⟩ | ⟨k1, k3, k4⟩ | ⟨k1, k3⟩⟩
          · rw [h] at d0
            go_quiet (fail)
            go_wp2
            go_roundw
            case rel => exact ⟨i + 1, hlt, by go_num, Lib.hid (below_drewN HB4.out _)⟩
            case measure => simp [intOf]; omega
          · rw [h] at d0
            go_quiet (fail)
            go_wp2
            go_roundw
            case rel => exact ⟨i + 1, hlt, by go_num, Lib.hid (below_drewN HB4.out _)⟩
            case measure => simp [intOf]; omega
          · go_quiet (fail)
            go_wp2
            go_roundw
            case rel => exact ⟨i + 1, hlt, by go_num, Lib.hid (below_drewN HB4.out _)⟩
            case measure => simp [intOf]; omega
          · go_quiet (fail)
            go_wp2
            go_roundw
            case rel => exact ⟨i + 1, hlt, by go_num, Lib.hid (below_drewN HB4.out _)⟩
            case measure => simp [intOf]; omega
          · go_quiet (fail)
            go_wp2
            go_roundw
            case rel => exact ⟨i + 1, hlt, by go_num, Lib.hid (below_drewN HB4.out _)⟩
            case measure => simp [intOf]; omega
      · have hend1 : ((t.pos : Nat) : Int) + t.text.length = l.length := by omega
        clear hst hend hle hle1
        go_wp2_with (fail)
        go_region
        go_wp2
        go_roundw
        case rel => exact ⟨i + 1, hlt, by go_num, Lib.hid (HBr.out.trans (by go_grown))⟩
        case measure => simp [intOf]; omega
    · obtain rfl : i = ts.length := by omega
      have HW2 := Lib.hid (HB2.out.trans (HBr.out.mono HB2.out.size))
      go_wp2
      go_ret
      exact ⟨rfl, HW2.out⟩

/-- The law, at any text. -/
theorem longest_law (w : World) (ht : Tab w) (s : ByteArray) (ws : s.size ≤ maxLen) :
    Calls Tryd.prog 8 #[.string s] w fun e w' => e = .returned (.bool true) ∧ Below w.heap.size w w' := by
  have hs : ((s.data.toList.length : Nat) : Int) ≤ 9223372036854775807 := by
    have := sv_size s.data.toList
    rw [sv_data] at this
    unfold maxLen at ws
    omega
  rw [← sv_data s]
  generalize s.data.toList = l at *
  clear ws
  by_cases h : 400 < l.length
  · exact longest_long l w ht hs h
  · cases hx : lex l with
    | error p => exact longest_err l w ht h p hx
    | ok ts => exact longest_ok l w ht h ts hx

end Go.Proofs.YtanhljpmknfabaaDoor.LexLongest
