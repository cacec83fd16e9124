/- The walk of the law LexerCover. -/
import Derived.Test.YtanhljpmknfabaaDoorLexBlank
namespace Go.Proofs.YtanhljpmknfabaaDoor.LexCover
set_option linter.unusedVariables false
open Go.RowKit Go.Proofs.YtanhljpmknfabaaDoor.LexModel Go.Proofs.YtanhljpmknfabaaDoor.LexMath Go.Proofs.YtanhljpmknfabaaDoor.LexSkip Go.Proofs.YtanhljpmknfabaaDoor.LexTok Go.Proofs.YtanhljpmknfabaaDoor.LexLex Go.Proofs.YtanhljpmknfabaaDoor.LexAwake Go.Proofs.YtanhljpmknfabaaDoor.LexBlank

theorem bl_sk_end : ∀ (b : Bool) (l : List UInt8), sk b l = [] → bl true b l = true
  | true, [], _ => rfl
  | false, [], _ => rfl
  | true, c :: l, h => by
    simp only [sk] at h
    simp only [bl]
    split
    · rename_i hc; rw [if_pos hc] at h; exact bl_sk_end false l h
    · rename_i hc; rw [if_neg hc] at h; exact bl_sk_end true l h
  | false, c :: l, h => by
    simp only [sk] at h
    simp only [bl]
    split at h
    · rename_i hc
      have h47 : (c == 47) = false := by
        rw [beq_eq_false_iff_ne]; intro e; subst e; exact absurd hc (by decide)
      rw [h47, Bool.false_and, hc, Bool.true_and]
      exact bl_sk_end false l h
    · split at h
      · rename_i hc
        rw [if_pos hc]
        exact bl_sk_end true l h
      · cases h

theorem cut_head {c : UInt8} {l p q : List UInt8} (h : c :: l = p ++ q) (hq : q.length ≤ l.length) : ∃ p', p = c :: p' ∧ l = p' ++ q := by
  cases p with
  | nil =>
    have := congrArg List.length h
    simp at this
    omega
  | cons a p' =>
    rw [List.cons_append] at h
    injection h with h1 h2
    exact ⟨p', by rw [h1], h2⟩

theorem bl_sk : ∀ (b : Bool) (l p : List UInt8), l = p ++ sk b l → sk b l ≠ [] → bl false b p = true
  | true, [], _, _, h => absurd rfl h
  | false, [], _, _, h => absurd rfl h
  | true, c :: l, p, hp, hne => by
    simp only [sk] at hp hne
    split at hp
    · rename_i hc
      rw [if_pos hc] at hne
      obtain ⟨p', rfl, hl⟩ := cut_head hp (sk_le false l)
      simp only [bl, hc, if_true]
      exact bl_sk false l p' hl hne
    · rename_i hc
      rw [if_neg hc] at hne
      obtain ⟨p', rfl, hl⟩ := cut_head hp (sk_le true l)
      simp only [bl]
      rw [if_neg hc]
      exact bl_sk true l p' hl hne
  | false, c :: l, p, hp, hne => by
    simp only [sk] at hp hne
    split at hp
    · rename_i hc
      rw [if_pos hc] at hne
      obtain ⟨p', rfl, hl⟩ := cut_head hp (sk_le false l)
      have h47 : (c == 47) = false := by
        rw [beq_eq_false_iff_ne]; intro e; subst e; exact absurd hc (by decide)
      simp only [bl]
      rw [h47, Bool.false_and, hc, Bool.true_and]
      exact bl_sk false l p' hl hne
    · rename_i hb
      rw [if_neg hb] at hne
      split at hp
      · rename_i hc
        rw [if_pos hc] at hne
        obtain ⟨p', rfl, hl⟩ := cut_head hp (sk_le true l)
        have hh : p'.head? = l.head? := by
          cases p' with
          | nil =>
            exfalso
            simp only [Bool.and_eq_true] at hc
            have h2 := eq_of_beq hc.2
            cases l with
            | nil => cases h2
            | cons d l' =>
              cases h2
              rw [List.nil_append] at hl
              have := congrArg List.length hl
              have h3 : sk true (47 :: l') = sk true l' := by simp [sk]
              rw [h3] at this
              have := sk_le true l'
              simp at *
              omega
          | cons a p'' =>
            rw [hl]
            rfl
        simp only [bl]
        rw [hh, if_pos hc]
        exact bl_sk true l p' hl hne
      · have := congrArg List.length hp
        rw [List.length_append] at this
        have : p = [] := List.length_eq_zero_iff.1 (by omega)
        subst this
        rfl

/-- Tokens cover the text from an offset on. -/
def Chain (text : List UInt8) : Nat → Nat → List Tok → Prop
  | pos, _, [] => bl true false (text.drop pos) = true
  | pos, line, t :: l => pos ≤ t.pos ∧ t.text ≠ [] ∧ t.pos + t.text.length ≤ text.length ∧ (text.drop t.pos).take t.text.length = t.text ∧ bl false false ((text.drop pos).take (t.pos - pos)) = true ∧
      t.line = line + ((text.drop pos).take (t.pos - pos)).count 10 ∧ Chain text (t.pos + t.text.length) t.line l

theorem lexAt_chain (text : List UInt8) : ∀ (m pos line k : Nat) (l : List Tok), pos ≤ text.length → text.length - pos < m → lexAt text pos line k = .ok l → Chain text pos line l
  | 0, _, _, _, _, _, h, _ => absurd h (Nat.not_lt_zero _)
  | m + 1, pos, line, k, l, hp, hm, h => by
    rw [lexAt_step text pos line k hp] at h
    have hn := next_ge text pos hp
    have hd := drop_next text pos hp
    have hcons : text.drop pos = (text.drop pos).take (next text pos - pos) ++ sk false (text.drop pos) := by
      rw [← hd]
      have : text.drop (next text pos) = (text.drop pos).drop (next text pos - pos) := by rw [List.drop_drop]; congr 1; omega
      rw [this, List.take_append_drop]
    by_cases h1 : next text pos = text.length
    · rw [if_pos h1] at h
      cases h
      refine bl_sk_end false _ ?_
      rw [← hd, h1, List.drop_length]
    · rw [if_neg h1] at h
      by_cases h2 : (tokn (text.drop (next text pos))).1 = 0
      · rw [if_pos h2] at h; cases h
      · rw [if_neg h2] at h
        by_cases h3 : k = 4000
        · rw [if_pos h3] at h; cases h
        · rw [if_neg h3] at h
          obtain ⟨l', h4, rfl⟩ := cons_ok h
          have h5 := tok_len (text.drop (next text pos))
          have h6 := List.length_pos_iff.2 (tok_ne _ h2)
          rw [List.length_drop] at h5
          have hst : Stands text ⟨(tokn (text.drop (next text pos))).1, (tokn (text.drop (next text pos))).2, line + ((text.drop pos).take (next text pos - pos)).count 10, next text pos⟩ := ⟨h2, rfl⟩
          refine ⟨hn.1, tok_ne _ h2, hst.le.1, hst.take, bl_sk false _ _ hcons ?_, rfl, lexAt_chain text m (next text pos + (tokn (text.drop (next text pos))).2.length) _ _ l' (by omega) (by omega) h4⟩
          rw [← hd]
          intro e
          rw [List.drop_eq_nil_iff] at e
          omega

theorem lex_chain {text : List UInt8} {l : List Tok} (h : lex text = .ok l) : Chain text 0 1 l := by
  rw [lex_eq] at h
  split at h
  · cases h
  · exact lexAt_chain text (text.length + 1) 0 1 0 l (Nat.zero_le _) (by omega) h

theorem cover_long (l : List UInt8) (w : World) (ht : Tab w) (hl : (l.length : Int) ≤ 9223372036854775807) (h4 : 400 < l.length) :
    Calls Tryd.prog 7 #[.string (sv l)] w fun e w' => e = .returned (.bool true) ∧ Below w.heap.size w w' := by
  have HA := Lib.hid (awake_any w ht)
  have HL := Lib.hid (fun w1 (hb : Below w.heap.size w w1) => lex_shape l w1 (ht.below hb) hl)
  have hz := sv_size l
  have h4 : (400 : Int) < l.length := by omega
  clear ht
  go_enter Tryd.func7, Tryd.ntmps7
  go_wp2_with (fail)
  refine HA.out.mono ?_
  rintro e w1 ⟨rfl, b1⟩
  have HB1 := Lib.hid b1
  clear b1
  go_wp2_with (fail)
  refine (HL.out w1 HB1.out).mono ?_
  rintro e w2 ⟨A, n, c, p, q, rfl, b2⟩
  have HB2 := Lib.hid (bt HB1.out b2)
  clear b2
  go_wp2
  go_ret
  exact ⟨rfl, HB2.out⟩

theorem cover_err (l : List UInt8) (w : World) (ht : Tab w) (hl : ¬ 400 < l.length) (p : Nat × Nat) (hp : lex l = .error p) :
    Calls Tryd.prog 7 #[.string (sv l)] w fun e w' => e = .returned (.bool true) ∧ Below w.heap.size w w' := by
  have HA := Lib.hid (awake_any w ht)
  have HL := Lib.hid (fun w1 (hb : Below w.heap.size w w1) => lex_err l p w1 (ht.below hb) (by omega) hp)
  have hz := sv_size l
  have h4 : ¬ (400 : Int) < l.length := by omega
  have hc := lex_code hp
  obtain ⟨p1, p2⟩ := p
  have hc : p2 = 3 ∨ p2 = 6 := hc
  clear ht
  rcases hc with rfl | rfl
  · go_enter Tryd.func7, Tryd.ntmps7
    go_wp2_with (fail)
    refine HA.out.mono ?_
    rintro e w1 ⟨rfl, b1⟩
    have HB1 := Lib.hid b1
    clear b1
    go_wp2_with (fail)
    refine (HL.out w1 HB1.out).mono ?_
    rintro e w2 ⟨rfl, b2⟩
    have HB2 := Lib.hid (bt HB1.out b2)
    clear b2
    go_wp2
    go_ret
    exact ⟨rfl, HB2.out⟩
  · go_enter Tryd.func7, Tryd.ntmps7
    go_wp2_with (fail)
    refine HA.out.mono ?_
    rintro e w1 ⟨rfl, b1⟩
    have HB1 := Lib.hid b1
    clear b1
    go_wp2_with (fail)
    refine (HL.out w1 HB1.out).mono ?_
    rintro e w2 ⟨rfl, b2⟩
    have HB2 := Lib.hid (bt HB1.out b2)
    clear b2
    go_wp2
    go_ret
    exact ⟨rfl, HB2.out⟩

theorem chain_nil {text : List UInt8} {pos line : Nat} (h : Chain text pos line []) : bl true false (text.drop pos) = true := by
  simp only [Chain] at h
  exact h

theorem chain_end {text : List UInt8} {pos line : Nat} {ts : List Tok} (h : Chain text pos line (ts.drop ts.length)) : bl true false (text.drop pos) = true := by
  rw [List.drop_length] at h
  exact chain_nil h

theorem chain_drop {text : List UInt8} {pos line : Nat} {ts : List Tok} {i : Nat} (h : Chain text pos line (ts.drop i)) (hi : i < ts.length) : Chain text pos line (ts[i] :: ts.drop (i + 1)) := by
  rw [← List.drop_eq_getElem_cons hi]; exact h

theorem count_step (l : List UInt8) (pos k : Nat) (hk : pos ≤ k) (hlt : k < l.length) : ((l.drop pos).take (k + 1 - pos)).count 10 = ((l.drop pos).take (k - pos)).count 10 + if l[k] == 10 then 1 else 0 := by
  have e : k + 1 - pos = (k - pos) + 1 := by omega
  have h1 : k - pos < (l.drop pos).length := by rw [List.length_drop]; omega
  rw [e, List.take_succ_eq_append_getElem h1, List.count_append]
  have e2 : (l.drop pos)[k - pos] = l[k] := by
    rw [List.getElem_drop]
    congr 1
    omega
  rw [e2]
  simp only [List.count_singleton]

theorem count_no (l : List UInt8) (pos k : Nat) (hk : pos ≤ k) (hlt : k < l.length) (h : (l[k] == 10) = false) : ((l.drop pos).take (k + 1 - pos)).count 10 = ((l.drop pos).take (k - pos)).count 10 := by
  rw [count_step l pos k hk hlt, h]; rfl
theorem count_yes (l : List UInt8) (pos k : Nat) (hk : pos ≤ k) (hlt : k < l.length) (h : (l[k] == 10) = true) : ((l.drop pos).take (k + 1 - pos)).count 10 = ((l.drop pos).take (k - pos)).count 10 + 1 := by
  rw [count_step l pos k hk hlt, h]; rfl

set_option maxRecDepth 100000 in
set_option maxHeartbeats 4000000 in
theorem cover_ok (l : List UInt8) (w : World) (ht : Tab w) (hl : ¬ 400 < l.length) (ts : List Tok) (hp : lex l = .ok ts) :
    Calls Tryd.prog 7 #[.string (sv l)] w fun e w' => e = .returned (.bool true) ∧ Below w.heap.size w w' := by
  have HA := Lib.hid (awake_any w ht)
  have HL := Lib.hid (fun w1 (hb : Below w.heap.size w w1) => lex_ok l ts w1 (ht.below hb) (by omega) hp)
  have hz := sv_size l
  have h4 : ((l.length : Nat) : Int) ≤ 400 := by omega
  have hd4 : decide ((400 : Int) < l.length) = false := decide_eq_false (by omega)
  have HCH := Lib.hid (lex_chain hp)
  have hn4 : ((ts.length : Nat) : Int) ≤ 4000 := by have := lex_len hp; omega
  clear ht hl
  go_enter Tryd.func7, Tryd.ntmps7
  go_wp2_with (fail)
  refine HA.out.mono ?_
  rintro e w1 ⟨rfl, b1⟩
  have HB1 := Lib.hid b1
  clear b1
  go_wp2_with (fail)
  refine (HL.out w1 HB1.out).mono ?_
  rintro e w2 ⟨A, c, rfl, ht2, b2⟩
  have HB2 := Lib.hid (bt HB1.out b2)
  have HT2 := Lib.hid ht2
  clear b2 ht2
  go_wp2_with (fail)
  go_loopw [6, 7, 8] (fun s6 s7 s8 wr => ∃ i pos line : Nat, i ≤ ts.length ∧ s6 = .int .i64 pos ∧ s7 = .int .i64 line ∧ s8 = .int .i64 i ∧ ((pos : Nat) : Int) ≤ l.length ∧ ((line : Nat) : Int) ≤ pos + 1 ∧ Hid (Chain l pos line (ts.drop i)) ∧ Hid (Below w2.heap.size w2 wr)) (fun _ _ s8 _ => ts.length - (intOf s8).toNat)
  case atStart => exact ⟨0, 0, 1, Nat.zero_le _, rfl, rfl, rfl, by omega, by omega, Lib.hid HCH.out, Lib.hid (Below.refl _ _)⟩
  case round =>
    obtain ⟨i, pos, line, hi, rfl, rfl, rfl, hpos, hline, HC, HBr⟩ := hrel
    have hi' : ((i : Nat) : Int) ≤ ts.length := by omega
    by_cases hlt : i < ts.length
    · have hlt' : ((i : Nat) : Int) < ts.length := by omega
      obtain ⟨g, rfl, hg, c0, c1, c2, c3⟩ := (HT2.out.below HBr.out).at_ hlt
      obtain ⟨q1, q2, q3, q4, q5, q6, q7⟩ := chain_drop HC.out hlt
      generalize ts[i] = t at *
      have HQ7 := Lib.hid q7
      have HQ6 := Lib.hid q6
      have hz2 := sv_size t.text
      have he : (sv t.text).toList.isEmpty = false := by
        rw [ByteArray.toList_eq]
        cases hx : t.text with
        | nil => exact absurd hx q2
        | cons a r => rfl
      have f1 : decide ((t.pos : Int) < pos) = false := decide_eq_false (by omega)
      have f2 : decide ((l.length : Int) < (t.pos : Int) + t.text.length) = false := decide_eq_false (by omega)
      have f3 : decide (t.pos < pos) = false := decide_eq_false (by omega)
      have f4 : decide (l.length < t.pos + t.text.length) = false := decide_eq_false (by omega)
      have q1' : (pos : Int) ≤ t.pos := by omega
      have q3' : (t.pos : Int) + t.text.length ≤ l.length := by omega
      have HX1 : Hid ((sv l).extract t.pos (t.pos + t.text.length) = sv t.text) := Lib.hid (by rw [sv_extract, List.drop_take, Nat.add_sub_cancel_left, q4])
      have e2 : (sv l).extract pos t.pos = sv ((l.drop pos).take (t.pos - pos)) := by rw [sv_extract, List.drop_take]
      have HBK : Hid (∀ w1, Calls Tryd.prog 28 #[.string ((sv l).extract pos t.pos), .bool false] w1 fun r w' => r = .returned (.bool true) ∧ w1 = w') := Lib.hid fun w1 => by
        rw [e2, ← q5]
        exact blank_any _ false w1 (by
          have : ((l.drop pos).take (t.pos - pos)).length ≤ l.length := by rw [List.length_take, List.length_drop]; omega
          omega)
      have x1 := HX1.out
      clear q2 q3 q4 q5 q6 q7 e2 HC HX1
      go_wp2_with (fail)
      go_quiet (exact Calls.quiet_of_same ((HBK.out _).mono fun r w' h => ⟨h.1, h.2.symm⟩))
      go_wp2_with (fail)
      generalize hW : (wr.alloc (.cells #[.int .i64 t.kind, .string (sv t.text), .int .i64 t.line, .int .i64 t.pos] 40)).drewN nq = W9
      have d1 : W9.cell? ⟨wr.heap.size, 1, none⟩ = some (.string (sv t.text)) := by subst hW; simp
      have d2 : W9.cell? ⟨wr.heap.size, 2, none⟩ = some (.int .i64 t.line) := by subst hW; simp
      have d3 : W9.cell? ⟨wr.heap.size, 3, none⟩ = some (.int .i64 t.pos) := by subst hW; simp
      have HB9 : Hid (Below wr.heap.size wr W9) := Lib.hid (by
        subst hW
        have hb0 : Below wr.heap.size wr (wr.alloc (.cells #[.int .i64 t.kind, .string (sv t.text), .int .i64 t.line, .int .i64 t.pos] 40)) := (Below.refl _ _).alloc (Nat.le_refl _) _
        exact hb0.trans ⟨rfl, rfl, rfl, Nat.le_refl _, fun _ _ => rfl⟩)
      have HBW := Lib.hid (HBr.out.trans (HB9.out.mono HBr.out.size))
      clear hW c0 c1 c2 c3 HBK x1 f1 f2 f3 f4
      go_loop [7, 10] (fun s7 s10 => ∃ k m : Nat, (pos : Int) ≤ k ∧ (k : Int) ≤ t.pos ∧ s10 = .int .i64 k ∧ s7 = .int .i64 m ∧ ((m : Nat) : Int) ≤ k + 1 ∧ Hid (m = line + ((l.drop pos).take (k - pos)).count 10)) (fun _ s10 => t.pos - (intOf s10).toNat)
      case atStart => exact ⟨pos, line, by omega, q1', rfl, rfl, hline, Lib.hid (by simp)⟩
      case round =>
        obtain ⟨k, m, hk1, hk2, rfl, rfl, hm, HM⟩ := hrel
        by_cases hkt : k < t.pos
        · have hkt' : (k : Int) < t.pos := by omega
          have hkl : k < l.length := by omega
          obtain ⟨hbz, hcb⟩ := LexBlank.byte_at l k hkl
          cases h10 : (l[k] == 10)
          · have t1 : (((l[k].toNat : Nat) : Int) == 10) = false := (u8_test l[k] 10).trans h10
            have HM1 : Hid (m = line + ((l.drop pos).take (k + 1 - pos)).count 10) := Lib.hid (HM.out.trans (congrArg (line + ·) (count_no l pos k (by omega) hkl h10).symm))
            generalize l[k] = ck at *
            clear h10 HM
            go_wp2
            go_round
            case rel => exact ⟨k + 1, m, by omega, by omega, by go_num, rfl, by omega, HM1⟩
            case measure => simp [intOf]; omega
          · have t1 : (((l[k].toNat : Nat) : Int) == 10) = true := (u8_test l[k] 10).trans h10
            have HM1 : Hid (m + 1 = line + ((l.drop pos).take (k + 1 - pos)).count 10) := Lib.hid ((congrArg (· + 1) HM.out).trans (congrArg (line + ·) (count_yes l pos k (by omega) hkl h10).symm))
            generalize l[k] = ck at *
            clear h10 HM
            go_wp2
            go_round
            case rel => exact ⟨k + 1, m + 1, by omega, by omega, by go_num, by go_num, by omega, HM1⟩
            case measure => simp [intOf]; omega
        · obtain rfl : k = t.pos := by omega
          obtain rfl : m = t.line := HM.out.trans HQ6.out.symm
          go_wp2
          go_roundw
          case rel => exact ⟨i + 1, t.pos + t.text.length, t.line, hlt, by go_num, rfl, by go_num, by omega, by omega, HQ7, HBW⟩
          case measure => simp [intOf]; omega
    · obtain rfl : i = ts.length := by omega
      have HW2 := Lib.hid (HB2.out.trans (HBr.out.mono HB2.out.size))
      have HE : Hid (bl true false (l.drop pos) = true) := Lib.hid (chain_end (line := line) (ts := ts) HC.out)
      have e2 : (sv l).extract pos l.length = sv (l.drop pos) := by rw [← hz, sv_from]
      have HBK : Hid (∀ w1, Calls Tryd.prog 28 #[.string ((sv l).extract pos l.length), .bool true] w1 fun r w' => r = .returned (.bool true) ∧ w1 = w') := Lib.hid fun w1 => by
        have hb := blank_any (l.drop pos) true w1 (by rw [List.length_drop]; omega)
        rw [HE.out] at hb
        rw [e2]
        exact hb
      clear e2 HC HE
      go_wp2_with (fail)
      refine (HBK.out _).mono ?_
      rintro e w3 ⟨rfl, rfl⟩
      go_wp2
      go_ret
      exact ⟨rfl, HW2.out⟩

/-- The law, at any text. -/
theorem cover_law (w : World) (ht : Tab w) (s : ByteArray) (ws : s.size ≤ maxLen) :
    Calls Tryd.prog 7 #[.string s] w fun e w' => e = .returned (.bool true) ∧ Below w.heap.size w w' := by
  have hs : ((s.data.toList.length : Nat) : Int) ≤ 9223372036854775807 := by
    have := sv_size s.data.toList
    rw [sv_data] at this
    unfold maxLen at ws
    omega
  rw [← sv_data s]
  generalize s.data.toList = l at *
  clear ws
  by_cases h : 400 < l.length
  · exact cover_long l w ht hs h
  · cases hx : lex l with
    | error p => exact cover_err l w ht h p hx
    | ok ts => exact cover_ok l w ht h ts hx

end Go.Proofs.YtanhljpmknfabaaDoor.LexCover
