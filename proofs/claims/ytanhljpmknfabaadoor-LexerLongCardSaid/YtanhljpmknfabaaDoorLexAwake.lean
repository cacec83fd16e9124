/- Tokens in memory, names, and what 'awake' of the statements about lexer comes to. -/
import Derived.Test.YtanhljpmknfabaaDoorLexLex
namespace Go.Proofs.YtanhljpmknfabaaDoor.LexAwake
set_option linter.unusedVariables false
open Go.RowKit Go.Proofs.YtanhljpmknfabaaDoor.LexModel Go.Proofs.YtanhljpmknfabaaDoor.LexMath Go.Proofs.YtanhljpmknfabaaDoor.LexSkip Go.Proofs.YtanhljpmknfabaaDoor.LexTok Go.Proofs.YtanhljpmknfabaaDoor.LexLex

/-- Tokens that lie in memory. -/
def Toks (w : World) (A : Option Addr) (ts : List Tok) : Prop :=
  0 < ts.length → ∃ g, A = some ⟨g, 0, none⟩ ∧ g < w.heap.size ∧ ∀ j u, (ts.flatMap cellsT)[j]? = some u → w.cell? ⟨g, j, none⟩ = some u

theorem Toks.below {w w' : World} {A : Option Addr} {ts : List Tok} (h : Toks w A ts) (hb : Below w.heap.size w w') : Toks w' A ts := fun h0 => by
  obtain ⟨g, e, hg, hc⟩ := h h0
  exact ⟨g, e, Nat.lt_of_lt_of_le hg hb.size, fun j u hj => (hb.cell (p := ⟨g, j, none⟩) hg).trans (hc j u hj)⟩

theorem OwnT.toks {w : World} {base : Nat} {e : TypeId} {A : Option Addr} {n c : Nat} {ts : List Tok} (h : OwnT w base e (.slice A n c) ts) : Toks w A ts := fun h0 => by
  rcases h.2 with ⟨h1, h2⟩ | ⟨g, cap, cur, hv, hbg, hg, rest⟩
  · omega
  · cases hv
    refine ⟨g, rfl, (Array.getElem?_eq_some_iff.1 hg).1, fun j u hj => ?_⟩
    have := h.cells (g := g) rfl j u hj
    rwa [add_plain, Nat.zero_add] at this

theorem flat_get : ∀ (ts : List Tok) (i k : Nat) (hi : i < ts.length), k < 4 → (ts.flatMap cellsT)[i * 4 + k]? = (cellsT ts[i])[k]?
  | [], _, _, hi, _ => absurd hi (Nat.not_lt_zero _)
  | t :: ts, 0, k, _, hk => by
    rw [List.flatMap_cons, List.getElem?_append_left (by show 0 * 4 + k < 4; omega), Nat.zero_mul, Nat.zero_add]
    rfl
  | t :: ts, i + 1, k, hi, hk => by
    rw [List.flatMap_cons, List.getElem?_append_right (by show 4 ≤ (i + 1) * 4 + k; omega)]
    have : (i + 1) * 4 + k - (cellsT t).length = i * 4 + k := by show (i + 1) * 4 + k - 4 = _; omega
    rw [this, flat_get ts i k (by simpa using hi) hk]
    rfl

theorem Toks.at_ {w : World} {A : Option Addr} {ts : List Tok} (h : Toks w A ts) {i : Nat} (hi : i < ts.length) : ∃ g, A = some ⟨g, 0, none⟩ ∧ g < w.heap.size ∧ w.cell? ⟨g, i * 4, none⟩ = some (.int .i64 ts[i].kind) ∧ w.cell? ⟨g, i * 4 + 1, none⟩ = some (.string (sv ts[i].text)) ∧ w.cell? ⟨g, i * 4 + 2, none⟩ = some (.int .i64 ts[i].line) ∧ w.cell? ⟨g, i * 4 + 3, none⟩ = some (.int .i64 ts[i].pos) := by
  obtain ⟨g, e, hg, hc⟩ := h (by omega)
  exact ⟨g, e, hg, hc (i * 4 + 0) _ (by rw [flat_get ts i 0 hi (by omega)]; rfl), hc _ _ (by rw [flat_get ts i 1 hi (by omega)]; rfl), hc _ _ (by rw [flat_get ts i 2 hi (by omega)]; rfl), hc _ _ (by rw [flat_get ts i 3 hi (by omega)]; rfl)⟩

theorem lex_ok (l : List UInt8) (ts : List Tok) (w : World) (ht : Tab w) (hl : (l.length : Int) ≤ 9223372036854775807) (h : lex l = .ok ts) :
    Calls Tryd.prog 11 #[.string (sv l)] w fun r w' => ∃ A c, r = .returned (.tuple #[.slice A ts.length c, .int .i64 0, .int .i64 0]) ∧ Toks w' A ts ∧ Below w.heap.size w w' := by
  refine (lex_any l w ht hl).mono fun r w' hp => ?_
  unfold LexPost at hp
  rw [h] at hp
  obtain ⟨A, c, h1, h2, h3⟩ := hp
  exact ⟨A, c, h1, OwnT.toks h2, h3⟩

theorem lex_err (l : List UInt8) (p : Nat × Nat) (w : World) (ht : Tab w) (hl : (l.length : Int) ≤ 9223372036854775807) (h : lex l = .error p) :
    Calls Tryd.prog 11 #[.string (sv l)] w fun r w' => r = .returned (.tuple #[.slice none 0 0, .int .i64 p.1, .int .i64 p.2]) ∧ Below w.heap.size w w' := by
  refine (lex_any l w ht hl).mono fun r w' hp => ?_
  unfold LexPost at hp
  rw [h] at hp
  exact hp

theorem lexAt_code (text : List UInt8) : ∀ (m pos line k : Nat) (p : Nat × Nat), pos ≤ text.length → text.length - pos < m → lexAt text pos line k = .error p → p.2 = 3 ∨ p.2 = 6
  | 0, _, _, _, _, _, h, _ => absurd h (Nat.not_lt_zero _)
  | m + 1, pos, line, k, p, hp, hm, h => by
    rw [lexAt_step text pos line k hp] at h
    have hn := next_ge text pos hp
    by_cases h1 : next text pos = text.length
    · rw [if_pos h1] at h; cases h
    · rw [if_neg h1] at h
      by_cases h2 : (tokn (text.drop (next text pos))).1 = 0
      · rw [if_pos h2] at h; cases h; exact Or.inr rfl
      · rw [if_neg h2] at h
        by_cases h3 : k = 4000
        · rw [if_pos h3] at h; cases h; exact Or.inl rfl
        · rw [if_neg h3] at h
          have h5 := tok_len (text.drop (next text pos))
          have h6 := List.length_pos_iff.2 (tok_ne _ h2)
          rw [List.length_drop] at h5
          cases hr : lexAt text (next text pos + (tokn (text.drop (next text pos))).2.length) (line + ((text.drop pos).take (next text pos - pos)).count 10) (k + 1) with
          | error e =>
            rw [hr] at h
            cases h
            exact lexAt_code text m _ _ _ _ (by omega) (by omega) hr
          | ok l' => rw [hr] at h; cases h

theorem lex_code {text : List UInt8} {p : Nat × Nat} (h : lex text = .error p) : p.2 = 3 ∨ p.2 = 6 := by
  rw [lex_eq] at h
  split at h
  · cases h; exact Or.inl rfl
  · exact lexAt_code text (text.length + 1) 0 1 0 p (Nat.zero_le _) (by omega) h

/-- Whatever Lex returns. -/
theorem lex_shape (l : List UInt8) (w : World) (ht : Tab w) (hl : (l.length : Int) ≤ 9223372036854775807) :
    Calls Tryd.prog 11 #[.string (sv l)] w fun r w' => ∃ A n c p e, r = .returned (.tuple #[.slice A n c, .int .i64 p, .int .i64 e]) ∧ Below w.heap.size w w' := by
  refine (lex_any l w ht hl).mono fun r w' hp => ?_
  unfold LexPost at hp
  split at hp
  · exact ⟨_, _, _, _, _, hp.1, hp.2⟩
  · obtain ⟨A, c, h1, h2, h3⟩ := hp
    exact ⟨_, _, _, _, _, h1, h3⟩

def isName (l : List UInt8) : Bool := (tokn l).1 == 1 && (tokn l).2 == l

theorem sv_beq (a b : List UInt8) : ((sv a).toList == (sv b).toList) = (a == b) := by
  rw [ByteArray.toList_eq, ByteArray.toList_eq]
  rfl

theorem isName_any (l : List UInt8) (w : World) (ht : Tab w) (hl : (l.length : Int) ≤ 1000000) :
    Calls Tryd.prog 19 #[.string (sv l)] w fun e w' => e = .returned (.bool (isName l)) ∧ Below w.heap.size w w' := by
  have HK := Lib.hid (token_any l w ht hl)
  unfold isName
  have hb := sv_beq (tokn l).2 l
  generalize (tokn l).2 = s at *
  generalize (tokn l).1 = k at *
  generalize (s == l) = q at *
  clear ht
  by_cases hk : k = 1
  · subst hk
    go_enter Tryd.func19, Tryd.ntmps19
    go_wp2_with (fail)
    refine HK.out.mono ?_
    rintro e w1 ⟨rfl, b1⟩
    have HB := Lib.hid b1
    clear b1
    go_wp2
    go_ret
    exact ⟨by simp, HB.out⟩
  · have hk1 : (((k : Nat) : Int) == 1) = false := beq_eq_false_iff_ne.2 (by omega)
    have hk2 : (k == 1) = false := beq_eq_false_iff_ne.2 hk
    rw [hk2]
    go_enter Tryd.func19, Tryd.ntmps19
    go_wp2_with (fail)
    refine HK.out.mono ?_
    rintro e w1 ⟨rfl, b1⟩
    have HB := Lib.hid b1
    clear b1
    go_wp2
    go_ret
    exact ⟨rfl, HB.out⟩

def text1 : List UInt8 := [100, 101, 102, 32, 102, 40, 120, 41, 32, 61, 32, 45, 120, 32, 47, 47, 32, 115, 105, 103, 110]
def text2 : List UInt8 := [97, 60, 61, 61, 98]
def toks1 : List Tok := [⟨2, [100, 101, 102], 1, 0⟩, ⟨1, [102], 1, 4⟩, ⟨4, [40], 1, 5⟩, ⟨1, [120], 1, 6⟩, ⟨4, [41], 1, 7⟩, ⟨4, [61], 1, 9⟩, ⟨4, [45], 1, 11⟩, ⟨1, [120], 1, 12⟩]
def toks2 : List Tok := [⟨1, [97], 1, 0⟩, ⟨4, [60, 61], 1, 1⟩, ⟨4, [61], 1, 3⟩, ⟨1, [98], 1, 4⟩]
theorem lex1 : lex text1 = .ok toks1 := by kernel_rfl
theorem lex2 : lex text2 = .ok toks2 := by kernel_rfl
theorem name1 : isName [120, 49] = true := by kernel_rfl
theorem name2 : isName [108, 101, 116] = false := by kernel_rfl

set_option maxRecDepth 100000 in
set_option maxHeartbeats 4000000 in
theorem awake_any (w : World) (ht : Tab w) : Calls Tryd.prog 10 #[] w fun e w' => e = .returned (.bool true) ∧ Below w.heap.size w w' := by
  have H1 := Lib.hid (lex_ok text1 toks1 w ht (by decide) lex1)
  have H2 := Lib.hid (fun w1 (hb : Below w.heap.size w w1) => lex_ok text2 toks2 w1 (ht.below hb) (by decide) lex2)
  have H3 := Lib.hid (fun w1 (hb : Below w.heap.size w w1) => isName_any [120, 49] w1 (ht.below hb) (by decide))
  have H4 := Lib.hid (fun w1 (hb : Below w.heap.size w w1) => isName_any [108, 101, 116] w1 (ht.below hb) (by decide))
  rw [name1] at H3
  simp only [show toks1.length = 8 from rfl] at H1
  simp only [show toks2.length = 4 from rfl] at H2
  rw [name2] at H4
  clear ht
  go_enter Tryd.func10, Tryd.ntmps10
  go_wp2_with (fail)
  refine H1.out.mono ?_
  rintro e w1 ⟨A1, c1, rfl, ht1, b1⟩
  have HT1 := Lib.hid ht1
  have HB1 := Lib.hid b1
  clear ht1 b1
  go_wp2_with (fail)
  refine (H2.out w1 HB1.out).mono ?_
  rintro e w2 ⟨A2, c2, rfl, ht2, b2⟩
  have HT2 := Lib.hid ht2
  have HB2 := Lib.hid (bt HB1.out b2)
  have HT12 := Lib.hid (HT1.out.below b2)
  clear ht2 b2
  obtain ⟨g1, rfl, hg1, x0, _, _, _⟩ := HT12.out.at_ (i := 0) (by decide)
  obtain ⟨_, e2, _, _, x6, _, _⟩ := HT12.out.at_ (i := 6) (by decide)
  cases e2
  obtain ⟨_, e2, _, _, _, x7, y7⟩ := HT12.out.at_ (i := 7) (by decide)
  cases e2
  obtain ⟨g2, rfl, hg2, _, z1, _, _⟩ := HT2.out.at_ (i := 1) (by decide)
  replace x0 : w2.cell? ⟨g1, 0, none⟩ = some (.int .i64 2) := x0
  replace x6 : w2.cell? ⟨g1, 25, none⟩ = some (.string ⟨#[45]⟩) := x6
  replace x7 : w2.cell? ⟨g1, 30, none⟩ = some (.int .i64 1) := x7
  replace y7 : w2.cell? ⟨g1, 31, none⟩ = some (.int .i64 12) := y7
  replace z1 : w2.cell? ⟨g2, 5, none⟩ = some (.string ⟨#[60, 61]⟩) := z1
  clear HT1 HT12 HT2 H1 H2
  go_wp2_with (fail)
  refine (H3.out w2 HB2.out).mono ?_
  rintro e w3 ⟨rfl, b3⟩
  have HB3 := Lib.hid (bt HB2.out b3)
  clear b3
  go_wp2_with (fail)
  refine (H4.out w3 HB3.out).mono ?_
  rintro e w4 ⟨rfl, b4⟩
  have HB4 := Lib.hid (bt HB3.out b4)
  clear b4
  go_wp2
  go_ret
  exact ⟨rfl, HB4.out⟩

end Go.Proofs.YtanhljpmknfabaaDoor.LexAwake
