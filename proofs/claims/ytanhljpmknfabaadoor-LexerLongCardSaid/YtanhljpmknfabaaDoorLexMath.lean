/- Facts on tokens of texts: where they stand, that none could be longer, and that they cover the text. No program is named here. -/
import Derived.Test.YtanhljpmknfabaaDoorLexModel
namespace Go.Proofs.YtanhljpmknfabaaDoor.LexMath
open Go.Proofs.YtanhljpmknfabaaDoor.LexModel

theorem cons_ok {t : Tok} {r : Except (Nat × Nat) (List Tok)} {l : List Tok} (h : cons t r = .ok l) : ∃ l', r = .ok l' ∧ l = t :: l' := by
  cases r with
  | error e => cases h
  | ok l' => exact ⟨l', rfl, by cases h; rfl⟩

/-- A token stands at its place. -/
structure Stands (text : List UInt8) (t : Tok) : Prop where
  kind : t.kind ≠ 0
  tokn : tokn (text.drop t.pos) = (t.kind, t.text)

theorem Stands.ne {text : List UInt8} {t : Tok} (h : Stands text t) : t.text ≠ [] := by
  have := tok_ne (text.drop t.pos) (by rw [h.tokn]; exact h.kind)
  rwa [h.tokn] at this

theorem Stands.split {text : List UInt8} {t : Tok} (h : Stands text t) : ∃ r, text.drop t.pos = t.text ++ r := by
  obtain ⟨r, hr⟩ := tok_prefix (text.drop t.pos)
  rw [h.tokn] at hr
  exact ⟨r, hr⟩

theorem Stands.le {text : List UInt8} {t : Tok} (h : Stands text t) : t.pos + t.text.length ≤ text.length ∧ 0 < t.text.length := by
  obtain ⟨r, hr⟩ := h.split
  have h1 := congrArg List.length hr
  have h2 := List.length_pos_iff.2 h.ne
  rw [List.length_drop, List.length_append] at h1
  omega

theorem Stands.take {text : List UInt8} {t : Tok} (h : Stands text t) : (text.drop t.pos).take t.text.length = t.text := by
  obtain ⟨r, hr⟩ := h.split
  rw [hr, List.take_left]

theorem lexAt_stands (text : List UInt8) : ∀ (m pos line k : Nat) (l : List Tok), pos ≤ text.length → text.length - pos < m → lexAt text pos line k = .ok l → ∀ t ∈ l, Stands text t
  | 0, _, _, _, _, _, h, _ => absurd h (Nat.not_lt_zero _)
  | m + 1, pos, line, k, l, hp, hm, h => by
    rw [lexAt_step text pos line k hp] at h
    have hn := next_ge text pos hp
    by_cases h1 : next text pos = text.length
    · rw [if_pos h1] at h
      cases h
      intro t ht; cases ht
    · rw [if_neg h1] at h
      by_cases h2 : (tokn (text.drop (next text pos))).1 = 0
      · rw [if_pos h2] at h; cases h
      · rw [if_neg h2] at h
        by_cases h3 : k = 4000
        · rw [if_pos h3] at h; cases h
        · rw [if_neg h3] at h
          obtain ⟨l', h4, rfl⟩ := cons_ok h
          have h5 := tok_len (text.drop (next text pos))
          have h6 := List.length_pos_iff.2 (tok_ne _ h2)
          rw [List.length_drop] at h5
          intro t ht
          rcases List.mem_cons.1 ht with rfl | ht
          · exact ⟨h2, rfl⟩
          · exact lexAt_stands text m _ _ _ l' (by omega) (by omega) h4 t ht

theorem lex_eq (text : List UInt8) : lex text = if 20000 < text.length then .error (0, 3) else lexAt text 0 1 0 := rfl

theorem lex_stands {text : List UInt8} {l : List Tok} (h : lex text = .ok l) : ∀ t ∈ l, Stands text t := by
  rw [lex_eq] at h
  split at h
  · cases h
  · exact lexAt_stands text (text.length + 1) 0 1 0 l (Nat.zero_le _) (by omega) h

theorem lexAt_len (text : List UInt8) : ∀ (m pos line k : Nat) (l : List Tok), pos ≤ text.length → text.length - pos < m → k ≤ 4000 → lexAt text pos line k = .ok l → k + l.length ≤ 4000
  | 0, _, _, _, _, _, h, _, _ => absurd h (Nat.not_lt_zero _)
  | m + 1, pos, line, k, l, hp, hm, hk, h => by
    rw [lexAt_step text pos line k hp] at h
    have hn := next_ge text pos hp
    by_cases h1 : next text pos = text.length
    · rw [if_pos h1] at h
      cases h
      simpa using hk
    · rw [if_neg h1] at h
      by_cases h2 : (tokn (text.drop (next text pos))).1 = 0
      · rw [if_pos h2] at h; cases h
      · rw [if_neg h2] at h
        by_cases h3 : k = 4000
        · rw [if_pos h3] at h; cases h
        · rw [if_neg h3] at h
          obtain ⟨l', h4, rfl⟩ := cons_ok h
          have h5 := tok_len (text.drop (next text pos))
          have h6 := List.length_pos_iff.2 (tok_ne _ h2)
          rw [List.length_drop] at h5
          have := lexAt_len text m _ _ _ l' (by omega) (by omega) (by omega) h4
          rw [List.length_cons]
          omega

theorem lex_len {text : List UInt8} {l : List Tok} (h : lex text = .ok l) : l.length ≤ 4000 := by
  rw [lex_eq] at h
  split at h
  · cases h
  · have := lexAt_len text (text.length + 1) 0 1 0 l (Nat.zero_le _) (by omega) (by omega) h
    omega

/-! ## No token could be longer -/

theorem takeWhile_full (p : UInt8 → Bool) (c : UInt8) : ∀ s : List UInt8, (s ++ [c]).takeWhile p = s ++ [c] → p c = true
  | [], h => by
    rw [List.nil_append, List.takeWhile_cons] at h
    split at h
    · assumption
    · cases h
  | a :: s, h => by
    rw [List.cons_append, List.takeWhile_cons] at h
    split at h
    · exact takeWhile_full p c s (List.cons.inj h).2
    · cases h

theorem takeWhile_stop (p : UInt8 → Bool) (c : UInt8) (tl : List UInt8) : ∀ s : List UInt8, (s ++ c :: tl).takeWhile p = s → p c = false
  | [], h => by
    rw [List.nil_append, List.takeWhile_cons] at h
    split at h
    · cases h
    · simp_all
  | a :: s, h => by
    rw [List.cons_append, List.takeWhile_cons] at h
    split at h
    · exact takeWhile_stop p c tl s (List.cons.inj h).2
    · cases h

theorem find_longest {p : List UInt8 → Bool} : ∀ {l : List (List UInt8)}, l.Pairwise (fun a b => b.length ≤ a.length) → ∀ {s x : List UInt8}, l.find? p = some s → x ∈ l → p x = true → x.length ≤ s.length
  | [], _, _, _, h, _, _ => by cases h
  | a :: l, hp, s, x, h, hx, hpx => by
    rw [List.find?_cons] at h
    obtain ⟨h1, h2⟩ := List.pairwise_cons.1 hp
    cases ha : p a with
    | true =>
      rw [ha] at h
      cases h
      rcases List.mem_cons.1 hx with rfl | hx
      · exact Nat.le_refl _
      · exact h1 x hx
    | false =>
      rw [ha] at h
      rcases List.mem_cons.1 hx with rfl | hx
      · rw [ha] at hpx; cases hpx
      · exact find_longest h2 h hx hpx

theorem symbols_sorted : symbols.Pairwise (fun a b => b.length ≤ a.length) := by decide

def alnum (b : UInt8) : Bool := (letters ++ digits).contains b

theorem tok_letter {a : UInt8} {l : List UInt8} (h : letters.contains a = true) (hk : (tokn (a :: l)).1 ≠ 0) : ((tokn (a :: l)).1 = 1 ∨ (tokn (a :: l)).1 = 2) ∧ (tokn (a :: l)).2 = (a :: l).takeWhile alnum := by
  unfold tokn at hk ⊢
  simp only [h, if_true] at hk ⊢
  split
  · exact ⟨Or.inr rfl, rfl⟩
  · rename_i h1
    rw [if_neg h1] at hk
    split
    · exact ⟨Or.inl rfl, rfl⟩
    · rename_i h2
      rw [if_neg h2] at hk
      exact absurd rfl hk

theorem tok_digit {a : UInt8} {l : List UInt8} (h : letters.contains a = false) (hd : digits.contains a = true) (hk : (tokn (a :: l)).1 ≠ 0) : (tokn (a :: l)).1 = 3 ∧ (tokn (a :: l)).2 = (a :: l).takeWhile (digits.contains ·) := by
  unfold tokn at hk ⊢
  simp only [h, hd, if_true] at hk ⊢
  simp only [Bool.false_eq_true, if_false] at hk ⊢
  split
  · exact ⟨rfl, rfl⟩
  · rename_i h1
    rw [if_neg h1] at hk
    exact absurd rfl hk

theorem tok_symbol {a : UInt8} {l : List UInt8} (h : letters.contains a = false) (hd : digits.contains a = false) (hk : (tokn (a :: l)).1 ≠ 0) : (tokn (a :: l)).1 = 4 ∧ symbols.find? (Go.Lib.hasPrefix (a :: l)) = some (tokn (a :: l)).2 := by
  unfold tokn at hk ⊢
  simp only [h, hd] at hk ⊢
  simp only [Bool.false_eq_true, if_false] at hk ⊢
  split
  · rename_i s hs
    exact ⟨rfl, hs⟩
  · rename_i hs
    rw [hs] at hk
    exact absurd rfl hk

theorem longest {s tl : List UInt8} {c : UInt8} {k : Nat} (hk : k ≠ 0) (h : tokn (s ++ c :: tl) = (k, s)) :
    (∀ k', k' ≠ 0 → tokn (s ++ [c]) ≠ (k', s ++ [c])) ∧ (k ≠ 4 → digits.contains c = false ∧ (k ≠ 3 → letters.contains c = false)) := by
  have h1 : (tokn (s ++ c :: tl)).1 ≠ 0 := by rw [h]; exact hk
  have hs : s ≠ [] := by have := tok_ne _ h1; rwa [h] at this
  match s, hs with
  | a :: s, _ =>
    rw [List.cons_append] at h h1
    cases ha : letters.contains a with
    | true =>
      obtain ⟨e1, e2⟩ := tok_letter ha h1
      rw [h] at e1 e2
      have hc : alnum c = false := takeWhile_stop alnum c tl (a :: s) e2.symm
      refine ⟨fun k' hk' h' => ?_, fun _ => ?_⟩
      · have h1' : (tokn (a :: (s ++ [c]))).1 ≠ 0 := by rw [← List.cons_append, h']; exact hk'
        obtain ⟨_, e2'⟩ := tok_letter ha h1'
        rw [← List.cons_append, h'] at e2'
        have := takeWhile_full alnum c (a :: s) e2'.symm
        rw [hc] at this; cases this
      · unfold alnum at hc
        simp only [List.contains_eq_mem, List.mem_append, decide_eq_false_iff_not, not_or] at hc ⊢
        exact ⟨hc.2, fun _ => hc.1⟩
    | false =>
      cases hd : digits.contains a with
      | true =>
        obtain ⟨e1, e2⟩ := tok_digit ha hd h1
        rw [h] at e1 e2
        have hc : digits.contains c = false := takeWhile_stop (digits.contains ·) c tl (a :: s) e2.symm
        refine ⟨fun k' hk' h' => ?_, fun _ => ⟨hc, fun h3 => absurd e1 h3⟩⟩
        have h1' : (tokn (a :: (s ++ [c]))).1 ≠ 0 := by rw [← List.cons_append, h']; exact hk'
        obtain ⟨_, e2'⟩ := tok_digit ha hd h1'
        rw [← List.cons_append, h'] at e2'
        have := takeWhile_full (digits.contains ·) c (a :: s) e2'.symm
        exact absurd (hc.symm.trans this) (by decide)
      | false =>
        obtain ⟨e1, e2⟩ := tok_symbol ha hd h1
        rw [h] at e1 e2
        refine ⟨fun k' hk' h' => ?_, fun h4 => absurd e1 h4⟩
        have h1' : (tokn (a :: (s ++ [c]))).1 ≠ 0 := by rw [← List.cons_append, h']; exact hk'
        obtain ⟨_, e2'⟩ := tok_symbol ha hd h1'
        rw [← List.cons_append, h'] at e2'
        have hx : (a :: s ++ [c]) ∈ symbols := List.mem_of_find?_eq_some e2'
        have hp : Go.Lib.hasPrefix (a :: (s ++ c :: tl)) (a :: s ++ [c]) = true := by
          unfold Go.Lib.hasPrefix
          rw [List.isPrefixOf_iff_prefix]
          exact ⟨tl, by simp⟩
        have := find_longest symbols_sorted e2 hx hp
        simp at this
        omega

/-- A text that is a token and one more byte of the text is not one token. -/
theorem longest_lex {text : List UInt8} {t u : Tok} (h : Stands text t) (hlt : t.pos + t.text.length < text.length) (hl : lex ((text.drop t.pos).take (t.text.length + 1)) = .ok [u]) : u.text ≠ (text.drop t.pos).take (t.text.length + 1) := by
  obtain ⟨r, hr⟩ := h.split
  have h0 := congrArg List.length hr
  rw [List.length_drop, List.length_append] at h0
  match r, hr, h0 with
  | [], _, h0 => simp at h0; omega
  | c :: tl, hr, _ =>
    have e : (text.drop t.pos).take (t.text.length + 1) = t.text ++ [c] := by
      rw [hr, List.take_append, List.take_of_length_le (Nat.le_succ _)]
      simp
    rw [e] at hl ⊢
    intro he
    have hu := lex_stands hl u (by simp)
    have h2 := hu.le
    rw [he] at h2
    have h3 : u.pos = 0 := by simp at h2; omega
    have h4 := hu.tokn
    rw [h3, List.drop_zero, he] at h4
    have h5 := h.tokn
    rw [hr] at h5
    exact (longest h.kind h5).1 u.kind hu.kind h4

theorem longest_byte {text : List UInt8} {t : Tok} (h : Stands text t) (c : UInt8) (hc : text[t.pos + t.text.length]? = some c) (h4 : t.kind ≠ 4) : digits.contains c = false ∧ (t.kind ≠ 3 → letters.contains c = false) := by
  obtain ⟨r, hr⟩ := h.split
  have h1 : (text.drop t.pos)[t.text.length]? = some c := by rw [List.getElem?_drop]; exact hc
  rw [hr, List.getElem?_append_right (Nat.le_refl _), Nat.sub_self] at h1
  match r, hr, h1 with
  | d :: tl, hr, h1 =>
    cases h1
    have h5 := h.tokn
    rw [hr] at h5
    exact (longest h.kind h5).2 h4

theorem u8_all (p : UInt8 → Bool) (h : (List.range 256).all (fun n => p (UInt8.ofNat n)) = true) (c : UInt8) : p c = true := by
  have := List.all_eq_true.1 h c.toNat (List.mem_range.2 c.toNat_lt)
  rwa [UInt8.ofNat_toNat] at this

theorem letters_iff (c : UInt8) : letters.contains c = (decide (97 ≤ c.toNat) && decide (c.toNat ≤ 122)) := by
  have := u8_all (fun c => letters.contains c == (decide (97 ≤ c.toNat) && decide (c.toNat ≤ 122))) (by decide +kernel) c
  exact eq_of_beq this

theorem digits_iff (c : UInt8) : digits.contains c = (decide (48 ≤ c.toNat) && decide (c.toNat ≤ 57)) := by
  have := u8_all (fun c => digits.contains c == (decide (48 ≤ c.toNat) && decide (c.toNat ≤ 57))) (by decide +kernel) c
  exact eq_of_beq this

end Go.Proofs.YtanhljpmknfabaaDoor.LexMath
