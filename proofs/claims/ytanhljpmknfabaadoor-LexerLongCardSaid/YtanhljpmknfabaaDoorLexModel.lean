/- What lexing computes, over lists of bytes: blanks and comments, single tokens, and texts. No program is named here. -/
import Derived.Lib.SlTrimSet
import Derived.Lib.AtoiAll
import Derived.Lib.Bytealg
import Derived.Lib.Strings
namespace Go.Proofs.YtanhljpmknfabaaDoor.LexModel

def blanks : List UInt8 := [32, 9, 10]
def letters : List UInt8 := [97, 98, 99, 100, 101, 102, 103, 104, 105, 106, 107, 108, 109, 110, 111, 112, 113, 114, 115, 116, 117, 118, 119, 120, 121, 122]
def digits : List UInt8 := [48, 49, 50, 51, 52, 53, 54, 55, 56, 57]
def reserved : List (List UInt8) := [[98, 111, 111, 108], [100, 101, 102], [101, 120, 112, 111, 114, 116], [102, 97, 108, 115, 101], [102, 111, 108, 100], [105, 109, 112, 111, 114, 116], [105, 110], [105, 110, 116], [108, 101, 116], [109, 111, 100, 117, 108, 101], [115, 99, 97, 110], [115, 105, 122, 101], [116, 114, 117, 101], [119, 104, 101, 114, 101]]
def symbols : List (List UInt8) := [[46, 46], [61, 61], [33, 61], [60, 61], [62, 61], [45, 62], [38, 38], [124, 124], [40], [41], [91], [93], [123], [125], [44], [58], [46], [64], [35], [61], [60], [62], [43], [45], [42], [47], [37], [33]]

/-- What stands behind blanks and comments; 'true': within a comment. -/
def sk : Bool → List UInt8 → List UInt8
  | _, [] => []
  | true, c :: l => if c == 10 then sk false l else sk true l
  | false, c :: l => if blanks.contains c then sk false l else if c == 47 && l.head? == some 47 then sk true l else c :: l

/-- Whether digits are a number. -/
def number (d : List UInt8) : Bool :=
  match Go.Lib.atoiAll d with
  | .ok v => decide (v ≤ 2147483648) && !(decide (1 < d.length) && d.head? == some 48)
  | _ => false

/-- The kind and the text of the token with which bytes begin; kind 0 if there is none. -/
def tokn (l : List UInt8) : Nat × List UInt8 :=
  match l with
  | [] => (0, [])
  | c :: _ =>
    if letters.contains c then
      if reserved.contains (l.takeWhile ((letters ++ digits).contains ·)) then (2, l.takeWhile ((letters ++ digits).contains ·))
      else if (l.takeWhile ((letters ++ digits).contains ·)).length ≤ 30 then (1, l.takeWhile ((letters ++ digits).contains ·)) else (0, [])
    else if digits.contains c then
      if number (l.takeWhile (digits.contains ·)) then (3, l.takeWhile (digits.contains ·)) else (0, [])
    else match symbols.find? (Go.Lib.hasPrefix l) with
      | some s => (4, s)
      | none => (0, [])

structure Tok where
  kind : Nat
  text : List UInt8
  line : Nat
  pos : Nat
deriving DecidableEq

/-- Tokens, or an offset and an error. -/
def cons (t : Tok) : Except (Nat × Nat) (List Tok) → Except (Nat × Nat) (List Tok)
  | .error e => .error e
  | .ok l => .ok (t :: l)

def app (a : List Tok) : Except (Nat × Nat) (List Tok) → Except (Nat × Nat) (List Tok)
  | .error e => .error e
  | .ok l => .ok (a ++ l)

/-- The tokens of the rest of a text at an offset and in a line, behind k tokens; n bounds their number. -/
def lexN : Nat → List UInt8 → Nat → Nat → Nat → Except (Nat × Nat) (List Tok)
  | 0, _, _, _, _ => .ok []
  | n + 1, l, pos, line, k =>
    let r := sk false l
    let d := l.length - r.length
    if r.isEmpty then .ok []
    else if (tokn r).1 = 0 then .error (pos + d, 6)
    else if k = 4000 then .error (pos + d, 3)
    else cons ⟨(tokn r).1, (tokn r).2, line + (l.take d).count 10, pos + d⟩ (lexN n (r.drop (tokn r).2.length) (pos + d + (tokn r).2.length) (line + (l.take d).count 10) (k + 1))

def lex (l : List UInt8) : Except (Nat × Nat) (List Tok) := if 20000 < l.length then .error (0, 3) else lexN (l.length + 1) l 0 1 0

/-! ## Blanks and comments -/

theorem sk_suffix : ∀ (b : Bool) (l : List UInt8), ∃ p, l = p ++ sk b l
  | _, [] => ⟨[], by simp [sk]⟩
  | true, c :: l => by
    obtain ⟨p, hp⟩ := sk_suffix true l
    obtain ⟨q, hq⟩ := sk_suffix false l
    simp only [sk]
    split
    · exact ⟨c :: q, by rw [List.cons_append, ← hq]⟩
    · exact ⟨c :: p, by rw [List.cons_append, ← hp]⟩
  | false, c :: l => by
    obtain ⟨p, hp⟩ := sk_suffix true l
    obtain ⟨q, hq⟩ := sk_suffix false l
    simp only [sk]
    split
    · exact ⟨c :: q, by rw [List.cons_append, ← hq]⟩
    · split
      · exact ⟨c :: p, by rw [List.cons_append, ← hp]⟩
      · exact ⟨[], rfl⟩

theorem sk_le (b : Bool) (l : List UInt8) : (sk b l).length ≤ l.length := by
  obtain ⟨p, hp⟩ := sk_suffix b l
  have := congrArg List.length hp
  simp at this
  omega

theorem sk_drop (b : Bool) (l : List UInt8) : sk b l = l.drop (l.length - (sk b l).length) := by
  obtain ⟨p, hp⟩ := sk_suffix b l
  have h1 := congrArg List.length hp
  simp only [List.length_append] at h1
  have h2 : l.length - (sk b l).length = p.length := by omega
  rw [h2]
  conv => rhs; rw [hp]
  rw [List.drop_left]

/-- Leading blanks do not matter. -/
theorem sk_trim (l : List UInt8) : sk false (Go.Lib.trimLeftS l blanks) = sk false l := by
  induction l with
  | nil => rfl
  | cons c l ih =>
    unfold Go.Lib.trimLeftS at ih ⊢
    rw [List.dropWhile_cons]
    split
    · rename_i h
      rw [ih]
      simp only [sk, h, if_true]
    · rfl

theorem sk_stop (r : List UInt8) (hb : ∀ c l, r = c :: l → blanks.contains c = false) (hp : Go.Lib.hasPrefix r [47, 47] = false) : sk false r = r := by
  match r with
  | [] => rfl
  | c :: l =>
    have h1 := hb c l rfl
    have h2 : (c == 47 && l.head? == some 47) = false := by
      cases l with
      | nil => simp
      | cons d l =>
        unfold Go.Lib.hasPrefix at hp
        simp only [List.isPrefixOf, Bool.and_true] at hp
        have e1 : (c == (47 : UInt8)) = (47 == c) := by rw [Bool.beq_comm]
        have e2 : ((d :: l).head? == some (47 : UInt8)) = (47 == d) := by
          show (some d == some (47 : UInt8)) = _
          rw [Option.some_beq_some, Bool.beq_comm]
        rw [e1, e2]; exact hp
    simp only [sk, h1, h2]
    simp

theorem trim_head (l : List UInt8) (cs : List UInt8) : ∀ c r, Go.Lib.trimLeftS l cs = c :: r → cs.contains c = false := by
  induction l with
  | nil => intro c r h; cases h
  | cons a l ih =>
    intro c r h
    unfold Go.Lib.trimLeftS at ih h
    rw [List.dropWhile_cons] at h
    split at h
    · exact ih c r h
    · rename_i hn
      cases h
      simpa using hn

theorem sk_true_none (l : List UInt8) (h : Go.Lib.indexByte l 10 < 0) : sk true l = [] := by
  induction l with
  | nil => rfl
  | cons c l ih =>
    unfold Go.Lib.indexByte at h
    have hge := Go.Lib.indexByte_ge l 10
    split at h
    · omega
    · rename_i hc
      split at h
      · rename_i h1
        simp only [sk]
        rw [if_neg hc]
        exact ih (by have := eq_of_beq h1; omega)
      · rename_i h1
        have : Go.Lib.indexByte l 10 ≠ -1 := fun e => h1 (by rw [e]; rfl)
        omega

theorem sk_true_some (l : List UInt8) (h : 0 ≤ Go.Lib.indexByte l 10) : sk true l = sk false (l.drop (Go.Lib.indexByte l 10).toNat) ∧ (Go.Lib.indexByte l 10).toNat < l.length := by
  induction l with
  | nil => exact absurd h (by decide)
  | cons c l ih =>
    have hge := Go.Lib.indexByte_ge l 10
    unfold Go.Lib.indexByte at h ⊢
    split
    · rename_i hc
      have := eq_of_beq hc
      subst this
      refine ⟨?_, by simp⟩
      simp [sk, blanks]
    · rename_i hc
      rw [if_neg hc] at h
      split
      · rename_i h1
        rw [if_pos h1] at h
        omega
      · rename_i h1
        have h2 : Go.Lib.indexByte l 10 ≠ -1 := fun e => h1 (by rw [e]; rfl)
        obtain ⟨e1, e2⟩ := ih (by omega)
        have e3 : (Go.Lib.indexByte l 10 + 1).toNat = (Go.Lib.indexByte l 10).toNat + 1 := by omega
        rw [e3]
        refine ⟨?_, by simp; omega⟩
        simp only [sk]
        rw [if_neg hc, List.drop_succ_cons]
        exact e1

/-- A comment with a line feed behind it: at least two bytes ahead of the line feed. -/
theorem sk_comment (r : List UInt8) (hp : Go.Lib.hasPrefix r [47, 47] = true) :
    (Go.Lib.indexByte r 10 < 0 → sk false r = []) ∧ (0 ≤ Go.Lib.indexByte r 10 → sk false r = sk false (r.drop (Go.Lib.indexByte r 10).toNat) ∧ 2 ≤ (Go.Lib.indexByte r 10).toNat ∧ (Go.Lib.indexByte r 10).toNat < r.length) := by
  match r, hp with
  | [], hp => exact absurd hp (by decide)
  | [c], hp =>
    unfold Go.Lib.hasPrefix at hp
    simp [List.isPrefixOf] at hp
  | c :: d :: l, hp =>
    unfold Go.Lib.hasPrefix at hp
    simp only [List.isPrefixOf, Bool.and_true, Bool.and_eq_true, beq_iff_eq] at hp
    obtain ⟨rfl, rfl⟩ := hp
    have h0 : sk false (47 :: 47 :: l) = sk true (47 :: l) := by simp [sk, blanks]
    have i1 : Go.Lib.indexByte (47 :: 47 :: l) 10 = if Go.Lib.indexByte (47 :: l) 10 == -1 then -1 else Go.Lib.indexByte (47 :: l) 10 + 1 := by
      conv => lhs; unfold Go.Lib.indexByte
      rw [if_neg (by decide)]
    have i2 : Go.Lib.indexByte (47 :: l) 10 = if Go.Lib.indexByte l 10 == -1 then -1 else Go.Lib.indexByte l 10 + 1 := by
      conv => lhs; unfold Go.Lib.indexByte
      rw [if_neg (by decide)]
    have hge := Go.Lib.indexByte_ge l 10
    by_cases h : Go.Lib.indexByte l 10 = -1
    · have i3 : Go.Lib.indexByte (47 :: l) 10 = -1 := by rw [i2, h]; rfl
      have i4 : Go.Lib.indexByte (47 :: 47 :: l) 10 = -1 := by rw [i1, i3]; rfl
      refine ⟨fun _ => ?_, fun h => ?_⟩
      · rw [h0]; exact sk_true_none _ (by omega)
      · omega
    · have i3 : Go.Lib.indexByte (47 :: l) 10 = Go.Lib.indexByte l 10 + 1 := by
        rw [i2, if_neg (fun e => h (eq_of_beq e))]
      have i4 : Go.Lib.indexByte (47 :: 47 :: l) 10 = Go.Lib.indexByte l 10 + 1 + 1 := by
        rw [i1, i3, if_neg (fun e => by have := eq_of_beq e; omega)]
      refine ⟨fun h => by omega, fun _ => ?_⟩
      obtain ⟨e1, e2⟩ := sk_true_some (47 :: l) (by omega)
      rw [h0, e1, i3, i4]
      have e3 : (Go.Lib.indexByte l 10 + 1 + 1).toNat = (Go.Lib.indexByte l 10 + 1).toNat + 1 := by omega
      rw [i3] at e2
      rw [e3, List.drop_succ_cons]
      refine ⟨rfl, by omega, ?_⟩
      simp only [List.length_cons] at e2 ⊢
      omega

/-! ## Tokens -/

theorem span_eq (l cs : List UInt8) : l.take (l.length - (Go.Lib.trimLeftS l cs).length) = l.takeWhile (cs.contains ·) := by
  induction l with
  | nil => rfl
  | cons c l ih =>
    unfold Go.Lib.trimLeftS at ih ⊢
    have hle : (l.dropWhile (cs.contains ·)).length ≤ l.length := (List.dropWhile_suffix _).length_le
    rw [List.dropWhile_cons, List.takeWhile_cons]
    split
    · rw [List.length_cons, show l.length + 1 - (List.dropWhile (fun x => cs.contains x) l).length = (l.length - (List.dropWhile (fun x => cs.contains x) l).length) + 1 by omega, List.take_succ_cons, ih]
    · simp

theorem takeWhile_append (p : UInt8 → Bool) (l : List UInt8) : l.takeWhile p ++ l.dropWhile p = l := List.takeWhile_append_dropWhile

theorem symbols_ne : ∀ s ∈ symbols, s ≠ [] := by decide

theorem tok_prefix (l : List UInt8) : ∃ r, l = (tokn l).2 ++ r := by
  unfold tokn
  split
  · exact ⟨[], rfl⟩
  · rename_i c l
    split
    · split
      · exact ⟨_, (takeWhile_append _ _).symm⟩
      · split
        · exact ⟨_, (takeWhile_append _ _).symm⟩
        · exact ⟨_, rfl⟩
    · split
      · split
        · exact ⟨_, (takeWhile_append _ _).symm⟩
        · exact ⟨_, rfl⟩
      · split
        · rename_i s hs
          have := List.find?_some hs
          unfold Go.Lib.hasPrefix at this
          obtain ⟨r, hr⟩ := List.isPrefixOf_iff_prefix.1 this
          exact ⟨r, hr.symm⟩
        · exact ⟨_, rfl⟩

theorem tok_ne (l : List UInt8) (h : (tokn l).1 ≠ 0) : (tokn l).2 ≠ [] := by
  unfold tokn at h ⊢
  split at h
  · exact absurd rfl h
  · rename_i c l
    have pos : ∀ p : UInt8 → Bool, p c = true → List.takeWhile p (c :: l) ≠ [] := fun p hp => by
      rw [List.takeWhile_cons, if_pos hp]; simp
    split at h
    · rename_i hc
      have hc2 : (letters ++ digits).contains c = true := by
        have : c ∈ letters := by simpa using hc
        simp [this]
      rw [if_pos hc]
      split at h
      · rename_i h1; rw [if_pos h1]; exact pos _ hc2
      · rename_i h1
        rw [if_neg h1]
        split at h
        · rename_i h2; rw [if_pos h2]; exact pos _ hc2
        · exact absurd rfl h
    · rename_i hc
      rw [if_neg hc]
      split at h
      · rename_i hd
        rw [if_pos hd]
        split at h
        · rename_i h1; rw [if_pos h1]; exact pos _ hd
        · exact absurd rfl h
      · rename_i hd
        rw [if_neg hd]
        split at h
        · rename_i s hs
          exact symbols_ne s (List.mem_of_find?_eq_some hs)
        · exact absurd rfl h

theorem tok_len (l : List UInt8) : (tokn l).2.length ≤ l.length := by
  obtain ⟨r, hr⟩ := tok_prefix l
  have := congrArg List.length hr
  rw [List.length_append] at this
  omega

theorem tok_kind (l : List UInt8) : (tokn l).1 ≤ 4 := by
  unfold tokn
  split
  · exact Nat.zero_le _
  · split
    · split
      · exact Nat.le_of_ble_eq_true rfl
      · split <;> exact Nat.le_of_ble_eq_true rfl
    · split
      · split <;> exact Nat.le_of_ble_eq_true rfl
      · split <;> exact Nat.le_of_ble_eq_true rfl

/-- A bound on the tokens beyond the rest's length changes nothing. -/
theorem lexN_more : ∀ (n m : Nat) (l : List UInt8) (pos line k : Nat), l.length < n → l.length < m → lexN n l pos line k = lexN m l pos line k
  | 0, _, _, _, _, _, h, _ => absurd h (Nat.not_lt_zero _)
  | _, 0, _, _, _, _, _, h => absurd h (Nat.not_lt_zero _)
  | n + 1, m + 1, l, pos, line, k, h1, h2 => by
    simp only [lexN]
    split
    · rfl
    · split
      · rfl
      · rename_i h3
        split
        · rfl
        · have a1 := sk_le false l
          have a2 := tok_ne _ h3
          have a3 : 0 < (tokn (sk false l)).2.length := List.length_pos_iff.2 a2
          have a4 : ((sk false l).drop (tokn (sk false l)).2.length).length < n ∧ ((sk false l).drop (tokn (sk false l)).2.length).length < m := by
            have := tok_len (sk false l)
            rw [List.length_drop]; omega
          rw [lexN_more n m _ _ _ _ a4.1 a4.2]

theorem app_nil (r : Except (Nat × Nat) (List Tok)) : app [] r = r := by cases r <;> rfl
theorem app_cons (a : List Tok) (t : Tok) (r : Except (Nat × Nat) (List Tok)) : app a (cons t r) = app (a ++ [t]) r := by
  cases r with
  | error e => rfl
  | ok l => simp [app, cons]

/-! ## One step of lexing, as the program takes it -/

/-- The tokens behind a place of a text. -/
def lexAt (text : List UInt8) (pos line k : Nat) : Except (Nat × Nat) (List Tok) := lexN (text.length + 1) (text.drop pos) pos line k

/-- Where the next token begins. -/
def next (text : List UInt8) (pos : Nat) : Nat := text.length - (sk false (text.drop pos)).length

theorem next_ge (text : List UInt8) (pos : Nat) (h : pos ≤ text.length) : pos ≤ next text pos ∧ next text pos ≤ text.length := by
  unfold next
  have := sk_le false (text.drop pos)
  rw [List.length_drop] at this
  omega

theorem drop_next (text : List UInt8) (pos : Nat) (h : pos ≤ text.length) : text.drop (next text pos) = sk false (text.drop pos) := by
  have h1 := sk_drop false (text.drop pos)
  have h2 := sk_le false (text.drop pos)
  rw [List.drop_drop] at h1
  rw [List.length_drop] at h1 h2
  rw [h1]
  congr 1
  unfold next
  omega

theorem lexAt_step (text : List UInt8) (pos line k : Nat) (h : pos ≤ text.length) :
    lexAt text pos line k =
      if next text pos = text.length then .ok []
      else if (tokn (text.drop (next text pos))).1 = 0 then .error (next text pos, 6)
      else if k = 4000 then .error (next text pos, 3)
      else cons ⟨(tokn (text.drop (next text pos))).1, (tokn (text.drop (next text pos))).2, line + ((text.drop pos).take (next text pos - pos)).count 10, next text pos⟩
        (lexAt text (next text pos + (tokn (text.drop (next text pos))).2.length) (line + ((text.drop pos).take (next text pos - pos)).count 10) (k + 1)) := by
  have hn := next_ge text pos h
  have hd := drop_next text pos h
  have hl := sk_le false (text.drop pos)
  rw [List.length_drop] at hl
  have e1 : (text.drop pos).length - (text.drop (next text pos)).length = next text pos - pos := by
    rw [List.length_drop, List.length_drop]; omega
  have e2 : pos + (next text pos - pos) = next text pos := by omega
  have e3 : (text.drop (next text pos)).isEmpty = decide (next text pos = text.length) := by
    rw [Bool.eq_iff_iff, List.isEmpty_iff, decide_eq_true_iff, List.drop_eq_nil_iff]; omega
  unfold lexAt
  conv => lhs; unfold lexN
  simp only [← hd, e1, e2, e3, decide_eq_true_eq]
  split
  · rfl
  · split
    · rfl
    · rename_i h3
      split
      · rfl
      · congr 1
        rw [List.drop_drop]
        have := List.length_pos_iff.2 (tok_ne _ h3)
        have := tok_len (text.drop (next text pos))
        refine lexN_more _ _ _ _ _ _ ?_ ?_
        · rw [List.length_drop]; rw [List.length_drop] at this; omega
        · rw [List.length_drop]; omega

end Go.Proofs.YtanhljpmknfabaaDoor.LexModel
