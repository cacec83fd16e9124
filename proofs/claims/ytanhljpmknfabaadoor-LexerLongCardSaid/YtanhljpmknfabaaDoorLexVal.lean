/- Values of numbers: what they are, and the walks of both sides. -/
import Derived.Test.YtanhljpmknfabaaDoorLexRef2
namespace Go.Proofs.YtanhljpmknfabaaDoor.LexVal
set_option linter.unusedVariables false
open Go.RowKit Go.Proofs.YtanhljpmknfabaaDoor.LexModel Go.Proofs.YtanhljpmknfabaaDoor.LexMath Go.Proofs.YtanhljpmknfabaaDoor.LexSkip Go.Proofs.YtanhljpmknfabaaDoor.LexTok Go.Proofs.YtanhljpmknfabaaDoor.LexLex Go.Proofs.YtanhljpmknfabaaDoor.LexAwake Go.Proofs.YtanhljpmknfabaaDoor.LexRef1 Go.Proofs.YtanhljpmknfabaaDoor.LexRef2

/-- The number that digits spell behind others. -/
def stepN (a : Nat) (c : UInt8) : Nat := 10 * a + (c.toNat - 48)
def decN (a : Nat) (l : List UInt8) : Nat := l.foldl stepN a
theorem decN_nil (a : Nat) : decN a [] = a := by unfold decN; rw [List.foldl_nil]
theorem decN_cons (a : Nat) (c : UInt8) (l : List UInt8) : decN a (c :: l) = decN (10 * a + (c.toNat - 48)) l := by unfold decN; rw [List.foldl_cons]; rfl

theorem dec_snoc (l : List UInt8) (c : UInt8) : ∀ (a : Nat), decN a (l ++ [c]) = 10 * decN a l + (c.toNat - 48) := by
  generalize hk : c.toNat - 48 = k
  induction l with
  | nil =>
    intro a
    rw [List.nil_append, decN_cons, decN_nil, decN_nil, hk]
  | cons b l ih =>
    intro a
    rw [List.cons_append, decN_cons, decN_cons]
    generalize 10 * a + (b.toNat - 48) = a2
    exact ih a2

theorem dec_ge : ∀ (l : List UInt8) (a : Nat), a * 10 ^ l.length ≤ decN a l
  | [], a => by simp [decN_nil]
  | c :: l, a => by
    rw [decN_cons, List.length_cons]
    refine Nat.le_trans ?_ (dec_ge l _)
    rw [Nat.pow_succ]
    have : a * (10 ^ l.length * 10) = 10 * a * 10 ^ l.length := by rw [Nat.mul_comm (10 ^ l.length) 10, ← Nat.mul_assoc, Nat.mul_comm a 10]
    rw [this]
    exact Nat.mul_le_mul_right _ (Nat.le_add_right _ _)

theorem dec_mono (l : List UInt8) (a : Nat) : a ≤ decN a l := by
  refine Nat.le_trans ?_ (dec_ge l a)
  have : 1 ≤ 10 ^ l.length := Nat.one_le_pow _ _ (by decide)
  calc a = a * 1 := (Nat.mul_one a).symm
    _ ≤ a * 10 ^ l.length := Nat.mul_le_mul_left _ this

def isDig (c : UInt8) : Bool := digits.contains c
theorem isDig_iff (c : UInt8) : isDig c = true ↔ 48 ≤ c.toNat ∧ c.toNat ≤ 57 := by
  unfold isDig
  rw [digits_iff]
  simp

theorem dec_lt : ∀ (l : List UInt8) (a : Nat), l.all isDig = true → decN a l < (a + 1) * 10 ^ l.length
  | [], a, _ => by simp [decN_nil]
  | c :: l, a, h => by
    simp only [List.all_cons, Bool.and_eq_true] at h
    have hc := (isDig_iff c).1 h.1
    rw [decN_cons, List.length_cons]
    refine Nat.lt_of_lt_of_le (dec_lt l _ h.2) ?_
    rw [Nat.pow_succ, Nat.mul_comm (10 ^ l.length) 10, ← Nat.mul_assoc]
    exact Nat.mul_le_mul_right _ (by omega)

theorem parse_ok : ∀ (l : List UInt8) (a u : Nat), l.all isDig = true → Lib.parseUint10 a l = .ok u → u = decN a l
  | [], a, u, _, h => by
    simp only [Lib.parseUint10] at h
    injection h with h
    rw [decN_nil]
    exact h.symm
  | c :: l, a, u, hd, h => by
    simp only [List.all_cons, Bool.and_eq_true] at hd
    have hc := (isDig_iff c).1 hd.1
    simp only [Lib.parseUint10] at h
    rw [if_pos hc] at h
    split at h
    · cases h
    · split at h
      · cases h
      · rw [Nat.mul_comm a 10] at h
        exact parse_ok l _ u hd.2 h

theorem parse_small : ∀ (l : List UInt8) (a : Nat), l.all isDig = true → decN a l ≤ 2147483648 → Lib.parseUint10 a l = .ok (decN a l)
  | [], a, _, _ => by rw [decN_nil]; rfl
  | c :: l, a, hd, h => by
    simp only [List.all_cons, Bool.and_eq_true] at hd
    have hc := (isDig_iff c).1 hd.1
    rw [decN_cons] at h ⊢
    have hm := dec_mono l (10 * a + (c.toNat - 48))
    simp only [Lib.parseUint10]
    rw [if_pos hc, if_neg (by omega), if_neg (by omega), Nat.mul_comm a 10]
    exact parse_small l _ hd.2 h

theorem atoi_eq (l : List UInt8) (hne : l ≠ []) (hd : l.all isDig = true) :
    (∀ v, Lib.atoiAll l = .ok v → v = ((decN 0 l : Nat) : Int)) ∧ (decN 0 l ≤ 2147483648 → Lib.atoiAll l = .ok ((decN 0 l : Nat) : Int)) := by
  match l, hne with
  | c :: r, _ =>
    have hc := (isDig_iff c).1 (by simp only [List.all_cons, Bool.and_eq_true] at hd; exact hd.1)
    have h1 : ¬ c.toNat = 43 := by omega
    have h2 : ¬ c.toNat = 45 := by omega
    have hm : Lib.parseMag (c :: r) = Lib.parseUint10 0 (c :: r) := by unfold Lib.parseMag; rw [if_neg (by simp)]
    constructor
    · intro v hv
      cases hu : Lib.parseUint10 0 (c :: r) with
      | ok u =>
        have := parse_ok _ _ _ hd hu
        simp [Lib.atoiAll, h1, h2, hm, hu] at hv
        split at hv
        · cases hv
        · injection hv with hv
          rw [← hv, this]
      | _ => simp [Lib.atoiAll, h1, h2, hm, hu] at hv
    · intro hs
      have hu := parse_small _ _ hd hs
      simp only [Lib.atoiAll, h1, h2, or_self, if_false, hm, hu]
      rw [if_neg (by omega), if_neg (by simp)]

/-- The value of a number, as the document says it. -/
def valR (l : List UInt8) : Option Nat :=
  if l.all isDig = true ∧ l.length ≤ 10 ∧ l ≠ [] ∧ ¬ (1 < l.length ∧ l.head? = some 48) ∧ decN 0 l ≤ 2147483648 then some (decN 0 l) else none

theorem span_digits (l : List UInt8) : (l.takeWhile (digits.contains ·) == l) = l.all isDig := by
  induction l with
  | nil => rfl
  | cons c r ih =>
    rw [List.takeWhile_cons, List.all_cons]
    show ((if isDig c then c :: List.takeWhile (digits.contains ·) r else []) == c :: r) = _
    cases isDig c with
    | true =>
      simp only [if_true, Bool.true_and]
      rw [← ih]
      show ((c == c) && (List.takeWhile (digits.contains ·) r == r)) = _
      simp
    | false => rfl

/-- The program's numbers are these. -/
theorem val_some (l : List UInt8) (v : Nat) (h : valR l = some v) : tokn l = (3, l) ∧ Lib.atoiAll l = .ok (v : Int) := by
  unfold valR at h
  split at h
  · rename_i hh
    obtain ⟨hd, hlen, hne, h0, hs⟩ := hh
    cases h
    have ha := (atoi_eq l hne hd).2 hs
    refine ⟨?_, ha⟩
    match l, hne with
    | c :: r, _ =>
      have hdc : digits.contains c = true := by simp only [List.all_cons, Bool.and_eq_true] at hd; exact hd.1
      have hlc : letters.contains c = false := by
        have h1 := digits_iff c
        rw [hdc] at h1
        rw [letters_iff]
        have h1 := h1.symm
        simp only [Bool.and_eq_true, decide_eq_true_eq] at h1
        simp only [Bool.and_eq_false_iff, decide_eq_false_iff_not]
        omega
      rw [tok_d (c :: r) c rfl hlc hdc]
      have hsp := span_digits (c :: r)
      rw [hd] at hsp
      rw [eq_of_beq hsp]
      have hn : number (c :: r) = true := by
        unfold number
        rw [ha]
        have e1 : decide (((decN 0 (c :: r) : Nat) : Int) ≤ 2147483648) = true := decide_eq_true (by omega)
        have e2 : (decide (1 < (c :: r).length) && (c :: r).head? == some 48) = false := by
          rw [Bool.and_eq_false_iff]
          by_cases h1 : 1 < (c :: r).length
          · right
            rw [beq_eq_false_iff_ne]
            exact fun e => h0 ⟨h1, e⟩
          · left; exact decide_eq_false h1
        show (decide _ && !(_ && _)) = true
        rw [e1, e2]
        rfl
      rw [if_pos hn]
  · cases h

theorem val_none (l : List UInt8) (h : valR l = none) : ¬ ((tokn l).1 = 3 ∧ (tokn l).2 = l) := by
  rintro ⟨hk, ht⟩
  cases l with
  | nil => exact absurd hk (by decide)
  | cons c r =>
    have h1 : (tokn (c :: r)).1 ≠ 0 := by rw [hk]; decide
    cases hlc : letters.contains c with
    | true => obtain ⟨e, _⟩ := tok_letter hlc h1; omega
    | false =>
      cases hdc : digits.contains c with
      | false => obtain ⟨e, _⟩ := tok_symbol hlc hdc h1; omega
      | true =>
        have hsp := (tok_digit hlc hdc h1).2
        rw [ht] at hsp
        have hd : (c :: r).all isDig = true := by rw [← span_digits, ← hsp]; simp
        have hn : number (c :: r) = true := by
          rw [tok_d (c :: r) c rfl hlc hdc, ← hsp] at hk
          split at hk
          · assumption
          · cases hk
        unfold number at hn
        cases hv : Lib.atoiAll (c :: r) with
        | ok v =>
          rw [hv] at hn
          have hn : (decide (v ≤ 2147483648) && !(decide (1 < (c :: r).length) && (c :: r).head? == some 48)) = true := hn
          simp only [Bool.and_eq_true, decide_eq_true_eq, Bool.not_eq_true', Bool.and_eq_false_iff, decide_eq_false_iff_not, beq_eq_false_iff_ne] at hn
          have hvd := (atoi_eq (c :: r) (by simp) hd).1 v hv
          have hs : decN 0 (c :: r) ≤ 2147483648 := by omega
          have h0 : ¬ (1 < (c :: r).length ∧ (c :: r).head? = some 48) := fun ⟨a, b⟩ => hn.2.elim (fun x => x a) (fun x => x b)
          have hlen : (c :: r).length ≤ 10 := by
            apply Classical.byContradiction
            intro hl
            have hc48 : c ≠ 48 := fun e => h0 ⟨by omega, by rw [e]; rfl⟩
            have hcd := (isDig_iff c).1 hdc
            have hc49 : 1 ≤ c.toNat - 48 := by
              have : c.toNat ≠ 48 := fun e => hc48 (UInt8.toNat_inj.1 e)
              omega
            have hge := dec_ge r (10 * 0 + (c.toNat - 48))
            have h10 : 10 ^ 10 ≤ 10 ^ r.length := Nat.pow_le_pow_right (by decide) (by simp at hl; omega)
            have : 1 * 10 ^ 10 ≤ (10 * 0 + (c.toNat - 48)) * 10 ^ r.length := Nat.mul_le_mul (by omega) h10
            have e : decN 0 (c :: r) = decN (10 * 0 + (c.toNat - 48)) r := decN_cons 0 c r
            have e2 : (10 : Nat) ^ 10 = 10000000000 := by decide
            omega
          unfold valR at h
          rw [if_pos ⟨hd, hlen, by simp, h0, hs⟩] at h
          cases h
        | _ => rw [hv] at hn; cases hn

/-- What Value returns, on either side. -/
def valV (l : List UInt8) : Value := .tuple #[.int .i64 ((valR l).getD 0 : Nat), .bool (valR l).isSome]

set_option maxRecDepth 100000 in
set_option maxHeartbeats 4000000 in
theorem value_any (l : List UInt8) (w : World) (ht : Tab w) (hl : (l.length : Int) ≤ 1000000) :
    Calls Tryd.prog 15 #[.string (sv l)] w fun e w' => e = .returned (valV l) ∧ Below w.heap.size w w' := by
  have HK := Lib.hid (token_any l w ht hl)
  unfold valV
  cases hv : valR l with
  | some v =>
    obtain ⟨h1, h2⟩ := val_some l v hv
    have HA := Lib.hid (fun w1 => atoi_good l w1 hl v h2)
    rw [h1] at HK
    clear h1 h2 hv ht
    go_enter Tryd.func15, Tryd.ntmps15
    go_wp2_with (fail)
    refine HK.out.mono ?_
    rintro e w1 ⟨rfl, b1⟩
    have HB := Lib.hid b1
    clear b1
    go_wp2_with (fail)
    refine (HA.out w1).mono ?_
    rintro e w2 ⟨rfl, b2⟩
    have HB2 := Lib.hid (bt HB.out b2)
    clear b2
    go_wp2_with (fail)
    go_quiet (fail)
    go_wp2
    go_ret2
    exact ⟨rfl, below_drewN HB2.out _⟩
  | none =>
    have hn := val_none l hv
    have hb := sv_beq (tokn l).2 l
    have hx : (((tokn l).1 : Int) != 3) = true ∨ ((((tokn l).1 : Int) == 3) = true ∧ ((sv (tokn l).2).toList == (sv l).toList) = false) := by
      by_cases hk : (tokn l).1 = 3
      · right
        refine ⟨by rw [hk]; rfl, ?_⟩
        have : ((tokn l).2 == l) = false := beq_eq_false_iff_ne.2 fun e => hn ⟨hk, e⟩
        rw [hb, this]
      · left
        exact bne_iff_ne.2 (by omega)
    generalize (tokn l).1 = k at *
    generalize (tokn l).2 = s at *
    clear hb hn hv ht
    rcases hx with h1 | ⟨h1, h2⟩
    · go_enter Tryd.func15, Tryd.ntmps15
      go_wp2_with (fail)
      refine HK.out.mono ?_
      rintro e w1 ⟨rfl, b1⟩
      have HB := Lib.hid b1
      clear b1
      go_wp2
      go_ret2
      exact ⟨rfl, HB.out⟩
    · obtain rfl : k = 3 := by have := eq_of_beq h1; omega
      go_enter Tryd.func15, Tryd.ntmps15
      go_wp2_with (fail)
      refine HK.out.mono ?_
      rintro e w1 ⟨rfl, b1⟩
      have HB := Lib.hid b1
      clear b1
      go_wp2
      go_ret2
      exact ⟨rfl, HB.out⟩

theorem dec_take (l : List UInt8) (i : Nat) (h : i < l.length) : decN 0 (l.take (i + 1)) = 10 * decN 0 (l.take i) + (l[i].toNat - 48) := by
  rw [List.take_succ_eq_append_getElem h, dec_snoc]

theorem all_take (l : List UInt8) (i : Nat) (h : i < l.length) : (l.take (i + 1)).all isDig = ((l.take i).all isDig && isDig l[i]) := by
  rw [List.take_succ_eq_append_getElem h, List.all_append]
  simp

theorem dec_bound (l : List UInt8) (i : Nat) (hi : i ≤ 10) (h : (l.take i).all isDig = true) : decN 0 (l.take i) < 10000000000 := by
  have h1 := dec_lt (l.take i) 0 h
  have h2 : (l.take i).length ≤ 10 := by rw [List.length_take]; omega
  have h3 : 10 ^ (l.take i).length ≤ 10 ^ 10 := Nat.pow_le_pow_right (by decide) h2
  have e2 : (10 : Nat) ^ 10 = 10000000000 := by decide
  omega

theorem val_no_digit (l : List UInt8) (i : Nat) (h : i < l.length) (hd : isDig l[i] = false) : valR l = none := by
  unfold valR
  rw [if_neg]
  rintro ⟨h1, _⟩
  rw [List.all_eq_true] at h1
  have := h1 _ (List.getElem_mem h)
  rw [hd] at this
  cases this

theorem val_long (l : List UInt8) (h : 10 < l.length) : valR l = none := by
  unfold valR
  rw [if_neg]
  rintro ⟨_, h2, _⟩
  omega

set_option maxRecDepth 100000 in
set_option maxHeartbeats 8000000 in
theorem refValue_any (l : List UInt8) (w : World) (hl : (l.length : Int) ≤ 1000000) :
    Calls Tryd.prog 16 #[.string (sv l)] w fun e w' => e = .returned (valV l) ∧ w = w' := by
  have hz := sv_size l
  generalize hR : valV l = R
  have HNO : Hid (valR l = none → R = .tuple #[.int .i64 0, .bool false]) := Lib.hid fun h => by rw [← hR]; unfold valV; rw [h]; rfl
  have HYES : Hid (∀ v, valR l = some v → R = .tuple #[.int .i64 v, .bool true]) := Lib.hid fun v h => by rw [← hR]; unfold valV; rw [h]; rfl
  clear hR
  go_enter Tryd.func16, Tryd.ntmps16
  go_wp2_with (fail)
  go_loop [4, 5] (fun s4 s5 => ∃ i n : Nat, (i : Int) ≤ l.length ∧ (i : Int) ≤ 10 ∧ s5 = .int .i64 i ∧ s4 = .int .i64 n ∧ (n : Int) < 10000000000 ∧ Hid ((l.take i).all isDig = true) ∧ Hid (n = decN 0 (l.take i))) (fun _ s5 => l.length - (intOf s5).toNat)
  case atStart => exact ⟨0, 0, by omega, by omega, rfl, rfl, by omega, Lib.hid (by rw [List.take_zero]; rfl), Lib.hid (by rw [List.take_zero, decN_nil])⟩
  case round =>
    obtain ⟨i, n, hi, hi10, rfl, rfl, hn, HD, HN⟩ := hrel
    by_cases hlt : i < l.length
    · have hlt' : (i : Int) < l.length := by omega
      obtain ⟨hbz, hcb⟩ := LexBlank.byte_at l i hlt
      have HDg := Lib.hid (digit_any l[i] w)
      have hall := all_take l i hlt
      have hdec := dec_take l i hlt
      have hnd := val_no_digit l i hlt
      have hid := isDig_iff l[i]
      have hbd := dec_bound l (i + 1)
      rw [HD.out, Bool.true_and] at hall
      rw [← HN.out] at hdec
      have e : digits.contains l[i] = isDig l[i] := rfl
      rw [e] at HDg
      generalize isDig l[i] = bd at *
      generalize l[i] = c at *
      cases bd
      · have HR := Lib.hid (HNO.out (hnd rfl))
        clear hnd hall hdec hid hbd HD HN HNO HYES e
        go_wp2_with (fail)
        refine HDg.out.mono ?_
        rintro e w1 ⟨rfl, rfl⟩
        go_wp2
        go_ret2
        exact ⟨by rw [HR.out]; rfl, rfl⟩
      · obtain ⟨k1, k2⟩ := hid.1 rfl
        by_cases h9 : i ≤ 9
        · have h9' : decide ((9 : Int) < i) = false := decide_eq_false (by omega)
          have k1' : (48 : Int) ≤ c.toNat := by omega
          have k2' : (c.toNat : Int) ≤ 57 := by omega
          have hb := hbd (by omega) hall
          have HN1 : Hid (10 * n + (c.toNat - 48) = decN 0 (l.take (i + 1))) := Lib.hid hdec.symm
          have HD1 := Lib.hid hall
          rw [hdec] at hb
          clear hnd hall hdec hid hbd HD HN HNO HYES e
          go_wp2_with (fail)
          refine HDg.out.mono ?_
          rintro e w1 ⟨rfl, rfl⟩
          go_wp2
          go_round
          case rel => exact ⟨i + 1, 10 * n + (c.toNat - 48), by omega, by omega, by go_num, by go_num, by omega, HD1, HN1⟩
          case measure => simp [intOf]; omega
        · have h9' : decide ((9 : Int) < i) = true := decide_eq_true (by omega)
          have HR := Lib.hid (HNO.out (val_long l (by omega)))
          clear hnd hall hdec hid hbd HD HN HNO HYES e
          go_wp2_with (fail)
          refine HDg.out.mono ?_
          rintro e w1 ⟨rfl, rfl⟩
          go_wp2
          go_ret2
          exact ⟨by rw [HR.out]; rfl, rfl⟩
    · obtain rfl : i = l.length := by omega
      have hD := HD.out
      have hN := HN.out
      rw [List.take_length] at hD hN
      clear HD HN
      rcases hx : l.head? with _ | c
      · have : l = [] := List.head?_eq_none_iff.1 hx
        have he : (sv l).toList.isEmpty = true := by rw [this, ByteArray.toList_eq]; rfl
        have HR := Lib.hid (HNO.out (by rw [this]; rfl))
        clear hD hN hx this HNO HYES
        go_wp2
        go_ret2
        exact ⟨by rw [HR.out]; rfl, rfl⟩
      · obtain ⟨he, hz0, hb⟩ := head_facts l c hx
        have hne : l ≠ [] := fun e => by rw [e] at hx; cases hx
        by_cases hlen : 1 < l.length
        · have hlen' : (1 : Int) < l.length := by omega
          by_cases h48 : c = 48
          · have HR := Lib.hid (HNO.out (by
              unfold valR
              rw [if_neg]
              rintro ⟨_, _, _, h0, _⟩
              exact h0 ⟨hlen, by rw [hx, h48]⟩))
            have t1 : (((c.toNat : Nat) : Int) == 48) = true := by rw [h48]; rfl
            clear hD hN hx HNO HYES h48
            go_wp2
            go_ret2
            exact ⟨by rw [HR.out]; rfl, rfl⟩
          · have t1 : (((c.toNat : Nat) : Int) == 48) = false := beq_eq_false_iff_ne.2 (byte_ne h48)
            have hcond : ¬ (1 < l.length ∧ l.head? = some 48) := fun ⟨_, b⟩ => h48 (by rw [hx] at b; exact Option.some.inj b)
            by_cases hmax : n ≤ 2147483648
            · have hmax' : ¬ (2147483648 : Int) < n := by omega
              have HR := Lib.hid (HYES.out n (by unfold valR; rw [if_pos ⟨hD, by omega, hne, hcond, by omega⟩, hN]))
              clear hD hN hx HNO HYES h48 hcond hne
              go_wp2
              go_ret2
              exact ⟨by rw [HR.out]; rfl, rfl⟩
            · have hmax' : (2147483648 : Int) < n := by omega
              have HR := Lib.hid (HNO.out (by
                unfold valR
                rw [if_neg]
                rintro ⟨_, _, _, _, h0⟩
                omega))
              clear hD hN hx HNO HYES h48 hcond hne
              go_wp2
              go_ret2
              exact ⟨by rw [HR.out]; rfl, rfl⟩
        · have hlen' : ¬ (1 : Int) < l.length := by omega
          have hcond : ¬ (1 < l.length ∧ l.head? = some 48) := fun ⟨a, _⟩ => hlen a
          by_cases hmax : n ≤ 2147483648
          · have hmax' : ¬ (2147483648 : Int) < n := by omega
            have HR := Lib.hid (HYES.out n (by unfold valR; rw [if_pos ⟨hD, by omega, hne, hcond, by omega⟩, hN]))
            clear hD hN hx HNO HYES hcond hne
            go_wp2
            go_ret2
            exact ⟨by rw [HR.out]; rfl, rfl⟩
          · have hmax' : (2147483648 : Int) < n := by omega
            have HR := Lib.hid (HNO.out (by
              unfold valR
              rw [if_neg]
              rintro ⟨_, _, _, _, h0⟩
              omega))
            clear hD hN hx HNO HYES hcond hne
            go_wp2
            go_ret2
            exact ⟨by rw [HR.out]; rfl, rfl⟩

end Go.Proofs.YtanhljpmknfabaaDoor.LexVal
