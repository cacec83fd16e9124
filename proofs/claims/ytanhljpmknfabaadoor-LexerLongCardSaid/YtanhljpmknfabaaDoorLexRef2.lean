/- Names: the reference's walk, and that it answers as the program. -/
import Derived.Test.YtanhljpmknfabaaDoorLexRef1
import Derived.Test.YtanhljpmknfabaaDoorLexBlank
namespace Go.Proofs.YtanhljpmknfabaaDoor.LexRef2
set_option linter.unusedVariables false
open Go.RowKit Go.Proofs.YtanhljpmknfabaaDoor.LexModel Go.Proofs.YtanhljpmknfabaaDoor.LexMath Go.Proofs.YtanhljpmknfabaaDoor.LexSkip Go.Proofs.YtanhljpmknfabaaDoor.LexTok Go.Proofs.YtanhljpmknfabaaDoor.LexLex Go.Proofs.YtanhljpmknfabaaDoor.LexAwake Go.Proofs.YtanhljpmknfabaaDoor.LexRef1

/-- A small letter, and then small letters and digits; or nothing. -/
def okR : List UInt8 → Bool
  | [] => true
  | c :: r => letters.contains c && r.all alnum

def nameR (l : List UInt8) : Bool := okR l && (decide (1 ≤ l.length) && decide (l.length ≤ 30) && !reserved.contains l)

theorem okR_step (l : List UInt8) (i : Nat) (h : i < l.length) : okR (l.take (i + 1)) = (okR (l.take i) && (letters.contains l[i] || (decide (i ≠ 0) && digits.contains l[i]))) := by
  match l, h with
  | c :: r, h =>
    cases i with
    | zero => simp [okR]
    | succ j =>
      have hj : j < r.length := by simpa using h
      rw [List.take_succ_cons, List.take_succ_cons]
      simp only [okR, List.getElem_cons_succ]
      rw [List.take_succ_eq_append_getElem hj, List.all_append]
      have e : alnum r[j] = (letters.contains r[j] || digits.contains r[j]) := by
        unfold alnum
        simp only [List.contains_eq_mem, List.mem_append, Bool.decide_or]
      simp only [List.all_cons, List.all_nil, Bool.and_true, e]
      simp [Bool.and_assoc]

theorem okR_all (l : List UInt8) (i : Nat) (h : okR (l.take i) = false) : okR l = false := by
  cases l with
  | nil => simp [okR] at h
  | cons c r =>
    cases i with
    | zero => simp [okR] at h
    | succ j =>
      rw [List.take_succ_cons] at h
      simp only [okR, Bool.and_eq_false_iff] at h ⊢
      rcases h with h | h
      · exact Or.inl h
      · right
        cases hh : r.all alnum with
        | false => rfl
        | true =>
          rw [List.all_eq_true] at hh
          have : (r.take j).all alnum = true := List.all_eq_true.2 fun x hx => hh x (List.mem_of_mem_take hx)
          rw [this] at h
          exact h

theorem span_all (l : List UInt8) : (l.takeWhile alnum == l) = l.all alnum := by
  induction l with
  | nil => rfl
  | cons c r ih =>
    rw [List.takeWhile_cons, List.all_cons]
    cases alnum c with
    | true =>
      simp only [if_true, Bool.true_and]
      rw [← ih]
      show ((c == c) && (List.takeWhile alnum r == r)) = _
      simp
    | false => rfl

/-- The program's names are the reference's. -/
theorem name_eq (l : List UInt8) : isName l = nameR l := by
  unfold isName nameR
  cases l with
  | nil => rfl
  | cons c r =>
    cases hc : letters.contains c with
    | true =>
      have hal : alnum c = true := by
        unfold alnum
        simp only [List.contains_eq_mem, List.mem_append, decide_eq_true_eq] at hc ⊢
        exact Or.inl hc
      have hok : okR (c :: r) = ((c :: r).takeWhile alnum == c :: r) := by
        rw [span_all, List.all_cons, hal]
        simp only [okR, hc]
      rw [hok]
      have ht := tok_l (c :: r) c rfl hc
      have ht : tokn (c :: r) = if reserved.contains ((c :: r).takeWhile alnum) then (2, (c :: r).takeWhile alnum) else if ((c :: r).takeWhile alnum).length ≤ 30 then (1, (c :: r).takeWhile alnum) else (0, []) := ht
      rw [ht]
      generalize hw : (c :: r).takeWhile alnum = wd
      by_cases he : wd = c :: r
      · rw [he]
        by_cases hr : reserved.contains (c :: r) = true
        · rw [if_pos hr, hr]; simp
        · rw [if_neg hr]
          have hr : reserved.contains (c :: r) = false := by simpa using hr
          by_cases h30 : (c :: r).length ≤ 30
          · rw [if_pos h30, hr]; simp; simpa using h30
          · rw [if_neg h30, hr]; simp; simpa using h30
      · have hb : (wd == c :: r) = false := beq_eq_false_iff_ne.2 he
        rw [hb]
        split
        · simp [hb]
        · split
          · simp [hb]
          · simp
    | false =>
      have hok : okR (c :: r) = false := by simp only [okR, hc, Bool.false_and]
      rw [hok, Bool.false_and]
      cases hd : digits.contains c with
      | true =>
        rw [tok_d (c :: r) c rfl hc hd]
        split <;> simp
      | false =>
        rw [tok_s (c :: r) c rfl hc hd]
        split <;> simp

set_option maxRecDepth 100000 in
set_option maxHeartbeats 4000000 in
theorem refName_any (l : List UInt8) (w : World) (hl : (l.length : Int) ≤ 1000000) :
    Calls Tryd.prog 20 #[.string (sv l)] w fun e w' => e = .returned (.bool (nameR l)) ∧ w = w' := by
  have hz := sv_size l
  have HRs := Lib.hid (refReserved_any l w)
  generalize hR : nameR l = R
  have HRR := Lib.hid hR
  clear hR
  go_enter Tryd.func20, Tryd.ntmps20
  go_wp2_with (fail)
  go_loop [3] (fun s3 => ∃ i : Nat, (i : Int) ≤ l.length ∧ s3 = .int .i64 i ∧ Hid (okR (l.take i) = true)) (fun s3 => l.length - (intOf s3).toNat)
  case atStart => exact ⟨0, by omega, rfl, Lib.hid (by rw [List.take_zero]; rfl)⟩
  case round =>
    obtain ⟨i, hi, rfl, HK⟩ := hrel
    by_cases hlt : i < l.length
    · have hlt' : (i : Int) < l.length := by omega
      obtain ⟨hbz, hcb⟩ := LexBlank.byte_at l i hlt
      have hst := okR_step l i hlt
      have HSm := Lib.hid (small_any l[i] w)
      have HDg := Lib.hid (digit_any l[i] w)
      have HF : Hid (okR (l.take (i + 1)) = false → R = false) := Lib.hid fun h => by
        rw [← HRR.out]; unfold nameR; rw [okR_all l _ h]; rfl
      rw [HK.out, Bool.true_and] at hst
      generalize letters.contains l[i] = bs at *
      generalize digits.contains l[i] = bd at *
      generalize l[i] = c at *
      cases bs
      · by_cases h0 : i = 0
        · subst h0
          have HR := Lib.hid (HF.out (by rw [hst]; simp))
          clear hst HF
          go_wp2_with (fail)
          refine HSm.out.mono ?_
          rintro e w1 ⟨rfl, rfl⟩
          go_wp2
          go_ret
          exact ⟨by rw [HR.out]; rfl, rfl⟩
        · have h0' : ((i : Int) == 0) = false := beq_eq_false_iff_ne.2 (by omega)
          cases bd
          · have HR := Lib.hid (HF.out (by rw [hst]; simp))
            clear hst HF
            go_wp2_with (fail)
            refine HSm.out.mono ?_
            rintro e w1 ⟨rfl, rfl⟩
            go_wp2_with (fail)
            refine HDg.out.mono ?_
            rintro e w1 ⟨rfl, rfl⟩
            go_wp2
            go_ret
            exact ⟨by rw [HR.out]; rfl, rfl⟩
          · have HK1 : Hid (okR (l.take (i + 1)) = true) := Lib.hid (by rw [hst]; simp [h0])
            clear hst HF HK
            go_wp2_with (fail)
            refine HSm.out.mono ?_
            rintro e w1 ⟨rfl, rfl⟩
            go_wp2_with (fail)
            refine HDg.out.mono ?_
            rintro e w1 ⟨rfl, rfl⟩
            go_wp2
            go_round
            case rel => exact ⟨i + 1, by omega, by go_num, HK1⟩
            case measure => simp [intOf]; omega
      · have HK1 : Hid (okR (l.take (i + 1)) = true) := Lib.hid (by rw [hst]; simp)
        clear hst HF HK
        go_wp2_with (fail)
        refine HSm.out.mono ?_
        rintro e w1 ⟨rfl, rfl⟩
        go_wp2
        go_round
        case rel => exact ⟨i + 1, by omega, by go_num, HK1⟩
        case measure => simp [intOf]; omega
    · obtain rfl : i = l.length := by omega
      have HN : Hid (R = (decide (1 ≤ l.length) && decide (l.length ≤ 30) && !reserved.contains l)) := Lib.hid (by
        have := HK.out
        rw [List.take_length] at this
        rw [← HRR.out]; unfold nameR; rw [this, Bool.true_and])
      clear HRR
      generalize reserved.contains l = rs at *
      clear HK
      by_cases h1 : 1 ≤ l.length
      · have h1' : (1 : Int) ≤ l.length := by omega
        by_cases h30 : l.length ≤ 30
        · have h30' : (l.length : Int) ≤ 30 := by omega
          have HX : Hid (R = !rs) := Lib.hid (by rw [HN.out, decide_eq_true h1, decide_eq_true h30]; rfl)
          go_wp2_with (fail)
          refine HRs.out.mono ?_
          rintro e w1 ⟨rfl, rfl⟩
          go_wp2
          go_ret
          exact ⟨by rw [HX.out]; rfl, rfl⟩
        · have h30' : ¬ (l.length : Int) ≤ 30 := by omega
          have HX : Hid (R = false) := Lib.hid (by rw [HN.out, decide_eq_true h1, decide_eq_false h30]; rfl)
          go_wp2
          go_ret
          exact ⟨by rw [HX.out]; rfl, rfl⟩
      · have h1' : ¬ (1 : Int) ≤ l.length := by omega
        have HX : Hid (R = false) := Lib.hid (by rw [HN.out, decide_eq_false h1]; rfl)
        go_wp2
        go_ret
        exact ⟨by rw [HX.out]; rfl, rfl⟩

end Go.Proofs.YtanhljpmknfabaaDoor.LexRef2
