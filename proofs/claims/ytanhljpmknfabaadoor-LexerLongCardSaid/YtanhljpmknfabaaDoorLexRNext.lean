/- Single tokens: the reference's walk. -/
import Derived.Test.YtanhljpmknfabaaDoorLexRSym
import Derived.Test.YtanhljpmknfabaaDoorLexVal
namespace Go.Proofs.YtanhljpmknfabaaDoor.LexRNext
set_option linter.unusedVariables false
open Go.RowKit Go.Proofs.YtanhljpmknfabaaDoor.LexModel Go.Proofs.YtanhljpmknfabaaDoor.LexMath Go.Proofs.YtanhljpmknfabaaDoor.LexSkip Go.Proofs.YtanhljpmknfabaaDoor.LexTok Go.Proofs.YtanhljpmknfabaaDoor.LexLex Go.Proofs.YtanhljpmknfabaaDoor.LexAwake Go.Proofs.YtanhljpmknfabaaDoor.LexRef1 Go.Proofs.YtanhljpmknfabaaDoor.LexRef2 Go.Proofs.YtanhljpmknfabaaDoor.LexVal Go.Proofs.YtanhljpmknfabaaDoor.LexRSym

theorem span_take (p : UInt8 → Bool) : ∀ (l : List UInt8) (k : Nat), k ≤ l.length → (l.take k).all p = true → (∀ h : k < l.length, p l[k] = false) → l.takeWhile p = l.take k
  | [], k, _, _, _ => by simp
  | c :: r, 0, _, _, h => by
    have := h (by simp)
    simp only [List.getElem_cons_zero] at this
    rw [List.takeWhile_cons, this]
    simp
  | c :: r, k + 1, hk, ha, h => by
    rw [List.take_succ_cons, List.all_cons, Bool.and_eq_true] at ha
    rw [List.takeWhile_cons, ha.1, List.take_succ_cons]
    simp only [if_true]
    rw [span_take p r k (by simpa using hk) ha.2 (fun hh => by have := h (by simpa using hh); simpa using this)]

theorem all_step (p : UInt8 → Bool) (l : List UInt8) (i : Nat) (h : i < l.length) : (l.take (i + 1)).all p = ((l.take i).all p && p l[i]) := by
  rw [List.take_succ_eq_append_getElem h, List.all_append]
  simp

theorem alnum_or (c : UInt8) : alnum c = (letters.contains c || digits.contains c) := by
  unfold alnum
  simp only [List.contains_eq_mem, List.mem_append, Bool.decide_or]

/-- A token as the reference returns it: without a place. -/
def tokV (k : Nat) (s : List UInt8) : Value := .agg #[.int .i64 k, .string (sv s), .int .i64 0, .int .i64 0]

theorem name_word (d : List UInt8) (c : UInt8) (h0 : d.head? = some c) (hc : letters.contains c = true) (ha : d.all alnum = true) (hr : reserved.contains d = false) : nameR d = decide (d.length ≤ 30) := by
  cases d with
  | nil => cases h0
  | cons a r =>
    cases h0
    rw [List.all_cons, Bool.and_eq_true] at ha
    unfold nameR
    simp only [okR, hc, ha.2, hr]
    have : decide (1 ≤ (c :: r).length) = true := decide_eq_true (by simp)
    rw [this]
    simp

set_option maxRecDepth 100000 in
set_option maxHeartbeats 20000000 in
theorem next_letter (l : List UInt8) (c : UInt8) (w : World) (hl : (l.length : Int) ≤ 1000000) (h0 : l.head? = some c) (hc : letters.contains c = true) :
    Calls Tryd.prog 33 #[.string (sv l)] w fun e w' => e = .returned (tokV (tokn l).1 (tokn l).2) ∧ Below w.heap.size w w' := by
  obtain ⟨he, hz0, hb⟩ := head_facts l c h0
  have hz := sv_size l
  have hq := tok_l l c h0 hc
  have hq : tokn l = if reserved.contains (l.takeWhile alnum) then (2, l.takeWhile alnum) else if (l.takeWhile alnum).length ≤ 30 then (1, l.takeWhile alnum) else (0, []) := hq
  have HC := Lib.hid (fun w1 => small_any c w1)
  rw [hc] at HC
  have HD0 := Lib.hid (head_span alnum l c h0 (by rw [alnum_or, hc]; rfl))
  generalize hT : tokn l = T at *
  have HQ := Lib.hid hq
  clear hq hT
  go_enter Tryd.func33, Tryd.ntmps33
  go_wp2_with (fail)
  refine (HC.out _).mono ?_
  rintro e w1 ⟨rfl, rfl⟩
  go_wp2_with (fail)
  go_loop [3] (fun s3 => ∃ i : Nat, (i : Int) ≤ l.length ∧ s3 = .int .i64 i ∧ Hid ((l.take i).all alnum = true)) (fun s3 => l.length - (intOf s3).toNat)
  case atStart => exact ⟨0, by omega, rfl, Lib.hid (by rw [List.take_zero]; rfl)⟩
  case round =>
    obtain ⟨i, hi, rfl, HK⟩ := hrel
    clear hz0 hb he
    by_cases hlt : i < l.length
    · have hlt' : (i : Int) < l.length := by omega
      obtain ⟨hbz, hcb⟩ := LexBlank.byte_at l i hlt
      have hst := all_step alnum l i hlt
      rw [HK.out, Bool.true_and, alnum_or] at hst
      have HSm := Lib.hid (fun w1 => small_any l[i] w1)
      have HDg := Lib.hid (fun w1 => digit_any l[i] w1)
      have HSP : Hid (alnum l[i] = false → l.takeWhile alnum = l.take i) := Lib.hid fun h => span_take alnum l i (by omega) HK.out (fun _ => h)
      have hal := alnum_or l[i]
      generalize alnum l[i] = ba at *
      generalize letters.contains l[i] = bs at *
      generalize digits.contains l[i] = bd at *
      generalize l[i] = ci at *
      cases bs
      · cases bd
        · have HSP := HSP.out hal
          have hq := HQ.out
          have hd0 := HD0.out
          rw [HSP] at hq hd0
          have hnm := name_word (l.take i) c hd0 hc HK.out
          have e1 : (sv l).extract 0 i = sv (l.take i) := sv_to l i
          have HRv := Lib.hid (fun w1 => refReserved_any (l.take i) w1)
          have HNm := Lib.hid (fun w1 => refName_any (l.take i) w1 (by rw [List.length_take]; omega))
          clear HSP hst hal HQ HD0 HK
          generalize nameR (l.take i) = nm at *
          generalize reserved.contains (l.take i) = rs at *
          generalize l.take i = d at *
          cases rs
          · have hnm := hnm rfl
            subst hnm
            by_cases h30 : d.length ≤ 30
            · rw [if_neg (by decide), if_pos h30] at hq
              rw [decide_eq_true h30] at HNm
              subst hq
              clear h30 h0
              go_wp2_with (fail)
              refine (HSm.out _).mono ?_
              rintro e w1 ⟨rfl, rfl⟩
              go_wp2_with (fail)
              refine (HDg.out _).mono ?_
              rintro e w1 ⟨rfl, rfl⟩
              go_wp2_with (fail)
              refine (HRv.out _).mono ?_
              rintro e w1 ⟨rfl, rfl⟩
              go_wp2_with (fail)
              refine (HNm.out _).mono ?_
              rintro e w1 ⟨rfl, rfl⟩
              go_wp2
              exact bodyPost_ret (v := tokV 1 d) (by simp [results, Tryd.results33, go_sem, tokV]) rfl ⟨rfl, by go_grown⟩
            · rw [if_neg (by decide), if_neg h30] at hq
              rw [decide_eq_false h30] at HNm
              subst hq
              clear h30 h0
              go_wp2_with (fail)
              refine (HSm.out _).mono ?_
              rintro e w1 ⟨rfl, rfl⟩
              go_wp2_with (fail)
              refine (HDg.out _).mono ?_
              rintro e w1 ⟨rfl, rfl⟩
              go_wp2_with (fail)
              refine (HRv.out _).mono ?_
              rintro e w1 ⟨rfl, rfl⟩
              go_wp2_with (fail)
              refine (HNm.out _).mono ?_
              rintro e w1 ⟨rfl, rfl⟩
              go_wp2
              exact bodyPost_ret (v := tokV 0 []) (by simp [results, Tryd.results33, go_sem, tokV]; rfl) rfl ⟨rfl, by go_grown⟩
          · rw [if_pos rfl] at hq
            subst hq
            clear h0
            go_wp2_with (fail)
            refine (HSm.out _).mono ?_
            rintro e w1 ⟨rfl, rfl⟩
            go_wp2_with (fail)
            refine (HDg.out _).mono ?_
            rintro e w1 ⟨rfl, rfl⟩
            go_wp2_with (fail)
            refine (HRv.out _).mono ?_
            rintro e w1 ⟨rfl, rfl⟩
            go_wp2
            exact bodyPost_ret (v := tokV 2 d) (by simp [results, Tryd.results33, go_sem, tokV]) rfl ⟨rfl, by go_grown⟩
        · have HK1 := Lib.hid hst
          clear hst HSP hal HK
          go_wp2_with (fail)
          refine (HSm.out _).mono ?_
          rintro e w1 ⟨rfl, rfl⟩
          go_wp2_with (fail)
          refine (HDg.out _).mono ?_
          rintro e w1 ⟨rfl, rfl⟩
          go_wp2
          go_round
          case rel => exact ⟨i + 1, by omega, by go_num, HK1⟩
          case measure => simp [intOf]; omega
      · have HK1 := Lib.hid hst
        clear hst HSP hal HK
        go_wp2_with (fail)
        refine (HSm.out _).mono ?_
        rintro e w1 ⟨rfl, rfl⟩
        go_wp2
        go_round
        case rel => exact ⟨i + 1, by omega, by go_num, HK1⟩
        case measure => simp [intOf]; omega
    · obtain rfl : i = l.length := by omega
      have HSP : Hid (l.takeWhile alnum = l) := Lib.hid ((span_take alnum l l.length (Nat.le_refl _) HK.out (fun h => absurd h (Nat.lt_irrefl _))).trans (List.take_length))
      have hq := HQ.out
      rw [HSP.out] at hq
      have hall := HK.out
      rw [List.take_length] at hall
      have hnm := name_word l c h0 hc hall
      have e1 : (sv l).extract 0 l.length = sv l := (sv_to l _).trans (by rw [List.take_length])
      have HRv := Lib.hid (fun w1 => refReserved_any l w1)
      have HNm := Lib.hid (fun w1 => refName_any l w1 hl)
      generalize nameR l = nm at *
      generalize reserved.contains l = rs at *
      clear HQ HSP HK hall
      cases rs
      · have hnm := hnm rfl
        subst hnm
        by_cases h30 : l.length ≤ 30
        · rw [if_neg (by decide), if_pos h30] at hq
          rw [decide_eq_true h30] at HNm
          subst hq
          clear h30 h0
          go_wp2_with (fail)
          refine (HRv.out _).mono ?_
          rintro e w1 ⟨rfl, rfl⟩
          go_wp2_with (fail)
          refine (HNm.out _).mono ?_
          rintro e w1 ⟨rfl, rfl⟩
          go_wp2
          exact bodyPost_ret (v := tokV 1 l) (by simp [results, Tryd.results33, go_sem, tokV]) rfl ⟨rfl, by go_grown⟩
        · rw [if_neg (by decide), if_neg h30] at hq
          rw [decide_eq_false h30] at HNm
          subst hq
          clear h30 h0
          go_wp2_with (fail)
          refine (HRv.out _).mono ?_
          rintro e w1 ⟨rfl, rfl⟩
          go_wp2_with (fail)
          refine (HNm.out _).mono ?_
          rintro e w1 ⟨rfl, rfl⟩
          go_wp2
          exact bodyPost_ret (v := tokV 0 []) (by simp [results, Tryd.results33, go_sem, tokV]; rfl) rfl ⟨rfl, by go_grown⟩
      · rw [if_pos rfl] at hq
        subst hq
        clear h0
        go_wp2_with (fail)
        refine (HRv.out _).mono ?_
        rintro e w1 ⟨rfl, rfl⟩
        go_wp2
        exact bodyPost_ret (v := tokV 2 l) (by simp [results, Tryd.results33, go_sem, tokV]) rfl ⟨rfl, by go_grown⟩

theorem number_val (d : List UInt8) (c : UInt8) (h0 : d.head? = some c) (hlc : letters.contains c = false) (hdc : digits.contains c = true) (hd : d.all isDig = true) : number d = (valR d).isSome := by
  have hsp := span_digits d
  rw [hd] at hsp
  have ht := tok_d d c h0 hlc hdc
  rw [eq_of_beq hsp] at ht
  cases hv : valR d with
  | some v =>
    have h1 := (val_some d v hv).1
    rw [ht] at h1
    split at h1
    · rename_i hn; rw [hn]; rfl
    · cases h1
  | none =>
    have h1 := val_none d hv
    rw [ht] at h1
    split at h1
    · exact absurd ⟨rfl, rfl⟩ h1
    · rename_i hn
      simpa using hn

set_option maxRecDepth 100000 in
set_option maxHeartbeats 20000000 in
theorem next_digit (l : List UInt8) (c : UInt8) (w : World) (hl : (l.length : Int) ≤ 1000000) (h0 : l.head? = some c) (hlc : letters.contains c = false) (hc : digits.contains c = true) :
    Calls Tryd.prog 33 #[.string (sv l)] w fun e w' => e = .returned (tokV (tokn l).1 (tokn l).2) ∧ Below w.heap.size w w' := by
  obtain ⟨he, hz0, hb⟩ := head_facts l c h0
  have hz := sv_size l
  have hq := tok_d l c h0 hlc hc
  have hq : tokn l = if number (l.takeWhile isDig) then (3, l.takeWhile isDig) else (0, []) := hq
  have HC := Lib.hid (fun w1 => small_any c w1)
  have HCd := Lib.hid (fun w1 => digit_any c w1)
  rw [hlc] at HC
  rw [hc] at HCd
  have HD0 := Lib.hid (head_span isDig l c h0 hc)
  generalize hT : tokn l = T at *
  have HQ := Lib.hid hq
  clear hq hT
  go_enter Tryd.func33, Tryd.ntmps33
  go_wp2_with (fail)
  refine (HC.out _).mono ?_
  rintro e w1 ⟨rfl, rfl⟩
  go_wp2_with (fail)
  refine (HCd.out _).mono ?_
  rintro e w1 ⟨rfl, rfl⟩
  go_wp2_with (fail)
  go_loop [3] (fun s3 => ∃ i : Nat, (i : Int) ≤ l.length ∧ s3 = .int .i64 i ∧ Hid ((l.take i).all isDig = true)) (fun s3 => l.length - (intOf s3).toNat)
  case atStart => exact ⟨0, by omega, rfl, Lib.hid (by rw [List.take_zero]; rfl)⟩
  case round =>
    obtain ⟨i, hi, rfl, HK⟩ := hrel
    clear hz0 hb he
    by_cases hlt : i < l.length
    · have hlt' : (i : Int) < l.length := by omega
      obtain ⟨hbz, hcb⟩ := LexBlank.byte_at l i hlt
      have hst := all_step isDig l i hlt
      rw [HK.out, Bool.true_and] at hst
      have HDg : Hid (∀ w1, Calls Tryd.prog 35 #[.int .u8 l[i].toNat] w1 fun e w' => e = .returned (.bool (isDig l[i])) ∧ w1 = w') := Lib.hid (fun w1 => digit_any l[i] w1)
      have HSP : Hid (isDig l[i] = false → l.takeWhile isDig = l.take i) := Lib.hid fun h => span_take isDig l i (by omega) HK.out (fun _ => h)
      generalize isDig l[i] = bd at *
      generalize l[i] = ci at *
      cases bd
      · have HSP := HSP.out rfl
        have hq := HQ.out
        have hd0 := HD0.out
        rw [HSP] at hq hd0
        have hnv := number_val (l.take i) c hd0 hlc hc HK.out
        rw [hnv] at hq
        have e1 : (sv l).extract 0 i = sv (l.take i) := sv_to l i
        have HVl := Lib.hid (fun w1 => refValue_any (l.take i) w1 (by rw [List.length_take]; omega))
        unfold valV at HVl
        clear HSP hst HQ HD0 HK hnv
        generalize ((valR (l.take i)).getD 0 : Nat) = n at *
        generalize (valR (l.take i)).isSome = b at *
        generalize l.take i = d at *
        cases b
        · rw [if_neg (by decide)] at hq
          subst hq
          clear h0
          go_wp2_with (fail)
          refine (HDg.out _).mono ?_
          rintro e w1 ⟨rfl, rfl⟩
          go_wp2_with (fail)
          refine (HVl.out _).mono ?_
          rintro e w1 ⟨rfl, rfl⟩
          go_wp2
          exact bodyPost_ret (v := tokV 0 []) (by simp [results, Tryd.results33, go_sem, tokV]; rfl) rfl ⟨rfl, by go_grown⟩
        · rw [if_pos rfl] at hq
          subst hq
          clear h0
          go_wp2_with (fail)
          refine (HDg.out _).mono ?_
          rintro e w1 ⟨rfl, rfl⟩
          go_wp2_with (fail)
          refine (HVl.out _).mono ?_
          rintro e w1 ⟨rfl, rfl⟩
          go_wp2
          exact bodyPost_ret (v := tokV 3 d) (by simp [results, Tryd.results33, go_sem, tokV]) rfl ⟨rfl, by go_grown⟩
      · have HK1 := Lib.hid hst
        clear hst HSP HK
        go_wp2_with (fail)
        refine (HDg.out _).mono ?_
        rintro e w1 ⟨rfl, rfl⟩
        go_wp2
        go_round
        case rel => exact ⟨i + 1, by omega, by go_num, HK1⟩
        case measure => simp [intOf]; omega
    · obtain rfl : i = l.length := by omega
      have HSP : Hid (l.takeWhile isDig = l) := Lib.hid ((span_take isDig l l.length (Nat.le_refl _) HK.out (fun h => absurd h (Nat.lt_irrefl _))).trans (List.take_length))
      have hq := HQ.out
      rw [HSP.out] at hq
      have hall := HK.out
      rw [List.take_length] at hall
      have hnv := number_val l c h0 hlc hc hall
      rw [hnv] at hq
      have e1 : (sv l).extract 0 l.length = sv l := (sv_to l _).trans (by rw [List.take_length])
      have HVl := Lib.hid (fun w1 => refValue_any l w1 hl)
      unfold valV at HVl
      clear HQ HSP HK hall hnv HD0
      generalize ((valR l).getD 0 : Nat) = n at *
      generalize (valR l).isSome = b at *
      cases b
      · rw [if_neg (by decide)] at hq
        subst hq
        clear h0
        go_wp2_with (fail)
        refine (HVl.out _).mono ?_
        rintro e w1 ⟨rfl, rfl⟩
        go_wp2
        exact bodyPost_ret (v := tokV 0 []) (by simp [results, Tryd.results33, go_sem, tokV]; rfl) rfl ⟨rfl, by go_grown⟩
      · rw [if_pos rfl] at hq
        subst hq
        clear h0
        go_wp2_with (fail)
        refine (HVl.out _).mono ?_
        rintro e w1 ⟨rfl, rfl⟩
        go_wp2
        exact bodyPost_ret (v := tokV 3 l) (by simp [results, Tryd.results33, go_sem, tokV]) rfl ⟨rfl, by go_grown⟩

end Go.Proofs.YtanhljpmknfabaaDoor.LexRNext
