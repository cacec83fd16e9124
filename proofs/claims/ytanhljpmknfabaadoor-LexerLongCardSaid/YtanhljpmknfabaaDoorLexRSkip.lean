/- Blanks and comments: the reference's walk. -/
import Derived.Test.YtanhljpmknfabaaDoorLexRef2
namespace Go.Proofs.YtanhljpmknfabaaDoor.LexRSkip
set_option linter.unusedVariables false
open Go.RowKit Go.Proofs.YtanhljpmknfabaaDoor.LexModel Go.Proofs.YtanhljpmknfabaaDoor.LexMath Go.Proofs.YtanhljpmknfabaaDoor.LexSkip Go.Proofs.YtanhljpmknfabaaDoor.LexTok Go.Proofs.YtanhljpmknfabaaDoor.LexLex Go.Proofs.YtanhljpmknfabaaDoor.LexAwake Go.Proofs.YtanhljpmknfabaaDoor.LexRef1 Go.Proofs.YtanhljpmknfabaaDoor.LexRef2

/-- Where the next token begins, from within a comment. -/
def nextC (l : List UInt8) (k : Nat) : Nat := l.length - (sk true (l.drop k)).length

theorem next_blank (l : List UInt8) (k : Nat) (h : k < l.length) (hb : blanks.contains l[k] = true) : next l (k + 1) = next l k := by
  unfold next
  conv => rhs; rw [List.drop_eq_getElem_cons h]
  simp only [sk]
  rw [if_pos hb]
theorem nextC_in (l : List UInt8) (k : Nat) (h : k < l.length) (hc : (l[k] == 10) = false) : nextC l (k + 1) = nextC l k := by
  unfold nextC
  conv => rhs; rw [List.drop_eq_getElem_cons h]
  simp only [sk]
  rw [if_neg (by rw [hc]; decide)]
theorem nextC_out (l : List UInt8) (k : Nat) (h : k < l.length) (hc : (l[k] == 10) = true) : next l k = nextC l k := by
  unfold nextC next
  rw [List.drop_eq_getElem_cons h]
  have e := eq_of_beq hc
  simp only [sk]
  rw [if_pos hc, if_pos (by rw [e]; decide)]
theorem nextC_end (l : List UInt8) : next l l.length = nextC l l.length := by
  unfold nextC next
  rw [List.drop_length]
  rfl
theorem next_begin (l : List UInt8) (k : Nat) (h : k + 1 < l.length) (h1 : (l[k] == 47) = true) (h2 : (l[k + 1] == 47) = true) : nextC l k = next l k := by
  have h0 : (l[k] == 10) = false := by rw [eq_of_beq h1]; rfl
  rw [← nextC_in l k (by omega) h0]
  unfold nextC next
  conv => rhs; rw [List.drop_eq_getElem_cons (show k < l.length by omega)]
  have e1 := eq_of_beq h1
  have e2 := eq_of_beq h2
  have hh : (l.drop (k + 1)).head? = some l[k + 1] := by rw [List.drop_eq_getElem_cons h]; rfl
  simp only [sk]
  rw [if_neg (by rw [e1]; decide), hh, h1, e2]
  rfl
theorem next_here (l : List UInt8) (k : Nat) (h : k < l.length) (hb : blanks.contains l[k] = false) (hc : (l[k] == 47) = false ∨ (∀ h2 : k + 1 < l.length, (l[k + 1] == 47) = false)) : next l k = k := by
  unfold next
  rw [List.drop_eq_getElem_cons h]
  have h3 : (l[k] == 47 && (l.drop (k + 1)).head? == some 47) = false := by
    rcases hc with h1 | h1
    · rw [h1]; rfl
    · by_cases h2 : k + 1 < l.length
      · rw [List.drop_eq_getElem_cons h2, List.head?_cons]
        have := h1 h2
        rw [Bool.and_eq_false_iff]
        right
        rw [Option.some_beq_some]
        exact this
      · rw [List.drop_eq_nil_of_le (by omega)]
        simp
  simp only [sk]
  rw [if_neg (by rw [hb]; decide), if_neg (by rw [h3]; decide), List.length_cons, List.length_drop]
  omega

theorem not_both {l : List UInt8} {k j : Nat} (hk : k < l.length) {hj : j < l.length} (e : j = k) (h1 : (l[k] == 47) = true) (h2 : (l[j] == 10) = true) : False := by
  subst e
  have e1 := eq_of_beq h1
  have e2 := eq_of_beq h2
  exact absurd (e1.symm.trans e2) (by decide)

set_option maxRecDepth 100000 in
set_option maxHeartbeats 8000000 in
theorem refSkip_any (l : List UInt8) (pos : Nat) (w : World) (hl : (l.length : Int) ≤ 1000000) (hp : pos ≤ l.length) :
    Calls Tryd.prog 32 #[.string (sv l), .int .i64 pos] w fun e w' => e = .returned (.int .i64 (next l pos)) ∧ w = w' := by
  have hz := sv_size l
  have hp' : (pos : Int) ≤ l.length := by omega
  generalize hX : next l pos = X
  have HX := Lib.hid hX
  clear hX
  go_enter Tryd.func32, Tryd.ntmps32
  go_wp2_with (fail)
  go_loop [1] (fun s1 => ∃ k : Nat, (k : Int) ≤ l.length ∧ s1 = .int .i64 k ∧ Hid (next l k = X)) (fun s1 => l.length - (intOf s1).toNat)
  case atStart => exact ⟨pos, hp', rfl, HX⟩
  case round =>
    obtain ⟨k, hk, rfl, HK⟩ := hrel
    clear HX
    by_cases hlt : k < l.length
    · have hlt' : (k : Int) < l.length := by omega
      obtain ⟨hbz, hcb⟩ := LexBlank.byte_at l k hlt
      have t4 : (((l[k].toNat : Nat) : Int) == 32) = (l[k] == 32) := LexBlank.u8_test l[k] 32
      have t5 : (((l[k].toNat : Nat) : Int) == 9) = (l[k] == 9) := LexBlank.u8_test l[k] 9
      have t6 : (((l[k].toNat : Nat) : Int) == 10) = (l[k] == 10) := LexBlank.u8_test l[k] 10
      cases hb : blanks.contains l[k]
      · have hb2 := hb
        rw [LexBlank.blanks_iff] at hb2
        simp only [Bool.or_eq_false_iff] at hb2
        obtain ⟨⟨u1, u2⟩, u3⟩ := hb2
        rw [u1] at t4
        rw [u2] at t5
        rw [u3] at t6
        by_cases h1 : (l[k] == 47) = true
        · have t1 : (((l[k].toNat : Nat) : Int) == 47) = true := (LexBlank.u8_test l[k] 47).trans h1
          by_cases h2 : k + 1 < l.length
          · have h2' : (k : Int) + 1 < l.length := by omega
            obtain ⟨hbz2, hcb2⟩ := LexBlank.byte_at l (k + 1) h2
            by_cases h3 : (l[k + 1] == 47) = true
            · have t2 : (((l[k + 1].toNat : Nat) : Int) == 47) = true := (LexBlank.u8_test l[k + 1] 47).trans h3
              have HC := Lib.hid ((next_begin l k h2 h1 h3).trans HK.out)
              have HNE : Hid (∀ j (hj : j < l.length), (l[j] == 10) = true → j ≠ k) := Lib.hid fun j hj e hjk => not_both hlt hjk h1 e
              generalize l[k] = c at *
              generalize l[k + 1] = c1 at *
              clear HK hb u1 u2 u3 h1 h3
              go_wp2_with (fail)
              go_loop [1] (fun s1 => ∃ j : Nat, (k : Int) ≤ j ∧ (j : Int) ≤ l.length ∧ s1 = .int .i64 j ∧ Hid (nextC l j = X)) (fun s1 => l.length - (intOf s1).toNat)
              case atStart => exact ⟨k, by omega, by omega, rfl, HC⟩
              case round =>
                obtain ⟨j, hkj, hj, rfl, HJ⟩ := hrel
                clear HC hbz hcb hbz2 hcb2 t1 t2 t4 t5 t6
                by_cases hjl : j < l.length
                · have hjl' : (j : Int) < l.length := by omega
                  obtain ⟨hbz, hcb⟩ := LexBlank.byte_at l j hjl
                  cases h4 : (l[j] == 10)
                  · have HJ1 := Lib.hid ((nextC_in l j hjl h4).trans HJ.out)
                    have t1 : (((l[j].toNat : Nat) : Int) != 10) = true := LexBlank.u8_ne (LexBlank.u8_test l[j] 10) h4
                    generalize l[j] = cj at *
                    clear HJ h4
                    go_wp2
                    go_round
                    case rel => exact ⟨j + 1, by omega, by omega, by go_num, HJ1⟩
                    case measure => simp [intOf]; omega
                  · have HJ1 := Lib.hid ((nextC_out l j hjl h4).trans HJ.out)
                    have hne := HNE.out j hjl h4
                    have t1 : (((l[j].toNat : Nat) : Int) != 10) = false := (congrArg not (LexBlank.u8_test l[j] 10)).trans (by rw [h4]; rfl)
                    have hkj' : (k : Int) < j := by omega
                    generalize l[j] = cj at *
                    clear HJ h4 HNE hne
                    go_wp2
                    go_round
                    case rel => exact ⟨j, by omega, by go_num, HJ1⟩
                    case measure => simp [intOf]; omega
                · obtain rfl : j = l.length := by omega
                  have HJ1 := Lib.hid ((nextC_end l).trans HJ.out)
                  clear HJ HNE
                  go_wp2
                  go_round
                  case rel => exact ⟨l.length, by omega, by go_num, HJ1⟩
                  case measure => simp [intOf]; omega
            · have h3 : (l[k + 1] == 47) = false := by simpa using h3
              have t2 : (((l[k + 1].toNat : Nat) : Int) == 47) = false := (LexBlank.u8_test l[k + 1] 47).trans h3
              have HH : Hid (k = X) := Lib.hid ((next_here l k hlt hb (Or.inr fun _ => h3)).symm.trans HK.out)
              generalize l[k] = c at *
              generalize l[k + 1] = c1 at *
              clear HK hb u1 u2 u3 h1 h3
              go_wp2
              go_ret
              exact ⟨by rw [← HH.out]; rfl, rfl⟩
          · have h2' : ¬ (k : Int) + 1 < l.length := by omega
            have HH : Hid (k = X) := Lib.hid ((next_here l k hlt hb (Or.inr fun h => absurd h h2)).symm.trans HK.out)
            generalize l[k] = c at *
            clear HK hb u1 u2 u3 h1
            go_wp2
            go_ret
            exact ⟨by rw [← HH.out]; rfl, rfl⟩
        · have h1 : (l[k] == 47) = false := by simpa using h1
          have t1 : (((l[k].toNat : Nat) : Int) == 47) = false := (LexBlank.u8_test l[k] 47).trans h1
          have HH : Hid (k = X) := Lib.hid ((next_here l k hlt hb (Or.inl h1)).symm.trans HK.out)
          generalize l[k] = c at *
          clear HK hb u1 u2 u3 h1
          go_wp2
          go_ret
          exact ⟨by rw [← HH.out]; rfl, rfl⟩
      · have HK1 := Lib.hid ((next_blank l k hlt hb).trans HK.out)
        rw [LexBlank.blanks_iff] at hb
        generalize (l[k] == 32) = b32 at *
        generalize (l[k] == 9) = b9 at *
        generalize (l[k] == 10) = b10 at *
        generalize l[k] = c at *
        clear HK
        cases b32
        · cases b9
          · cases b10
            · cases hb
            · go_wp2
              go_round
              case rel => exact ⟨k + 1, by omega, by go_num, HK1⟩
              case measure => simp [intOf]; omega
          · go_wp2
            go_round
            case rel => exact ⟨k + 1, by omega, by go_num, HK1⟩
            case measure => simp [intOf]; omega
        · go_wp2
          go_round
          case rel => exact ⟨k + 1, by omega, by go_num, HK1⟩
          case measure => simp [intOf]; omega
    · obtain rfl : k = l.length := by omega
      have HH : Hid (l.length = X) := Lib.hid (by
        rw [← HK.out]
        unfold next
        rw [List.drop_length]
        rfl)
      clear HK
      go_wp2
      go_ret
      exact ⟨by rw [← HH.out]; rfl, rfl⟩

end Go.Proofs.YtanhljpmknfabaaDoor.LexRSkip
