/- Blanks and comments as the laws about lexer see them: the walk of 'blank'. -/
import Derived.Test.YtanhljpmknfabaaDoorLexAwake
namespace Go.Proofs.YtanhljpmknfabaaDoor.LexBlank
set_option linter.unusedVariables false
open Go.RowKit Go.Proofs.YtanhljpmknfabaaDoor.LexModel Go.Proofs.YtanhljpmknfabaaDoor.LexMath Go.Proofs.YtanhljpmknfabaaDoor.LexSkip Go.Proofs.YtanhljpmknfabaaDoor.LexTok Go.Proofs.YtanhljpmknfabaaDoor.LexLex Go.Proofs.YtanhljpmknfabaaDoor.LexAwake

/-- Whether bytes are blanks and comments; 'true': within a comment; e: whether a comment may end with the text. -/
def bl (e : Bool) : Bool → List UInt8 → Bool
  | false, [] => true
  | true, [] => e
  | true, c :: l => if c == 10 then bl e false l else bl e true l
  | false, c :: l => if c == 47 && l.head? == some 47 then bl e true l else blanks.contains c && bl e false l

theorem drop_cons (l : List UInt8) (i : Nat) (h : i < l.length) : l.drop i = l[i] :: l.drop (i + 1) := List.drop_eq_getElem_cons h

theorem byte_at (l : List UInt8) (i : Nat) (h : i < l.length) : ∃ hz : i < (sv l).size, (sv l)[i]'hz = l[i] := ⟨by rw [sv_size]; exact h, rfl⟩

theorem bl_in (e : Bool) (l : List UInt8) (i : Nat) (h : i < l.length) (hc : (l[i] == 10) = false) : bl e true (l.drop i) = bl e true (l.drop (i + 1)) := by
  rw [drop_cons l i h]
  simp only [bl, hc]
  rfl
theorem bl_out (e : Bool) (l : List UInt8) (i : Nat) (h : i < l.length) (hc : (l[i] == 10) = true) : bl e true (l.drop i) = bl e false (l.drop (i + 1)) := by
  rw [drop_cons l i h]
  simp only [bl, hc]
  rfl
theorem bl_end (e : Bool) (l : List UInt8) : bl e true (l.drop l.length) = e := by rw [List.drop_length]; rfl
theorem bl_begin (e : Bool) (l : List UInt8) (i : Nat) (h : i + 1 < l.length) (h1 : (l[i] == 47) = true) (h2 : (l[i + 1] == 47) = true) : bl e false (l.drop i) = bl e true (l.drop i) := by
  have h3 : (l[i] == 10) = false := by rw [eq_of_beq h1]; rfl
  rw [bl_in e l i (by omega) h3, drop_cons l i (by omega), drop_cons l (i + 1) h]
  have h4 := eq_of_beq h2
  simp only [bl, h1, h4, List.head?_cons]
  rfl
theorem bl_blank (e : Bool) (l : List UInt8) (i : Nat) (h : i < l.length) (h1 : (l[i] == 47) = false ∨ (∀ h2 : i + 1 < l.length, (l[i + 1] == 47) = false)) : bl e false (l.drop i) = (blanks.contains l[i] && bl e false (l.drop (i + 1))) := by
  rw [drop_cons l i h]
  have h3 : (l[i] == 47 && (l.drop (i + 1)).head? == some 47) = false := by
    rcases h1 with h1 | h1
    · rw [h1]; rfl
    · by_cases h2 : i + 1 < l.length
      · rw [drop_cons l (i + 1) h2, List.head?_cons]
        have := h1 h2
        rw [Bool.and_eq_false_iff]
        right
        rw [Option.some_beq_some]
        exact this
      · rw [List.drop_eq_nil_of_le (by omega)]
        simp
  simp only [bl, h3]
  rfl

theorem blanks_iff (c : UInt8) : blanks.contains c = ((c == 32) || (c == 9) || (c == 10)) := by
  unfold blanks
  simp only [List.contains_cons, List.contains_nil, Bool.or_false, Bool.or_assoc]

theorem u8_test (c : UInt8) (k : UInt8) : (((c.toNat : Nat) : Int) == ((k.toNat : Nat) : Int)) = (c == k) := by
  by_cases h : c = k
  · subst h; simp
  · rw [beq_eq_false_iff_ne.2 h, beq_eq_false_iff_ne]
    exact byte_ne h

theorem u8_ne {a b : Int} {c k : UInt8} (h : (a == b) = (c == k)) (h2 : (c == k) = false) : (a != b) = true := by
  show (!(a == b)) = true
  rw [h, h2]
  rfl

theorem blank47 {c : UInt8} (h : (c == 47) = true) : blanks.contains c = false := by
  have := eq_of_beq h
  subst this
  rfl

theorem bl_slash (e : Bool) (l : List UInt8) (i : Nat) (h : i < l.length) (h1 : (l[i] == 47) = true) (hx : ∀ h2 : i + 1 < l.length, (l[i + 1] == 47) = false) : bl e false (l.drop i) = false :=
  (bl_blank e l i h (Or.inr hx)).trans (congrArg (fun x => x && bl e false (l.drop (i + 1))) (blank47 h1))

set_option maxRecDepth 100000 in
set_option maxHeartbeats 8000000 in
theorem blank_any (l : List UInt8) (e : Bool) (w : World) (hl : (l.length : Int) ≤ 1000000) :
    Calls Tryd.prog 28 #[.string (sv l), .bool e] w fun r w' => r = .returned (.bool (bl e false l)) ∧ w = w' := by
  have hz := sv_size l
  generalize hr : bl e false l = R
  have HR := Lib.hid hr
  clear hr
  go_enter Tryd.func28, Tryd.ntmps28
  go_wp2_with (fail)
  go_loop [5] (fun s5 => ∃ i : Nat, (i : Int) ≤ l.length + 1 ∧ s5 = .int .i64 i ∧ Hid (bl e false (l.drop i) = R)) (fun s5 => l.length + 1 - (intOf s5).toNat)
  case atStart => exact ⟨0, by omega, rfl, Lib.hid HR.out⟩
  case round =>
    obtain ⟨i, hi, rfl, HI⟩ := hrel
    by_cases hlt : i < l.length
    · have hlt' : (i : Int) < l.length := by omega
      obtain ⟨hbz, hcb⟩ := byte_at l i hlt
      by_cases h1 : (l[i] == 47) = true
      · by_cases h2 : i + 1 < l.length
        · obtain ⟨hbz2, hcb2⟩ := byte_at l (i + 1) h2
          by_cases h3 : (l[i + 1] == 47) = true
          · have HBB := Lib.hid ((bl_begin e l i h2 h1 h3).symm.trans HI.out)
            have t1 : (((l[i].toNat : Nat) : Int) == 47) = true := (u8_test l[i] 47).trans h1
            have t2 : (((l[i + 1].toNat : Nat) : Int) == 47) = true := (u8_test l[i + 1] 47).trans h3
            have h2' : (i : Int) + 1 < l.length := by omega
            generalize l[i] = ci at *
            generalize l[i + 1] = ci1 at *
            clear HI HR h1 h3
            go_wp2_with (fail)
            go_loop [5] (fun s5 => ∃ j : Nat, (i : Int) ≤ j ∧ (j : Int) ≤ l.length ∧ s5 = .int .i64 j ∧ Hid (bl e true (l.drop j) = R)) (fun s5 => l.length - (intOf s5).toNat)
            case atStart => exact ⟨i, by omega, by omega, rfl, HBB⟩
            case round =>
              obtain ⟨j, hij, hj, rfl, HJ⟩ := hrel
              clear hbz hcb hbz2 hcb2 t1 t2 HBB
              by_cases hjl : j < l.length
              · have hjl' : (j : Int) < l.length := by omega
                obtain ⟨hbz, hcb⟩ := byte_at l j hjl
                cases h4 : (l[j] == 10)
                · have HJ1 := Lib.hid ((bl_in e l j hjl h4).symm.trans HJ.out)
                  have t1 : (((l[j].toNat : Nat) : Int) == 10) = false := (u8_test l[j] 10).trans h4
                  generalize l[j] = cj at *
                  clear HJ h4
                  go_wp2
                  go_round
                  case rel => exact ⟨j + 1, by omega, by omega, by go_num, HJ1⟩
                  case measure => simp [intOf]; omega
                · have HJ1 := Lib.hid ((bl_out e l j hjl h4).symm.trans HJ.out)
                  have t1 : (((l[j].toNat : Nat) : Int) == 10) = true := (u8_test l[j] 10).trans h4
                  have t2 : ((j : Int) == l.length) = false := beq_eq_false_iff_ne.2 (by omega)
                  generalize l[j] = cj at *
                  clear HJ h4
                  go_wp2
                  go_round
                  case rel => exact ⟨j + 1, by omega, by go_num, HJ1⟩
                  case measure => simp [intOf]; omega
              · obtain rfl : j = l.length := by omega
                have HE : Hid (e = R) := Lib.hid ((bl_end e l).symm.trans HJ.out)
                clear HJ
                cases e
                · go_wp2
                  go_ret
                  exact ⟨by rw [← HE.out]; rfl, rfl⟩
                · have HJ1 : Hid (bl true false (l.drop (l.length + 1)) = R) := Lib.hid (by rw [List.drop_eq_nil_of_le (by omega)]; exact HE.out)
                  go_wp2
                  go_round
                  case rel => exact ⟨l.length + 1, by omega, by go_num, HJ1⟩
                  case measure => simp [intOf]; omega
          · have h3 : (l[i + 1] == 47) = false := by simpa using h3
            have HB2 : Hid (false = R) := Lib.hid ((bl_slash e l i hlt h1 (fun _ => h3)).symm.trans HI.out)
            have t1 : (((l[i].toNat : Nat) : Int) == 47) = true := (u8_test l[i] 47).trans h1
            have t3 : (((l[i + 1].toNat : Nat) : Int) == 47) = false := (u8_test l[i + 1] 47).trans h3
            have t4 : (((l[i].toNat : Nat) : Int) != 32) = true := u8_ne (u8_test l[i] 32) (by rw [eq_of_beq h1]; rfl)
            have t5 : (((l[i].toNat : Nat) : Int) != 9) = true := u8_ne (u8_test l[i] 9) (by rw [eq_of_beq h1]; rfl)
            have t6 : (((l[i].toNat : Nat) : Int) != 10) = true := u8_ne (u8_test l[i] 10) (by rw [eq_of_beq h1]; rfl)
            have h2' : (i : Int) + 1 < l.length := by omega
            generalize l[i] = ci at *
            generalize l[i + 1] = ci1 at *
            clear HI HR h1 h3
            go_wp2
            go_ret
            exact ⟨by rw [← HB2.out]; rfl, rfl⟩
        · have HB2 : Hid (false = R) := Lib.hid ((bl_slash e l i hlt h1 (fun h => absurd h h2)).symm.trans HI.out)
          have t1 : (((l[i].toNat : Nat) : Int) == 47) = true := (u8_test l[i] 47).trans h1
          have t4 : (((l[i].toNat : Nat) : Int) != 32) = true := u8_ne (u8_test l[i] 32) (by rw [eq_of_beq h1]; rfl)
          have t5 : (((l[i].toNat : Nat) : Int) != 9) = true := u8_ne (u8_test l[i] 9) (by rw [eq_of_beq h1]; rfl)
          have t6 : (((l[i].toNat : Nat) : Int) != 10) = true := u8_ne (u8_test l[i] 10) (by rw [eq_of_beq h1]; rfl)
          have h2' : ¬ (i : Int) + 1 < l.length := by omega
          generalize l[i] = ci at *
          clear HI HR h1
          go_wp2
          go_ret
          exact ⟨by rw [← HB2.out]; rfl, rfl⟩
      · have h1 : (l[i] == 47) = false := by simpa using h1
        have HB1 := Lib.hid ((bl_blank e l i hlt (Or.inl h1)).symm.trans HI.out)
        have t1 : (((l[i].toNat : Nat) : Int) == 47) = false := (u8_test l[i] 47).trans h1
        have t4 : (((l[i].toNat : Nat) : Int) != 32) = !(l[i] == 32) := congrArg not (u8_test l[i] 32)
        have t5 : (((l[i].toNat : Nat) : Int) != 9) = !(l[i] == 9) := congrArg not (u8_test l[i] 9)
        have t6 : (((l[i].toNat : Nat) : Int) != 10) = !(l[i] == 10) := congrArg not (u8_test l[i] 10)
        rw [blanks_iff] at HB1
        generalize (l[i] == 32) = b32 at *
        generalize (l[i] == 9) = b9 at *
        generalize (l[i] == 10) = b10 at *
        generalize l[i] = ci at *
        clear HI HR h1
        cases b32
        · cases b9
          · cases b10
            · have HB2 : Hid (false = R) := Lib.hid HB1.out
              go_wp2
              go_ret
              exact ⟨by rw [← HB2.out]; rfl, rfl⟩
            · have HB2 : Hid (bl e false (l.drop (i + 1)) = R) := Lib.hid HB1.out
              go_wp2
              go_round
              case rel => exact ⟨i + 1, by omega, by go_num, HB2⟩
              case measure => simp [intOf]; omega
          · have HB2 : Hid (bl e false (l.drop (i + 1)) = R) := Lib.hid HB1.out
            go_wp2
            go_round
            case rel => exact ⟨i + 1, by omega, by go_num, HB2⟩
            case measure => simp [intOf]; omega
        · have HB2 : Hid (bl e false (l.drop (i + 1)) = R) := Lib.hid HB1.out
          go_wp2
          go_round
          case rel => exact ⟨i + 1, by omega, by go_num, HB2⟩
          case measure => simp [intOf]; omega
    · have HB2 : Hid (true = R) := Lib.hid (by rw [← HI.out, List.drop_eq_nil_of_le (by omega)]; rfl)
      have hlt' : ¬ (i : Int) < l.length := by omega
      go_wp2
      go_ret
      exact ⟨by rw [← HB2.out]; rfl, rfl⟩

end Go.Proofs.YtanhljpmknfabaaDoor.LexBlank
