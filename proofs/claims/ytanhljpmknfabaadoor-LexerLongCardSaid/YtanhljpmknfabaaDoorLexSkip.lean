/- Blanks and comments, and spans of bytes: the program's walks. -/
import Derived.Test.YtanhljpmknfabaaDoorBase
import Derived.Test.YtanhljpmknfabaaDoorLib
import Derived.Test.YtanhljpmknfabaaDoorLexMath
import Derived.WalkSpells
import Derived.WalkLawsBesides
import Derived.Laws.EntriesVeiled
import Derived.Deep.QuietTactic
import Derived.BigQuiet
import Derived.LoopN
namespace Go.Proofs.YtanhljpmknfabaaDoor.LexSkip
set_option linter.unusedVariables false
open Go.RowKit Go.Proofs.YtanhljpmknfabaaDoor.LexModel Go.Proofs.YtanhljpmknfabaaDoor.LexMath

/-- A string of bytes. -/
def sv (l : List UInt8) : ByteArray := ⟨l.toArray⟩
theorem sv_list (l : List UInt8) : (sv l).data.toList = l := rfl
theorem sv_size (l : List UInt8) : (sv l).size = l.length := by
  show l.toArray.size = _
  simp
theorem sv_data (s : ByteArray) : sv s.data.toList = s := by
  cases s with
  | mk d => simp [sv]
theorem sv_extract (l : List UInt8) (i j : Nat) : (sv l).extract i j = sv ((l.take j).drop i) := by
  have : ((sv l).extract i j).data.toList = (l.take j).drop i := by
    rw [ByteArray.data_extract, Array.toList_extract]
    show List.take (j - i) (List.drop i l) = _
    rw [List.drop_take]
  rw [← sv_data ((sv l).extract i j), this]
theorem sv_from (l : List UInt8) (i : Nat) : (sv l).extract i (sv l).size = sv (l.drop i) := by
  rw [sv_extract, sv_size, List.take_length]
theorem sv_to (l : List UInt8) (j : Nat) : (sv l).extract 0 j = sv (l.take j) := by rw [sv_extract, List.drop_zero]

theorem indexByte_lt (l : List UInt8) (c : UInt8) : Lib.indexByte l c ≤ l.length := by
  induction l with
  | nil => exact Int.le_of_lt (by decide : (-1 : Int) < 0)
  | cons a l ih =>
    unfold Lib.indexByte
    rw [List.length_cons]
    split
    · omega
    · split <;> omega

/-- The longest beginning that has only some bytes. -/
theorem span_any (l cs : List UInt8) (w : World) (hl : (l.length : Int) ≤ 1000000) (hcs : cs.length < 4294967281) (hascii : ∀ (j : Nat) b, cs[j]? = some b → b.toNat < 128) :
    Calls Tryd.prog 48 #[.string (sv l), .string (sv cs)] w fun e w' => e = .returned (.string (sv (l.takeWhile (cs.contains ·)))) ∧ Below w.heap.size w w' := by
  have HT := Lib.hid (strings_TrimLeft_laid (sv l) (sv cs) w (by rw [sv_size]; exact hcs) hascii)
  have hle : (Lib.trimLeftS l cs).length ≤ l.length := (List.dropWhile_suffix _).length_le
  have HE := Lib.hid (show (sv l).extract 0 (l.length - (Lib.trimLeftS l cs).length) = sv (l.takeWhile (cs.contains ·)) by
    rw [sv_to, span_eq])
  have hz := sv_size l
  rw [show (Lib.trimLeftS (sv l).data.toList (sv cs).data.toList).toArray = (Lib.trimLeftS l cs).toArray from rfl] at HT
  have hz2 := sv_size (Lib.trimLeftS l cs)
  unfold sv at hz2
  generalize Lib.trimLeftS l cs = r at *
  clear hcs hascii
  go_enter Tryd.func48, Tryd.ntmps48
  go_wp2_with (fail)
  refine HT.out.mono ?_
  rintro e w1 ⟨rfl, b1⟩
  have B1 := Lib.hid b1
  clear b1
  go_wp2
  go_ret
  exact ⟨by rw [HE.out]; rfl, B1.out⟩

theorem sk_trim_le (l : List UInt8) : (Lib.trimLeftS l blanks).length ≤ l.length := (List.dropWhile_suffix _).length_le
theorem trim_drop (l : List UInt8) (k : Nat) (hk : k ≤ l.length) : Lib.trimLeftS (l.drop k) blanks = l.drop (l.length - (Lib.trimLeftS (l.drop k) blanks).length) := by
  obtain ⟨p, hp⟩ := List.dropWhile_suffix (l := l.drop k) (blanks.contains ·)
  have hp : p ++ Lib.trimLeftS (l.drop k) blanks = l.drop k := hp
  have h1 := congrArg List.length hp
  rw [List.length_append, List.length_drop] at h1
  have h2 : l.drop (l.length - (Lib.trimLeftS (l.drop k) blanks).length) = (l.drop k).drop p.length := by
    rw [List.drop_drop]; congr 1; omega
  rw [h2]
  conv => rhs; rw [← hp]
  rw [List.drop_left]

theorem next_stop (l : List UInt8) (k : Nat) (h : Lib.hasPrefix (Lib.trimLeftS (l.drop k) blanks) [47, 47] = false) : next l k = l.length - (Lib.trimLeftS (l.drop k) blanks).length := by
  unfold next
  rw [← sk_trim, sk_stop _ (trim_head _ _) h]

theorem next_end (l : List UInt8) (k : Nat) (h : Lib.hasPrefix (Lib.trimLeftS (l.drop k) blanks) [47, 47] = true) (hj : Lib.indexByte (Lib.trimLeftS (l.drop k) blanks) 10 < 0) : next l k = l.length := by
  unfold next
  rw [← sk_trim, (sk_comment _ h).1 hj]
  rfl

theorem next_on (l : List UInt8) (k : Nat) (hk : k ≤ l.length) (h : Lib.hasPrefix (Lib.trimLeftS (l.drop k) blanks) [47, 47] = true) (hj : 0 ≤ Lib.indexByte (Lib.trimLeftS (l.drop k) blanks) 10) :
    next l (l.length - (Lib.trimLeftS (l.drop k) blanks).length + (Lib.indexByte (Lib.trimLeftS (l.drop k) blanks) 10).toNat) = next l k ∧ k < l.length - (Lib.trimLeftS (l.drop k) blanks).length + (Lib.indexByte (Lib.trimLeftS (l.drop k) blanks) 10).toNat ∧ l.length - (Lib.trimLeftS (l.drop k) blanks).length + (Lib.indexByte (Lib.trimLeftS (l.drop k) blanks) 10).toNat ≤ l.length := by
  obtain ⟨h1, h2, h3⟩ := (sk_comment _ h).2 hj
  have h4 := sk_trim_le (l.drop k)
  rw [List.length_drop] at h4
  refine ⟨?_, by omega, by omega⟩
  unfold next
  rw [← List.drop_drop, ← trim_drop l k hk, ← h1, sk_trim]

set_option maxHeartbeats 1000000 in
theorem skip_any (l : List UInt8) (pos : Nat) (w : World) (hl : (l.length : Int) ≤ 1000000) (hp : pos ≤ l.length) :
    Calls Tryd.prog 29 #[.string (sv l), .int .i64 pos] w fun e w' => e = .returned (.int .i64 (next l pos)) ∧ Below w.heap.size w w' := by
  have hz := sv_size l
  have hp' : (pos : Int) ≤ l.length := by omega
  go_enter Tryd.func29, Tryd.ntmps29
  go_wp2_with (fail)
  go_loopw [1] (fun s1 wr => ∃ k : Nat, (k : Int) ≤ l.length ∧ s1 = .int .i64 k ∧ Hid (next l k = next l pos) ∧ Hid (Below w.heap.size w wr)) (fun s1 _ => l.length - (intOf s1).toNat)
  case atStart => exact ⟨pos, hp', rfl, Lib.hid rfl, Lib.hid (Below.refl _ _)⟩
  case round =>
    obtain ⟨k, hk, rfl, HN, HB⟩ := hrel
    have HE := Lib.hid (show (sv l).extract k l.length = sv (l.drop k) by rw [← hz, sv_from])
    have HT : Hid (Calls Tryd.prog 42 #[.string ((sv l).extract k l.length), .string (sv blanks)] wr fun e w' => e = .returned (.string (sv (Lib.trimLeftS (l.drop k) blanks))) ∧ Below wr.heap.size wr w') := Lib.hid (by
      rw [HE.out]
      exact strings_TrimLeft_laid (sv (l.drop k)) (sv blanks) wr (by decide) (ascii_of_all (by decide)))
    have hle := sk_trim_le (l.drop k)
    rw [List.length_drop] at hle
    have hle : (Lib.trimLeftS (l.drop k) blanks).length ≤ l.length := by omega
    have H1 := Lib.hid (next_stop l k)
    have H2 := Lib.hid (next_end l k)
    have H3 := Lib.hid (next_on l k (by omega))
    rw [HN.out] at H1 H2 H3
    have hlast : Lib.indexByte (Lib.trimLeftS (l.drop k) blanks) 10 < 9223372036854775807 := by
      have := indexByte_lt (Lib.trimLeftS (l.drop k) blanks) 10; omega
    have hz2 := sv_size (Lib.trimLeftS (l.drop k) blanks)
    generalize Lib.trimLeftS (l.drop k) blanks = r at *
    have HP : Hid (∀ w1, Calls Tryd.prog 43 #[.string (sv r), .string (sv [47, 47])] w1 fun e w' => e = .returned (.bool (Lib.hasPrefix r [47, 47])) ∧ w' = w1) := Lib.hid fun w1 => strings_HasPrefix (sv r) (sv [47, 47]) w1
    have HI : Hid (∀ w1, Calls Tryd.prog 44 #[.string (sv r), .int .u8 10] w1 fun e w' => e = .returned (.int .i64 (Lib.indexByte r 10)) ∧ w' = w1) := Lib.hid fun w1 => strings_IndexByte (sv r) 10 w1
    generalize Lib.hasPrefix r [47, 47] = c at *
    generalize Lib.indexByte r 10 = j at *
    clear hp
    cases c
    · have HX := Lib.hid (show ((next l pos : Nat) : Int) = (l.length : Int) - r.length by have := H1.out rfl; omega)
      clear H1 H2 H3 HI
      go_wp2_with (fail)
      refine HT.out.mono ?_
      rintro e w1 ⟨rfl, b1⟩
      have HB1 := Lib.hid (HB.out.trans (b1.mono HB.out.size))
      clear b1
      go_wp2_with (fail)
      refine (HP.out w1).mono ?_
      rintro e w2 ⟨rfl, rfl⟩
      go_wp2
      go_ret
      exact ⟨by rw [HX.out]; rfl, HB1.out⟩
    · by_cases hj : j < 0
      · have HX := Lib.hid (show ((next l pos : Nat) : Int) = (l.length : Int) by have := H2.out rfl hj; omega)
        clear H1 H2 H3
        go_wp2_with (fail)
        refine HT.out.mono ?_
        rintro e w1 ⟨rfl, b1⟩
        have HB1 := Lib.hid (HB.out.trans (b1.mono HB.out.size))
        clear b1
        go_wp2_with (fail)
        refine (HP.out w1).mono ?_
        rintro e w2 ⟨rfl, rfl⟩
        go_wp2_with (fail)
        refine (HI.out w2).mono ?_
        rintro e w3 ⟨rfl, rfl⟩
        go_wp2
        go_ret
        exact ⟨by rw [HX.out]; rfl, HB1.out⟩
      · obtain ⟨hx1, hx2, hx3⟩ := H3.out rfl (by omega)
        have HX1 := Lib.hid hx1
        have hj0 : 0 ≤ j := by omega
        have hsum : (l.length : Int) - r.length + j ≤ l.length := by omega
        have hup : (k : Int) < (l.length : Int) - r.length + j := by omega
        clear H1 H2 H3 hj hx1
        go_wp2_with (fail)
        refine HT.out.mono ?_
        rintro e w1 ⟨rfl, b1⟩
        have HB1 := Lib.hid (HB.out.trans (b1.mono HB.out.size))
        clear b1
        go_wp2_with (fail)
        refine (HP.out w1).mono ?_
        rintro e w2 ⟨rfl, rfl⟩
        go_wp2_with (fail)
        refine (HI.out w2).mono ?_
        rintro e w3 ⟨rfl, rfl⟩
        go_wp2
        go_roundw
        case rel => exact ⟨l.length - r.length + j.toNat, by omega, by go_num, HX1, HB1⟩
        case measure => simp [intOf]; omega

end Go.Proofs.YtanhljpmknfabaaDoor.LexSkip
