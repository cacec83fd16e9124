/- Full names: the walks of both sides. -/
import Derived.Test.YtanhljpmknfabaaDoorLexVal
namespace Go.Proofs.YtanhljpmknfabaaDoor.LexFull
set_option linter.unusedVariables false
open Go.RowKit Go.Proofs.YtanhljpmknfabaaDoor.LexModel Go.Proofs.YtanhljpmknfabaaDoor.LexMath Go.Proofs.YtanhljpmknfabaaDoor.LexSkip Go.Proofs.YtanhljpmknfabaaDoor.LexTok Go.Proofs.YtanhljpmknfabaaDoor.LexLex Go.Proofs.YtanhljpmknfabaaDoor.LexAwake Go.Proofs.YtanhljpmknfabaaDoor.LexRef1 Go.Proofs.YtanhljpmknfabaaDoor.LexRef2 Go.Proofs.YtanhljpmknfabaaDoor.LexVal

/-- The tables, and some number where the library keeps one. -/
structure TabM (w : World) : Prop where
  tab : Tab w
  max : ∃ m, w.cell? ⟨2, 0, none⟩ = some (.int .i64 m)

theorem TabM.below {w w' : World} (h : TabM w) (hb : Below w.heap.size w w') : TabM w' := by
  obtain ⟨h1, m, h2⟩ := h
  exact ⟨h1.below hb, m, (hb.cell (p := ⟨2, 0, none⟩) (cell_lt' h2)).trans h2⟩

theorem cut_any (l : List UInt8) (w : World) (ht : TabM w) (hl : (l.length : Int) ≤ 1000000) :
    Calls Tryd.prog 38 #[.string (sv l), .string (sv [46])] w fun e w' => e = .returned (.tuple #[.string (sv (Lib.cut l [46]).1), .string (sv (Lib.cut l [46]).2.1), .bool (Lib.cut l [46]).2.2]) ∧ Below w.heap.size w w' := by
  obtain ⟨_, m, hm⟩ := ht
  have h := Go.Proofs.Any.strings_Cut { laysM145 with } (sv l) (sv [46]) m w (by rw [sv_size]; omega) hm
  refine h.mono ?_
  rintro e w' ⟨rfl, n, rfl⟩
  exact ⟨rfl, below_drewN (Below.refl _ _) _⟩

def fullR (l : List UInt8) : Bool := decide (0 ≤ Lib.indexByte l 46) && (nameR (l.take (Lib.indexByte l 46).toNat) && nameR (l.drop ((Lib.indexByte l 46).toNat + 1)))

theorem cut_full (l : List UInt8) : (nameR (Lib.cut l [46]).1 && nameR (Lib.cut l [46]).2.1) = fullR l := by
  unfold fullR Lib.cut
  rw [Lib.index_one]
  by_cases h : 0 ≤ Lib.indexByte l 46
  · rw [if_pos h, decide_eq_true h, Bool.true_and]
    rfl
  · rw [if_neg h, decide_eq_false h, Bool.false_and]
    show (nameR l && nameR []) = false
    have : nameR [] = false := rfl
    rw [this, Bool.and_false]

set_option maxRecDepth 100000 in
set_option maxHeartbeats 4000000 in
theorem full_any (l : List UInt8) (w : World) (ht : TabM w) (hl : (l.length : Int) ≤ 1000000) :
    Calls Tryd.prog 21 #[.string (sv l)] w fun e w' => e = .returned (.bool (fullR l)) ∧ Below w.heap.size w w' := by
  have HC := Lib.hid (cut_any l w ht hl)
  have hlen : (Lib.cut l [46]).1.length ≤ l.length ∧ (Lib.cut l [46]).2.1.length ≤ l.length := by
    unfold Lib.cut
    split
    · exact ⟨by rw [List.length_take]; omega, by rw [List.length_drop]; omega⟩
    · exact ⟨Nat.le_refl _, Nat.zero_le _⟩
  have H1 := Lib.hid (fun w1 (hb : Below w.heap.size w w1) => isName_any (Lib.cut l [46]).1 w1 (ht.below hb).tab (by omega))
  have H2 := Lib.hid (fun w1 (hb : Below w.heap.size w w1) => isName_any (Lib.cut l [46]).2.1 w1 (ht.below hb).tab (by omega))
  rw [← cut_full]
  rw [name_eq] at H1 H2
  generalize (Lib.cut l [46]).2.2 = f at *
  generalize hn1 : nameR (Lib.cut l [46]).1 = n1 at *
  generalize hn2 : nameR (Lib.cut l [46]).2.1 = n2 at *
  generalize (Lib.cut l [46]).1 = a at *
  generalize (Lib.cut l [46]).2.1 = b at *
  clear ht hn1 hn2 hlen
  cases n1
  · go_enter Tryd.func21, Tryd.ntmps21
    go_wp2_with (fail)
    refine HC.out.mono ?_
    rintro e w1 ⟨rfl, b1⟩
    have HB1 := Lib.hid b1
    clear b1
    go_wp2_with (fail)
    refine (H1.out w1 HB1.out).mono ?_
    rintro e w2 ⟨rfl, b2⟩
    have HB2 := Lib.hid (bt HB1.out b2)
    clear b2
    go_wp2
    go_ret
    exact ⟨rfl, HB2.out⟩
  · go_enter Tryd.func21, Tryd.ntmps21
    go_wp2_with (fail)
    refine HC.out.mono ?_
    rintro e w1 ⟨rfl, b1⟩
    have HB1 := Lib.hid b1
    clear b1
    go_wp2_with (fail)
    refine (H1.out w1 HB1.out).mono ?_
    rintro e w2 ⟨rfl, b2⟩
    have HB2 := Lib.hid (bt HB1.out b2)
    clear b2
    go_wp2_with (fail)
    refine (H2.out w2 HB2.out).mono ?_
    rintro e w3 ⟨rfl, b3⟩
    have HB3 := Lib.hid (bt HB2.out b3)
    clear b3
    go_wp2
    go_ret
    exact ⟨by rw [Bool.true_and]; rfl, HB3.out⟩

theorem idx_hit (l : List UInt8) (i : Nat) (h : i < l.length) (hc : (l[i] == 46) = true) : Lib.indexByte (l.drop i) 46 = 0 := by
  rw [List.drop_eq_getElem_cons h]
  unfold Lib.indexByte
  rw [if_pos hc]
theorem idx_miss (l : List UInt8) (i : Nat) (h : i < l.length) (hc : (l[i] == 46) = false) : Lib.indexByte (l.drop i) 46 = if Lib.indexByte (l.drop (i + 1)) 46 == -1 then -1 else Lib.indexByte (l.drop (i + 1)) 46 + 1 := by
  conv => lhs; rw [List.drop_eq_getElem_cons h]; unfold Lib.indexByte
  rw [if_neg (by rw [hc]; decide)]

/-- Where a point stands, seen from a place ahead of it. -/
def At (l : List UInt8) (i : Nat) : Prop := (Lib.indexByte (l.drop i) 46 = -1 ∧ Lib.indexByte l 46 = -1) ∨ (0 ≤ Lib.indexByte (l.drop i) 46 ∧ Lib.indexByte l 46 = i + Lib.indexByte (l.drop i) 46)

theorem At.zero (l : List UInt8) : At l 0 := by
  unfold At
  rw [List.drop_zero]
  have := Lib.indexByte_ge l 46
  by_cases h : Lib.indexByte l 46 = -1
  · exact Or.inl ⟨h, h⟩
  · exact Or.inr ⟨by omega, by omega⟩
theorem At.next {l : List UInt8} {i : Nat} (ha : At l i) (h : i < l.length) (hc : (l[i] == 46) = false) : At l (i + 1) := by
  unfold At at ha ⊢
  rw [idx_miss l i h hc] at ha
  have hge := Lib.indexByte_ge (l.drop (i + 1)) 46
  by_cases h1 : Lib.indexByte (l.drop (i + 1)) 46 = -1
  · rw [if_pos (by rw [h1]; rfl)] at ha
    rcases ha with ha | ha
    · exact Or.inl ⟨h1, ha.2⟩
    · omega
  · rw [if_neg (fun e => h1 (eq_of_beq e))] at ha
    rcases ha with ha | ha
    · omega
    · exact Or.inr ⟨by omega, by omega⟩
theorem At.hit {l : List UInt8} {i : Nat} (ha : At l i) (h : i < l.length) (hc : (l[i] == 46) = true) : Lib.indexByte l 46 = i := by
  unfold At at ha
  rw [idx_hit l i h hc] at ha
  omega
theorem At.none {l : List UInt8} (ha : At l l.length) : Lib.indexByte l 46 = -1 := by
  unfold At at ha
  rw [List.drop_length] at ha
  rcases ha with ha | ha
  · exact ha.2
  · exact absurd ha.1 (by decide)

set_option maxRecDepth 100000 in
set_option maxHeartbeats 4000000 in
theorem refFull_any (l : List UInt8) (w : World) (hl : (l.length : Int) ≤ 1000000) :
    Calls Tryd.prog 22 #[.string (sv l)] w fun e w' => e = .returned (.bool (fullR l)) ∧ w = w' := by
  have hz := sv_size l
  generalize hR : fullR l = R
  have HR := Lib.hid hR
  clear hR
  go_enter Tryd.func22, Tryd.ntmps22
  go_wp2_with (fail)
  go_loop [3] (fun s3 => ∃ i : Nat, (i : Int) ≤ l.length ∧ s3 = .int .i64 i ∧ Hid (At l i)) (fun s3 => l.length - (intOf s3).toNat)
  case atStart => exact ⟨0, by omega, rfl, Lib.hid (At.zero l)⟩
  case round =>
    obtain ⟨i, hi, rfl, HA⟩ := hrel
    by_cases hlt : i < l.length
    · have hlt' : (i : Int) < l.length := by omega
      obtain ⟨hbz, hcb⟩ := LexBlank.byte_at l i hlt
      cases hc : (l[i] == 46)
      · have HA1 := Lib.hid (HA.out.next hlt hc)
        have t1 : (((l[i].toNat : Nat) : Int) == 46) = false := (LexBlank.u8_test l[i] 46).trans hc
        generalize l[i] = c at *
        clear HA hc HR
        go_wp2
        go_round
        case rel => exact ⟨i + 1, by omega, by go_num, HA1⟩
        case measure => simp [intOf]; omega
      · have hx := HA.out.hit hlt hc
        have t1 : (((l[i].toNat : Nat) : Int) == 46) = true := (LexBlank.u8_test l[i] 46).trans hc
        have HX : Hid ((nameR (l.take i) && nameR (l.drop (i + 1))) = R) := Lib.hid (by
          rw [← HR.out]
          unfold fullR
          rw [hx, Int.toNat_natCast, decide_eq_true (by omega), Bool.true_and])
        have e1 : (sv l).extract 0 i = sv (l.take i) := sv_to l i
        have e2 : (sv l).extract (i + 1) l.length = sv (l.drop (i + 1)) := by rw [← hz, sv_from]
        have H1 : Hid (∀ w1, Calls Tryd.prog 20 #[.string ((sv l).extract 0 i)] w1 fun e w' => e = .returned (.bool (nameR (l.take i))) ∧ w1 = w') := Lib.hid fun w1 => by
          rw [e1]; exact refName_any _ w1 (by rw [List.length_take]; omega)
        have H2 : Hid (∀ w1, Calls Tryd.prog 20 #[.string ((sv l).extract (i + 1) l.length)] w1 fun e w' => e = .returned (.bool (nameR (l.drop (i + 1)))) ∧ w1 = w') := Lib.hid fun w1 => by
          rw [e2]; exact refName_any _ w1 (by rw [List.length_drop]; omega)
        generalize nameR (l.take i) = n1 at *
        generalize nameR (l.drop (i + 1)) = n2 at *
        generalize l[i] = c at *
        clear HA hc HR e1 e2 hx
        cases n1
        · go_wp2_with (fail)
          refine (H1.out _).mono ?_
          rintro e w1 ⟨rfl, rfl⟩
          go_wp2
          go_ret
          exact ⟨by rw [← HX.out]; rfl, rfl⟩
        · go_wp2_with (fail)
          refine (H1.out _).mono ?_
          rintro e w1 ⟨rfl, rfl⟩
          go_wp2_with (fail)
          refine (H2.out _).mono ?_
          rintro e w2 ⟨rfl, rfl⟩
          go_wp2
          go_ret
          exact ⟨by rw [← HX.out, Bool.true_and]; rfl, rfl⟩
    · obtain rfl : i = l.length := by omega
      have hx := HA.out.none
      have HX : Hid (false = R) := Lib.hid (by
        rw [← HR.out]
        unfold fullR
        rw [hx]
        rfl)
      clear HA HR hx
      go_wp2
      go_ret
      exact ⟨by rw [← HX.out]; rfl, rfl⟩

end Go.Proofs.YtanhljpmknfabaaDoor.LexFull
