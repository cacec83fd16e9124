/- Reserved words, symbols and single tokens: the program's walks. -/
import Derived.Test.YtanhljpmknfabaaDoorLexSkip
import Derived.Test.YtanhljpmknfabaaDoorStop
import Derived.Laws.Rows
namespace Go.Proofs.YtanhljpmknfabaaDoor.LexTok
set_option linter.unusedVariables false
open Go.RowKit Go.Proofs.YtanhljpmknfabaaDoor.LexModel Go.Proofs.YtanhljpmknfabaaDoor.LexMath Go.Proofs.YtanhljpmknfabaaDoor.LexSkip

def strs (l : List (List UInt8)) : Array Value := (l.map fun s => Value.string (sv s)).toArray
theorem strs_get (l : List (List UInt8)) (j : Nat) (h : j < l.length) : (strs l)[j]? = some (.string (sv l[j])) := by
  simp [strs, h]
theorem strs_size (l : List (List UInt8)) : (strs l).size = l.length := by simp [strs]

/-- The program's tables lie in memory. -/
structure Tab (w : World) : Prop where
  res : ∃ t fr, w.heap[0]? = some (.cells (strs reserved) t fr)
  sym : ∃ t fr, w.heap[1]? = some (.cells (strs symbols) t fr)
  err : ∃ te pe, w.cell? ⟨4, 0, none⟩ = some (.iface te pe)

theorem heap_lt {w : World} {g : Nat} {o : Obj} (h : w.heap[g]? = some o) : g < w.heap.size := (Array.getElem?_eq_some_iff.1 h).1
theorem cell_lt' {w : World} {g j : Nat} {v : Value} (h : w.cell? ⟨g, j, none⟩ = some v) : g < w.heap.size := by
  rcases Nat.lt_or_ge g w.heap.size with h1 | h1
  · exact h1
  · unfold World.cell? at h; rw [Array.getElem?_eq_none h1] at h; cases h

theorem Tab.below {w w' : World} (h : Tab w) (hb : Below w.heap.size w w') : Tab w' := by
  obtain ⟨⟨t, fr, h1⟩, ⟨t2, fr2, h2⟩, te, pe, h3⟩ := h
  exact ⟨⟨t, fr, (hb.block _ (heap_lt h1)).trans h1⟩, ⟨t2, fr2, (hb.block _ (heap_lt h2)).trans h2⟩, te, pe, (hb.cell (p := ⟨4, 0, none⟩) (cell_lt' h3)).trans h3⟩

theorem sv_inj {a b : List UInt8} (h : sv a = sv b) : a = b := by
  have := congrArg (fun s : ByteArray => s.data.toList) h
  exact this

theorem contains_strs (l : List (List UInt8)) (x : List UInt8) : Lib.containsS ((l.map sv).take l.length) (sv x) = l.contains x := by
  rw [List.take_of_length_le (by simp), Bool.eq_iff_iff, Lib.containsS_iff, List.contains_iff_mem]
  constructor
  · intro h
    obtain ⟨y, hy, e⟩ := List.mem_map.1 h
    rwa [← sv_inj e]
  · intro h
    exact List.mem_map.2 ⟨x, h, rfl⟩

theorem reserved_any (l : List UInt8) (w : World) (ht : Tab w) : Calls Tryd.prog 17 #[.string (sv l)] w fun e w' => e = .returned (.bool (reserved.contains l)) ∧ w = w' := by
  obtain ⟨⟨t, fr, h1⟩, _, _⟩ := ht
  have HC : Hid (Calls Tryd.prog 36 #[.slice (some ⟨0, 0, none⟩) 14 14, .string (sv l)] w fun e w' => e = .returned (.bool (reserved.contains l)) ∧ w' = w) := Lib.hid (by
    have h := slices_Contains_string 0 0 14 14 (reserved.map sv) (sv l) w (by decide) (by decide) (fun j hj => by
      rw [List.length_map] at hj
      rw [Nat.zero_add, cell_of_row w _ j _ _ _ h1, strs_get reserved j hj]
      simp [List.getD, hj])
    have e := contains_strs reserved l
    rw [show reserved.length = 14 from rfl] at e
    rw [e] at h
    exact h)
  clear h1
  generalize reserved.contains l = c at *
  go_enter Tryd.func17, Tryd.ntmps17
  go_wp2_with (fail)
  refine HC.out.mono ?_
  rintro e w1 ⟨rfl, rfl⟩
  go_wp2
  go_ret
  exact ⟨rfl, rfl⟩

theorem wpl_index {P : Program} {w : World} {ops : Array Oper} {rest : List Oper} {o : Oper} {a : Act} {Q : Exit → Act → World → Prop} (hgd : o.guard = none) (t : TypeId) (x i : Operand) (ho : o.op = .index t x i)
    (n : Nat) (e : TypeId) (ht : P.underlying t = some (.array n e)) (he : P.plainKey e = true) (hi1 : P.cellsOf e = 1) (inf : TypeInfo) (hinf : P.info? e = some inf) (cs : Array Value) (hx : a.eval x = .agg cs) (k : IntKind) (j : Nat) (hi : a.eval i = .int k j) (hj : j < n) (v : Value) (hv : cs[j]? = some v)
    (h : wpList P ops Q rest (a.put o.dst v) w) : wpList P ops Q (o :: rest) a w :=
  wpList_plain hgd fun K hK => by
    have hr : (Instr.index t (.agg cs) (.int k j)).run P w = .ok v w := by
      unfold Instr.index
      have hin : (0 : Int) ≤ j ∧ (j : Int) < n := by omega
      simp only [asIntOf, Sem.run_bind, Sem.run_pure, Result.andThen_ok, run_underlying ht]
      rw [if_pos hin]
      simp only [Sem.run_bind, run_sizeOf w hinf, Result.andThen_ok, hi1, Nat.mul_one, Int.toNat_natCast]
      exact run_part_plain w he hv
    unfold Oper.wp execOp
    simp only [ho, hx, hi, Sem.run_bind, hr, Result.andThen_ok, Sem.run_pure]
    exact hK _ _ h

theorem token_empty (w : World) : Calls Tryd.prog 31 #[.string (sv [])] w fun e w' => e = .returned (.tuple #[.int .i64 0, .string (sv [])]) ∧ Below w.heap.size w w' := by
  show Calls Tryd.prog 31 #[.string ⟨#[]⟩] w _
  go_enter Tryd.func31, Tryd.ntmps31
  go_wp2
  go_ret2
  exact ⟨rfl, Below.refl _ _⟩

theorem tok_l (l : List UInt8) (c : UInt8) (h0 : l.head? = some c) (hc : letters.contains c = true) :
    tokn l = if reserved.contains (l.takeWhile ((letters ++ digits).contains ·)) then (2, l.takeWhile ((letters ++ digits).contains ·)) else if (l.takeWhile ((letters ++ digits).contains ·)).length ≤ 30 then (1, l.takeWhile ((letters ++ digits).contains ·)) else (0, []) := by
  match l, h0 with
  | a :: l, h0 =>
    cases h0
    simp only [tokn, hc, if_true]

theorem tok_d (l : List UInt8) (c : UInt8) (h0 : l.head? = some c) (hc : letters.contains c = false) (hd : digits.contains c = true) :
    tokn l = if number (l.takeWhile (digits.contains ·)) then (3, l.takeWhile (digits.contains ·)) else (0, []) := by
  match l, h0 with
  | a :: l, h0 =>
    cases h0
    simp only [tokn, hc, hd, if_true, Bool.false_eq_true, if_false]

theorem tok_s (l : List UInt8) (c : UInt8) (h0 : l.head? = some c) (hc : letters.contains c = false) (hd : digits.contains c = false) :
    tokn l = match symbols.find? (Lib.hasPrefix l) with | some s => (4, s) | none => (0, []) := by
  match l, h0 with
  | a :: l, h0 =>
    cases h0
    simp only [tokn, hc, hd, Bool.false_eq_true, if_false]
    cases List.find? (Lib.hasPrefix (c :: l)) symbols <;> rfl

theorem index_mem : ∀ (l : List UInt8) (c : UInt8), decide (0 ≤ Lib.indexByte l c) = l.contains c
  | [], c => rfl
  | a :: l, c => by
    have ih := index_mem l c
    have hge := Lib.indexByte_ge l c
    unfold Lib.indexByte
    rw [List.contains_cons]
    by_cases h : (a == c) = true
    · rw [if_pos h]
      have : (c == a) = true := by rw [Bool.beq_comm]; exact h
      rw [this]; rfl
    · rw [if_neg h]
      have : (c == a) = false := by rw [Bool.beq_comm]; simpa using h
      rw [this, Bool.false_or, ← ih]
      by_cases h1 : Lib.indexByte l c = -1
      · rw [if_pos (by rw [h1]; rfl), h1]
      · rw [if_neg (fun e => h1 (eq_of_beq e))]
        congr 1
        exact propext ⟨fun _ => by omega, fun _ => by omega⟩

/-- What a string that begins with a byte gives. -/
theorem head_facts (l : List UInt8) (c : UInt8) (h0 : l.head? = some c) : (sv l).toList.isEmpty = false ∧ ∃ hz : 0 < (sv l).size, (sv l)[0]'hz = c := by
  match l, h0 with
  | a :: l, h0 =>
    cases h0
    refine ⟨?_, by rw [sv_size]; simp, rfl⟩
    rw [ByteArray.toList_eq]
    rfl

theorem byte_index (cs : List UInt8) (c : UInt8) (w : World) : Calls Tryd.prog 44 #[.string (sv cs), .int .u8 c.toNat] w fun e w' => e = .returned (.int .i64 (Lib.indexByte cs c)) ∧ w' = w := by
  have h := strings_IndexByte (sv cs) c.toNat w
  rw [Int.toNat_natCast] at h
  have e : c.toNat.toUInt8 = c := UInt8.ofNat_toNat
  rw [e] at h
  exact h

set_option maxHeartbeats 4000000 in
theorem token_letter (l : List UInt8) (c : UInt8) (w : World) (ht : Tab w) (hl : (l.length : Int) ≤ 1000000) (h0 : l.head? = some c) (hc : letters.contains c = true) :
    Calls Tryd.prog 31 #[.string (sv l)] w fun e w' => e = .returned (.tuple #[.int .i64 (tokn l).1, .string (sv (tokn l).2)]) ∧ Below w.heap.size w w' := by
  obtain ⟨he, hz0, hb⟩ := head_facts l c h0
  have HT := Lib.hid ht
  rw [tok_l l c h0 hc]
  have HI := Lib.hid (byte_index letters c w)
  have hj : 0 ≤ Lib.indexByte letters c := by have := index_mem letters c; rw [hc] at this; simpa using this
  generalize Lib.indexByte letters c = j at *
  have HS := Lib.hid (span_any l (letters ++ digits) w hl (by decide) (ascii_of_all (by decide)))
  have hwl : ((l.takeWhile ((letters ++ digits).contains ·)).length : Int) ≤ 1000000 := by
    have := (List.takeWhile_prefix ((letters ++ digits).contains ·) (l := l)).length_le; omega
  generalize l.takeWhile ((letters ++ digits).contains ·) = wd at *
  have hz := sv_size wd
  have HR := Lib.hid (fun w1 => reserved_any wd w1)
  clear ht h0 hc
  cases hr : reserved.contains wd
  · rw [if_neg (by simp)]
    rw [hr] at HR
    by_cases h30 : wd.length ≤ 30
    · rw [if_pos h30]
      have h30 : (wd.length : Int) ≤ 30 := by omega
      go_enter Tryd.func31, Tryd.ntmps31
      go_wp2_with (fail)
      refine HI.out.mono ?_
      rintro e w1 ⟨rfl, rfl⟩
      go_wp2_with (fail)
      refine HS.out.mono ?_
      rintro e w2 ⟨rfl, b2⟩
      have HB := Lib.hid b2
      clear b2
      go_wp2_with (fail)
      refine (HR.out w2 (HT.out.below HB.out)).mono ?_
      rintro e w3 ⟨rfl, rfl⟩
      go_wp2
      go_ret2
      exact ⟨rfl, HB.out⟩
    · rw [if_neg h30]
      have h30 : ¬ (wd.length : Int) ≤ 30 := by omega
      go_enter Tryd.func31, Tryd.ntmps31
      go_wp2_with (fail)
      refine HI.out.mono ?_
      rintro e w1 ⟨rfl, rfl⟩
      go_wp2_with (fail)
      refine HS.out.mono ?_
      rintro e w2 ⟨rfl, b2⟩
      have HB := Lib.hid b2
      clear b2
      go_wp2_with (fail)
      refine (HR.out w2 (HT.out.below HB.out)).mono ?_
      rintro e w3 ⟨rfl, rfl⟩
      go_wp2
      go_ret2
      exact ⟨rfl, HB.out⟩
  · rw [if_pos rfl]
    rw [hr] at HR
    go_enter Tryd.func31, Tryd.ntmps31
    go_wp2_with (fail)
    refine HI.out.mono ?_
    rintro e w1 ⟨rfl, rfl⟩
    go_wp2_with (fail)
    refine HS.out.mono ?_
    rintro e w2 ⟨rfl, b2⟩
    have HB := Lib.hid b2
    clear b2
    go_wp2_with (fail)
    refine (HR.out w2 (HT.out.below HB.out)).mono ?_
    rintro e w3 ⟨rfl, rfl⟩
    go_wp2
    go_ret2
    exact ⟨rfl, HB.out⟩

theorem byte_ne {c k : UInt8} (h : c ≠ k) : ¬ ((c.toNat : Nat) : Int) = k.toNat := fun e => h (UInt8.toNat_inj.1 (by omega))

theorem in_span (p : UInt8 → Bool) : ∀ (l : List UInt8) (b : UInt8), b ∈ l.takeWhile p → p b = true
  | [], _, h => by cases h
  | a :: l, b, h => by
    rw [List.takeWhile_cons] at h
    split at h
    · rename_i ha
      rcases List.mem_cons.1 h with rfl | h
      · exact ha
      · exact in_span p l b h
    · cases h

theorem head_span (p : UInt8 → Bool) (l : List UInt8) (c : UInt8) (h0 : l.head? = some c) (hp : p c = true) : (l.takeWhile p).head? = some c := by
  match l, h0 with
  | a :: l, h0 =>
    cases h0
    rw [List.takeWhile_cons, if_pos hp]
    rfl

theorem number_cases (d : List UInt8) (c : UInt8) (hc : d.head? = some c) : number d = match Lib.atoiAll d with | .ok v => decide (v ≤ 2147483648) && !(decide (1 < d.length) && c == 48) | _ => false := by
  unfold number
  rw [hc]
  rfl

theorem digits_walk : ∀ (l : List UInt8) (acc : Nat), (∀ b ∈ l, digits.contains b = true) → (∃ u, Lib.parseUint10 acc l = .ok u) ∨ Lib.parseUint10 acc l = .range
  | [], acc, _ => Or.inl ⟨acc, rfl⟩
  | c :: r, acc, h => by
    have hc := h c (by simp)
    rw [digits_iff] at hc
    simp only [Bool.and_eq_true, decide_eq_true_eq] at hc
    unfold Lib.parseUint10
    rw [if_pos hc]
    split
    · exact Or.inr rfl
    · split
      · exact Or.inr rfl
      · exact digits_walk r _ (fun b hb => h b (by simp [hb]))

theorem digits_end (d : List UInt8) (hne : d ≠ []) (h : ∀ b ∈ d, digits.contains b = true) : (∃ v, Lib.atoiAll d = .ok v) ∨ Lib.atoiAll d = .range := by
  match d, hne with
  | c :: r, _ =>
    have hc := h c (by simp)
    rw [digits_iff] at hc
    simp only [Bool.and_eq_true, decide_eq_true_eq] at hc
    have h1 : ¬ c.toNat = 43 := by omega
    have h2 : ¬ c.toNat = 45 := by omega
    rcases digits_walk (c :: r) 0 h with ⟨u, hu⟩ | hu
    · have hm : Lib.parseMag (c :: r) = .ok u := by unfold Lib.parseMag; rw [if_neg (by simp)]; exact hu
      by_cases hb : 9223372036854775808 ≤ u
      · right; simp [Lib.atoiAll, h1, hm, h2, hb]
      · left; exact ⟨u, by simp [Lib.atoiAll, h1, hm, h2, hb]⟩
    · have hm : Lib.parseMag (c :: r) = .range := by unfold Lib.parseMag; rw [if_neg (by simp)]; exact hu
      right; simp [Lib.atoiAll, h1, h2, hm]

theorem atoi_bad (d : List UInt8) (w : World) (hne : d ≠ []) (hd : ∀ b ∈ d, digits.contains b = true) (hl : (d.length : Int) ≤ 1000000) (ht : Tab w) (h : ∀ v, Lib.atoiAll d ≠ .ok v) :
    Calls Tryd.prog 34 #[.string (sv d)] w fun e w' => ∃ n t b, e = .returned (.tuple #[.int .i64 n, .iface t (.pointer (some ⟨b, 0, none⟩))]) ∧ Below w.heap.size w w' := by
  obtain ⟨_, _, te, pe, h3⟩ := ht
  rcases digits_end d hne hd with ⟨v, hv⟩ | he
  · exact absurd hv (h v)
  · refine (strconv_Atoi_range (sv d) (by rw [sv_size]; omega) he _ w h3 (Or.inr ⟨_, _, rfl⟩)).mono ?_
    rintro e w1 ⟨N, rfl, _, _, hb⟩
    exact ⟨_, _, _, rfl, hb⟩

theorem atoi_good (d : List UInt8) (w : World) (hl : (d.length : Int) ≤ 1000000) (v : Int) (h : Lib.atoiAll d = .ok v) :
    Calls Tryd.prog 34 #[.string (sv d)] w fun e w' => e = .returned (.tuple #[.int .i64 v, .nilIface]) ∧ Below w.heap.size w w' := by
  refine (strconv_Atoi_ok (sv d) (by rw [sv_size]; omega) v h w).mono ?_
  rintro e w1 ⟨rfl, hb⟩
  refine ⟨rfl, ?_⟩
  rcases hb with rfl | ⟨t, rfl⟩
  · exact Below.refl _ _
  · exact Lib.bytesWorld_below _ _ _

set_option maxRecDepth 100000 in
set_option maxHeartbeats 4000000 in
theorem token_digit (l : List UInt8) (c : UInt8) (w : World) (ht : Tab w) (hl : (l.length : Int) ≤ 1000000) (h0 : l.head? = some c) (hc : letters.contains c = false) (hd : digits.contains c = true) :
    Calls Tryd.prog 31 #[.string (sv l)] w fun e w' => e = .returned (.tuple #[.int .i64 (tokn l).1, .string (sv (tokn l).2)]) ∧ Below w.heap.size w w' := by
  obtain ⟨he, hz0, hb⟩ := head_facts l c h0
  have HT := Lib.hid ht
  rw [tok_d l c h0 hc hd]
  have HI := Lib.hid (byte_index letters c w)
  have HD := Lib.hid (byte_index digits c w)
  have hj : Lib.indexByte letters c < 0 := by have := index_mem letters c; rw [hc] at this; simpa using this
  have hi : 0 ≤ Lib.indexByte digits c := by have := index_mem digits c; rw [hd] at this; simpa using this
  generalize Lib.indexByte letters c = j at *
  generalize Lib.indexByte digits c = i at *
  have HS := Lib.hid (span_any l digits w hl (by decide) (ascii_of_all (by decide)))
  have hwl : ((l.takeWhile (digits.contains ·)).length : Int) ≤ 1000000 := by
    have := (List.takeWhile_prefix (digits.contains ·) (l := l)).length_le; omega
  have hw0 : (l.takeWhile (digits.contains ·)).head? = some c := head_span (digits.contains ·) l c h0 hd
  have hwd : ∀ b ∈ l.takeWhile (digits.contains ·), digits.contains b = true := fun b hb => in_span (digits.contains ·) l b hb
  have hwne : l.takeWhile (digits.contains ·) ≠ [] := fun e => by rw [e] at hw0; cases hw0
  generalize l.takeWhile (digits.contains ·) = wd at *
  have hz := sv_size wd
  obtain ⟨_, hz1, hb1⟩ := head_facts wd c hw0
  rw [number_cases wd c hw0]
  have HB0 := Lib.hid (atoi_bad wd)
  have HG0 := Lib.hid (atoi_good wd)
  by_cases hbad : ∀ v, Lib.atoiAll wd ≠ .ok v
  · have hrange : Lib.atoiAll wd = .range := (digits_end wd hwne hwd).resolve_left fun ⟨v, hv⟩ => hbad v hv
    have e1 : (match Lib.atoiAll wd with | .ok v => decide (v ≤ 2147483648) && !(decide (1 < wd.length) && c == 48) | _ => false) = false := by
      rw [hrange]
    rw [e1, if_neg (by simp)]
    have HN := Lib.hid (fun w1 h => HB0.out w1 hwne hwd hwl h hbad)
    clear hbad e1 HB0 HG0 ht h0 hc hd hw0 hwd hwne hrange
    go_enter Tryd.func31, Tryd.ntmps31
    go_wp2_with (fail)
    refine HI.out.mono ?_
    rintro e w1 ⟨rfl, rfl⟩
    go_wp2_with (fail)
    refine HD.out.mono ?_
    rintro e w1 ⟨rfl, rfl⟩
    go_wp2_with (fail)
    refine HS.out.mono ?_
    rintro e w2 ⟨rfl, b2⟩
    have HB := Lib.hid b2
    clear b2
    go_wp2_with (fail)
    refine (HN.out w2 (HT.out.below HB.out)).mono ?_
    rintro e w3 ⟨n, t, b, rfl, b3⟩
    have HB3 := Lib.hid (bt HB.out b3)
    clear b3
    go_wp2
    go_ret2
    exact ⟨rfl, HB3.out⟩
  · obtain ⟨v, hv⟩ : ∃ v, Lib.atoiAll wd = .ok v := Classical.byContradiction fun h => hbad fun v hv => h ⟨v, hv⟩
    simp only [hv]
    have HN := Lib.hid (fun w1 => HG0.out w1 hwl v hv)
    clear hbad hv HB0 HG0 ht h0 hc hd hw0 hwd hwne
    by_cases hmax : v ≤ 2147483648
    · by_cases hlen : 1 < wd.length
      · by_cases h48 : c = 48
        · have e1 : (decide (v ≤ 2147483648) && !(decide (1 < wd.length) && c == 48)) = false := by simp [hmax, hlen, h48]
          rw [e1, if_neg (by simp)]
          have hc1 : (((c.toNat : Nat) : Int) == 48) = true := by rw [h48]; rfl
          clear h48
          have hlen : 1 < (wd.length : Int) := by omega
          go_enter Tryd.func31, Tryd.ntmps31
          go_wp2_with (fail)
          refine HI.out.mono ?_
          rintro e w1 ⟨rfl, rfl⟩
          go_wp2_with (fail)
          refine HD.out.mono ?_
          rintro e w1 ⟨rfl, rfl⟩
          go_wp2_with (fail)
          refine HS.out.mono ?_
          rintro e w2 ⟨rfl, b2⟩
          have HB := Lib.hid b2
          clear b2
          go_wp2_with (fail)
          refine (HN.out w2).mono ?_
          rintro e w3 ⟨rfl, b3⟩
          have HB3 := Lib.hid (bt HB.out b3)
          clear b3
          go_wp2
          go_ret2
          exact ⟨rfl, HB3.out⟩
        · have e1 : (decide (v ≤ 2147483648) && !(decide (1 < wd.length) && c == 48)) = true := by simp [hmax, hlen, h48]
          rw [e1, if_pos rfl]
          have hc1 : (((c.toNat : Nat) : Int) == 48) = false := beq_eq_false_iff_ne.2 (byte_ne h48)
          clear h48
          have hlen : 1 < (wd.length : Int) := by omega
          go_enter Tryd.func31, Tryd.ntmps31
          go_wp2_with (fail)
          refine HI.out.mono ?_
          rintro e w1 ⟨rfl, rfl⟩
          go_wp2_with (fail)
          refine HD.out.mono ?_
          rintro e w1 ⟨rfl, rfl⟩
          go_wp2_with (fail)
          refine HS.out.mono ?_
          rintro e w2 ⟨rfl, b2⟩
          have HB := Lib.hid b2
          clear b2
          go_wp2_with (fail)
          refine (HN.out w2).mono ?_
          rintro e w3 ⟨rfl, b3⟩
          have HB3 := Lib.hid (bt HB.out b3)
          clear b3
          go_wp2
          go_ret2
          exact ⟨rfl, HB3.out⟩
      · have e1 : (decide (v ≤ 2147483648) && !(decide (1 < wd.length) && c == 48)) = true := by simp [hmax, hlen]
        rw [e1, if_pos rfl]
        have hlen : ¬ 1 < (wd.length : Int) := by omega
        go_enter Tryd.func31, Tryd.ntmps31
        go_wp2_with (fail)
        refine HI.out.mono ?_
        rintro e w1 ⟨rfl, rfl⟩
        go_wp2_with (fail)
        refine HD.out.mono ?_
        rintro e w1 ⟨rfl, rfl⟩
        go_wp2_with (fail)
        refine HS.out.mono ?_
        rintro e w2 ⟨rfl, b2⟩
        have HB := Lib.hid b2
        clear b2
        go_wp2_with (fail)
        refine (HN.out w2).mono ?_
        rintro e w3 ⟨rfl, b3⟩
        have HB3 := Lib.hid (bt HB.out b3)
        clear b3
        go_wp2
        go_ret2
        exact ⟨rfl, HB3.out⟩
    · have e1 : (decide (v ≤ 2147483648) && !(decide (1 < wd.length) && c == 48)) = false := by simp [hmax]
      rw [e1, if_neg (by simp)]
      go_enter Tryd.func31, Tryd.ntmps31
      go_wp2_with (fail)
      refine HI.out.mono ?_
      rintro e w1 ⟨rfl, rfl⟩
      go_wp2_with (fail)
      refine HD.out.mono ?_
      rintro e w1 ⟨rfl, rfl⟩
      go_wp2_with (fail)
      refine HS.out.mono ?_
      rintro e w2 ⟨rfl, b2⟩
      have HB := Lib.hid b2
      clear b2
      go_wp2_with (fail)
      refine (HN.out w2).mono ?_
      rintro e w3 ⟨rfl, b3⟩
      have HB3 := Lib.hid (bt HB.out b3)
      clear b3
      go_wp2
      go_ret2
      exact ⟨rfl, HB3.out⟩

theorem find_none_step {p : List UInt8 → Bool} {l : List (List UInt8)} (h : ∀ i (hi : i < l.length), p l[i] = false) : l.find? p = none := by
  rw [List.find?_eq_none]
  intro x hx
  obtain ⟨i, hi, rfl⟩ := List.getElem_of_mem hx
  rw [h i hi]; decide

theorem find_some_step {p : List UInt8 → Bool} : ∀ {l : List (List UInt8)} {k : Nat} (hk : k < l.length), (∀ i (hi : i < l.length), i < k → p l[i] = false) → p l[k] = true → l.find? p = some l[k]
  | [], _, hk, _, _ => absurd hk (Nat.not_lt_zero _)
  | a :: l, 0, _, _, h => by rw [List.find?_cons]; simp only [List.getElem_cons_zero] at h ⊢; rw [h]
  | a :: l, k + 1, hk, h1, h2 => by
    have h0 := h1 0 (by simp) (by omega)
    simp only [List.getElem_cons_zero, List.getElem_cons_succ] at h0 h2 ⊢
    rw [List.find?_cons, h0]
    exact find_some_step (by simpa using hk) (fun i hi hik => by have := h1 (i + 1) (by simpa using hi) (by omega); simpa using this) h2

theorem infoS' : (Tryd.prog.info? 9).isSome = true := by kernel_rfl
theorem infoS : Tryd.prog.info? 9 = some ((Tryd.prog.info? 9).get infoS') := (Option.some_get _).symm

set_option maxRecDepth 100000 in
set_option maxHeartbeats 4000000 in
theorem token_symbol (l : List UInt8) (c : UInt8) (w : World) (ht : Tab w) (hl : (l.length : Int) ≤ 1000000) (h0 : l.head? = some c) (hc : letters.contains c = false) (hd : digits.contains c = false) :
    Calls Tryd.prog 31 #[.string (sv l)] w fun e w' => e = .returned (.tuple #[.int .i64 (tokn l).1, .string (sv (tokn l).2)]) ∧ Below w.heap.size w w' := by
  obtain ⟨he, hz0, hb⟩ := head_facts l c h0
  have HQ := Lib.hid (tok_s l c h0 hc hd)
  have HI := Lib.hid (byte_index letters c w)
  have HD := Lib.hid (byte_index digits c w)
  have hj : Lib.indexByte letters c < 0 := by have := index_mem letters c; rw [hc] at this; simpa using this
  have hi : Lib.indexByte digits c < 0 := by have := index_mem digits c; rw [hd] at this; simpa using this
  have hj : Lib.indexByte letters c = -1 := by have := Lib.indexByte_ge letters c; omega
  have hi : Lib.indexByte digits c = -1 := by have := Lib.indexByte_ge digits c; omega
  rw [hj] at HI
  rw [hi] at HD
  clear hi hj
  obtain ⟨_, ⟨t, fr, h2⟩, _⟩ := ht
  have H2 := Lib.hid h2
  have HP : Hid (∀ (p : List UInt8) w1, Calls Tryd.prog 43 #[.string (sv l), .string (sv p)] w1 fun e w' => e = .returned (.bool (Lib.hasPrefix l p)) ∧ w' = w1) := Lib.hid fun p w1 => strings_HasPrefix (sv l) (sv p) w1
  have HV : Hid (∀ k (hk : k < 28), (strs symbols)[k]? = some (.string (sv (symbols[k]'hk)))) := Lib.hid fun k hk => strs_get symbols k hk
  have HN : Hid ((∀ k (hk : k < 28), Lib.hasPrefix l (symbols[k]'hk) = false) → tokn l = (0, [])) := Lib.hid fun h => by rw [HQ.out, find_none_step (l := symbols) (p := Lib.hasPrefix l) fun i hi => h i hi]
  have HS : Hid (∀ k (hk : k < 28), (∀ i (hi : i < k), Lib.hasPrefix l (symbols[i]'(Nat.lt_trans hi hk)) = false) → Lib.hasPrefix l (symbols[k]'hk) = true → tokn l = (4, symbols[k]'hk)) := Lib.hid fun k hk h1 h2 => by rw [HQ.out, find_some_step (l := symbols) (p := Lib.hasPrefix l) hk (fun i _ hik => h1 i hik) h2]
  have hcs : (Tryd.prog.info? 72).map (·.size) = some (strs symbols).size := by rw [strs_size]; kernel_rfl
  generalize strs symbols = V at *
  clear hc hd h0 h2
  go_enter Tryd.func31, Tryd.ntmps31
  go_wp2_with (fail)
  refine HI.out.mono ?_
  rintro e w1 ⟨rfl, rfl⟩
  go_wp2_with (fail)
  refine HD.out.mono ?_
  rintro e w1 ⟨rfl, rfl⟩
  go_wp2_with (with_reducible refine stop_at (o := ⟨some 57, _, _, _, _, _⟩) ?_)
  unfold Stop
  refine wpList_load_row rfl 72 _ rfl 1 rfl t V fr _ H2.out Tryd.underlying72 rfl hcs ?_
  go_wp2_with (fail)
  go_loop [58] (fun s58 => ∃ k : Nat, k ≤ 28 ∧ s58 = .int .i64 k ∧ Hid (∀ i (hi : i < 28), i < k → Lib.hasPrefix l (symbols[i]'hi) = false)) (fun s58 => 28 - (intOf s58).toNat)
  case atStart => exact ⟨0, Nat.zero_le _, rfl, Lib.hid fun i _ h => absurd h (Nat.not_lt_zero _)⟩
  case round =>
    obtain ⟨k, hk, rfl, HK⟩ := hrel
    by_cases hlt : k < 28
    · have HVK := Lib.hid (HV.out k hlt)
      have HPK := Lib.hid (fun w1 => HP.out (symbols[k]'hlt) w1)
      cases hp : Lib.hasPrefix l (symbols[k]'hlt)
      · have HK1 : Hid (∀ i (hi : i < 28), i < k + 1 → Lib.hasPrefix l (symbols[i]'hi) = false) := Lib.hid fun i hi hik => by
          by_cases h : i < k
          · exact HK.out i hi h
          · obtain rfl : i = k := by omega
            exact hp
        rw [hp] at HPK
        generalize symbols[k]'hlt = s at *
        clear hp
        go_wp2_with (with_reducible refine stop_at (o := ⟨some 60, _, _, _, _, _⟩) ?_)
        unfold Stop
        refine wpl_index rfl 72 _ _ rfl 28 9 Tryd.underlying72 (by kernel_rfl) (by kernel_rfl) _ infoS V rfl .i64 k rfl hlt _ HVK.out ?_
        go_wp2_with (fail)
        refine (HPK.out _).mono ?_
        rintro e w3 ⟨rfl, rfl⟩
        go_wp2
        go_round
        case rel => exact ⟨k + 1, by omega, by go_num, HK1⟩
        case measure => simp [intOf]; omega
      · have HR := Lib.hid (HS.out k hlt (fun i hi => HK.out i (by omega) hi) hp)
        rw [hp] at HPK
        generalize symbols[k]'hlt = s at *
        clear hp
        go_wp2_with (with_reducible refine stop_at (o := ⟨some 60, _, _, _, _, _⟩) ?_)
        unfold Stop
        refine wpl_index rfl 72 _ _ rfl 28 9 Tryd.underlying72 (by kernel_rfl) (by kernel_rfl) _ infoS V rfl .i64 k rfl hlt _ HVK.out ?_
        go_wp2_with (fail)
        refine (HPK.out _).mono ?_
        rintro e w3 ⟨rfl, rfl⟩
        go_wp2
        go_ret2
        exact ⟨by rw [HR.out]; rfl, Below.refl _ _⟩
    · obtain rfl : k = 28 := by omega
      have HR := Lib.hid (HN.out fun i hi => HK.out i hi hi)
      go_wp2
      go_ret2
      exact ⟨by rw [HR.out]; rfl, Below.refl _ _⟩

/-- The token with which a string begins. -/
theorem token_any (l : List UInt8) (w : World) (ht : Tab w) (hl : (l.length : Int) ≤ 1000000) :
    Calls Tryd.prog 31 #[.string (sv l)] w fun e w' => e = .returned (.tuple #[.int .i64 (tokn l).1, .string (sv (tokn l).2)]) ∧ Below w.heap.size w w' := by
  rcases hx : l.head? with _ | c
  · have : l = [] := List.head?_eq_none_iff.1 hx
    subst this
    exact token_empty w
  · cases hc : letters.contains c with
    | true => exact token_letter l c w ht hl hx hc
    | false =>
      cases hd : digits.contains c with
      | true => exact token_digit l c w ht hl hx hc hd
      | false => exact token_symbol l c w ht hl hx hc hd

end Go.Proofs.YtanhljpmknfabaaDoor.LexTok
