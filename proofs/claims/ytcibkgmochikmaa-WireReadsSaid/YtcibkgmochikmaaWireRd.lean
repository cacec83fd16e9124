/- Reading: what it comes to, and the program's walks for integers and texts. -/
import Derived.Test.YtcibkgmochikmaaWireCanon
namespace Go.Proofs.Ytcibkgmochikmaa.WireRd
set_option linter.unusedVariables false
open Go.RowKit Go.Proofs.Ytcibkgmochikmaa.WireBase Go.Proofs.Ytcibkgmochikmaa.WireInt Go.Proofs.Ytcibkgmochikmaa.WireAppend Go.Proofs.Ytcibkgmochikmaa.WireRead Go.Proofs.Ytcibkgmochikmaa.WireParse Go.Proofs.Ytcibkgmochikmaa.WireSrc Go.Proofs.Ytcibkgmochikmaa.WireAwake Go.Proofs.Ytcibkgmochikmaa.WireCode Go.Proofs.Ytcibkgmochikmaa.WireCanon

/-- Reading an integer from lo to hi: the number and what is behind it, or the error. -/
def rdI (lo hi e : Int) (Z : List Int) : Except Int (Int × List Int) :=
  match dec Z with
  | none => .error 4
  | some (n, s) => if lo ≤ n ∧ n ≤ hi then .ok (n, Z.drop s.toNat) else .error e

/-- Reading a text of at most so many bytes. -/
def rdT (most : Int) (Z : List Int) : Except Int (ByteArray × List Int) :=
  match rdI 0 most 3 Z with
  | .error e => .error e
  | .ok (n, Y) => if n ≤ Y.length then .ok (strOfNums (Y.take n.toNat), Y.drop n.toNat) else .error 4

/-- A source without an error has the bytes Y. -/
def Here (w : World) (g B : Nat) (Y : List Int) : Prop := Bytes Y ∧ B ≤ w.heap.size ∧ ∃ A c, Y.length ≤ c ∧ (c : Int) ≤ 9223372036854775807 ∧ Src w g (.slice A Y.length c) 0 ∧ Lies w .u8 B A Y

theorem lies_only {w w' : World} {g B : Nat} {v : Value} {e : Int} {A : Option Addr} {zs : List Int} (hl : Lies w .u8 B A zs) (hB : B ≤ w.heap.size) (hs : Src w g v e) (hv : ∀ n, v ≠ .int .u8 n) (h : Only g w w') : Lies w' .u8 B A zs := fun h0 => by
  obtain ⟨ad, rfl, hne⟩ := hs.apart hv hl h0
  obtain ⟨ad', e', hlt, hc⟩ := hl h0
  obtain rfl := Option.some.inj e'
  refine ⟨ad, rfl, hlt, fun i hi => ?_⟩
  rw [← hc i hi]
  exact World.cell?_of_block (by rw [block_add_of]; exact h.block _ (Nat.lt_of_lt_of_le hlt hB) hne)

/-- What reading does to the source itself. -/
def Inner {α : Type} (w w' : World) (g B : Nat) (res : Except Int (α × List Int)) (val : α → Prop) (no : Prop) : Prop :=
  Only g w w' ∧ match res with
  | .error e => no ∧ e ≠ 0 ∧ ∃ A n c, Src w' g (.slice A n c) e
  | .ok (x, Y) => val x ∧ Here w' g B Y

/-- What reading does to a source of which a copy was read. -/
def Outer {α : Type} (w w' : World) (g B : Nat) (v0 : Value) (res : Except Int (α × List Int)) (val : α → Prop) (no : Prop) : Prop :=
  Only g w w' ∧ match res with
  | .error e => no ∧ e ≠ 0 ∧ Src w' g v0 e
  | .ok (x, Y) => val x ∧ Here w' g B Y

theorem drop_bytes {Z : List Int} (h : Bytes Z) (n : Nat) : Bytes (Z.drop n) := fun x hx => h x (List.mem_of_mem_drop hx)

theorem within_rd (g B : Nat) (Z : List Int) (lo hi e : Int) (w : World) (hs : Here w g B Z) (he : e ≠ 0) :
    Calls Try.prog 50 #[.pointer (some ⟨g, 0, none⟩), .int .i64 lo, .int .i64 hi, .int .i64 e] w fun r w' => ∃ v, r = .returned (.int .i64 v) ∧ Inner w w' g B (rdI lo hi e Z) (fun n => v = n) (v = 0) := by
  obtain ⟨hb, hB, A, cap, h1, h2, hs, hl⟩ := hs
  refine (within_any g cap A Z lo hi e w hs (hl.more hB) hb h1 h2).mono ?_
  rintro r w' ⟨v, rfl, hw⟩
  refine ⟨v, rfl, ?_⟩
  unfold rdI
  rcases hw with ⟨hd, hv, rfl⟩ | ⟨m, s, hd, ho, hv, rfl⟩ | ⟨m, s, A', c', hd, ho1, ho2, hv, hcut, rfl⟩
  · rw [hd]
    exact ⟨Only.set 1 _, hv, by decide, A, _, cap, hs.setErr 4⟩
  · rw [hd]
    show Inner _ _ _ _ (if lo ≤ m ∧ m ≤ hi then .ok (m, Z.drop s.toNat) else .error e) _ _
    rw [if_neg (by omega)]
    exact ⟨Only.set 1 _, hv, he, A, _, cap, hs.setErr e⟩
  · rw [hd]
    show Inner _ _ _ _ (if lo ≤ m ∧ m ≤ hi then .ok (m, Z.drop s.toNat) else .error e) _ _
    rw [if_pos ⟨ho1, ho2⟩]
    have hr := dec_range Z m s hd
    have hlen : (Z.drop s.toNat).length = Z.length - s.toNat := List.length_drop
    refine ⟨Only.set 0 _, hv, drop_bytes hb _, by simpa [World.setCell] using hB, A', c', ?_, ?_, ?_, ?_⟩
    · rcases hcut with ⟨_, rfl⟩ | ⟨_, rfl, h3⟩ <;> omega
    · rcases hcut with ⟨_, rfl⟩ | ⟨_, rfl, h3⟩ <;> omega
    · rw [hlen]; exact hs.setRest _
    · exact hcut.lies (lies_only hl hB hs (not_byte _ _ _) (Only.set 0 _)) h1

set_option maxHeartbeats 2000000 in
theorem text_err (g : Nat) (most e : Int) (w : World) (he : e = 3 ∨ e = 4)
    (HW : Hid (Calls Try.prog 50 #[.pointer (some ⟨g, 0, none⟩), .int .i64 0, .int .i64 most, .int .i64 3] w fun r w' => r = .returned (.int .i64 0) ∧ Only g w w' ∧ ∃ A n c, Src w' g (.slice A n c) e)) :
    Calls Try.prog 53 #[.pointer (some ⟨g, 0, none⟩), .int .i64 most] w fun r w' => r = .returned (.string ⟨#[]⟩) ∧ Only g w w' ∧ ∃ A n c, Src w' g (.slice A n c) e := by
  rcases he with rfl | rfl
  all_goals
    go_enter Try.func53, Try.ntmps53
    go_wp2_with (fail)
    refine HW.out.mono ?_
    rintro r w1 ⟨rfl, ho, A, n, c, S1⟩
    have HO := Lib.hid ho
    have c0 := S1.rest
    have c1 := S1.err
    have HS := Lib.hid S1
    clear ho S1
    go_wp2
    go_ret
    exact ⟨rfl, HO.out, A, n, c, HS.out⟩

set_option maxHeartbeats 2000000 in
theorem text_short (g v : Nat) (most : Int) (w : World) (m : Nat) (hv : (m : Int) < (v : Int))
    (HW : Hid (Calls Try.prog 50 #[.pointer (some ⟨g, 0, none⟩), .int .i64 0, .int .i64 most, .int .i64 3] w fun r w' => r = .returned (.int .i64 v) ∧ Only g w w' ∧ ∃ A c, Src w' g (.slice A m c) 0)) :
    Calls Try.prog 53 #[.pointer (some ⟨g, 0, none⟩), .int .i64 most] w fun r w' => r = .returned (.string ⟨#[]⟩) ∧ Only g w w' ∧ ∃ A n c, Src w' g (.slice A n c) 4 := by
  go_enter Try.func53, Try.ntmps53
  go_wp2_with (fail)
  refine HW.out.mono ?_
  rintro r w1 ⟨rfl, ho, A, c, S1⟩
  have HO := Lib.hid ho
  have c0 := S1.rest
  have c1 := S1.err
  have f1 := S1.free 1
  have HS := Lib.hid S1
  clear ho S1
  go_wp2
  go_ret
  exact ⟨rfl, HO.out.trans (Only.set 1 _), A, m, c, HS.out.setErr 4⟩

theorem here_cut {w : World} {g c v B : Nat} {A A' : Option Addr} {c' : Nat} {Y : List Int} (hs : Src w g (.slice A Y.length c) 0) (hl : Lies w .u8 B A Y) (hB : B ≤ w.heap.size) (hb : Bytes Y) (h1 : Y.length ≤ c) (h2 : (c : Int) ≤ 9223372036854775807) (hv : v ≤ Y.length) (hcut : Cut A c v A' c') :
    Here (w.setCell ⟨g, 0, none⟩ (.slice A' (Y.length - v) c')) g B (Y.drop v) := by
  have hlen : (Y.drop v).length = Y.length - v := List.length_drop
  refine ⟨drop_bytes hb _, by simpa [World.setCell] using hB, A', c', ?_, ?_, ?_, ?_⟩
  · rcases hcut with ⟨_, rfl⟩ | ⟨_, rfl, h3⟩ <;> omega
  · rcases hcut with ⟨_, rfl⟩ | ⟨_, rfl, h3⟩ <;> omega
  · rw [hlen]; exact hs.setRest _
  · exact hcut.lies (lies_only hl hB hs (not_byte _ _ _) (Only.set 0 _)) h1

set_option maxHeartbeats 2000000 in
theorem text_ok (g v B : Nat) (most : Int) (w : World) (Y : List Int) (hv : v ≤ Y.length)
    (HW : Hid (Calls Try.prog 50 #[.pointer (some ⟨g, 0, none⟩), .int .i64 0, .int .i64 most, .int .i64 3] w fun r w' => r = .returned (.int .i64 v) ∧ Only g w w' ∧ Here w' g B Y)) :
    Calls Try.prog 53 #[.pointer (some ⟨g, 0, none⟩), .int .i64 most] w fun r w' => r = .returned (.string (strOfNums (Y.take v))) ∧ Only g w w' ∧ Here w' g B (Y.drop v) := by
  go_enter Try.func53, Try.ntmps53
  go_wp2_with (fail)
  refine HW.out.mono ?_
  rintro r w1 ⟨rfl, ho, hb, hBB, A, c, h1, h2, S1, l1⟩
  have HO := Lib.hid ho
  have c0 := S1.rest
  have c1 := S1.err
  have f0 := S1.free 0
  have HS := Lib.hid S1
  have HL := Lib.hid l1
  have HB := Lib.hid hb
  have HBB := Lib.hid hBB
  have H12 := Lib.hid (And.intro h1 h2)
  have hcv := convert_lies (n := v) (cap := c) (xs := Y.take v) (B := B) (A := A) (w := w1) (fun h0 => by
    obtain ⟨ad, e, hl, hc⟩ := HL.out (by rw [List.length_take] at h0; omega)
    refine ⟨ad, e, hl, fun i hi => ?_⟩
    rw [List.length_take] at hi
    rw [hc i (by omega)]
    simp [List.getD, show i < v by omega]) (by rw [List.length_take]; omega)
  have hcl : ((Y.length : Nat) : Int) ≤ (c : Int) := by omega
  have hvl : ((v : Nat) : Int) ≤ ((Y.length : Nat) : Int) := by omega
  obtain ⟨s, hs⟩ : ∃ s, s = strOfNums (Y.take v) := ⟨_, rfl⟩
  rw [← hs] at hcv
  have HSV := Lib.hid hs
  have HVN := Lib.hid hv
  clear ho S1 l1 hb h1 hv hs hBB
  go_wp2
  · go_ret
    exact ⟨by show Ending.returned (Value.string s) = _; rw [HSV.out], HO.out.trans (Only.set 0 _), here_cut HS.out HL.out HBB.out HB.out H12.out.1 H12.out.2 HVN.out (Or.inr ⟨rfl, rfl, by first | rfl | assumption⟩)⟩
  · go_ret
    exact ⟨by show Ending.returned (Value.string s) = _; rw [HSV.out], HO.out.trans (Only.set 0 _), here_cut HS.out HL.out HBB.out HB.out H12.out.1 H12.out.2 HVN.out (Or.inl ⟨rfl, rfl⟩)⟩

theorem rdI_ok {lo hi e n : Int} {Z Y : List Int} (h : rdI lo hi e Z = .ok (n, Y)) : lo ≤ n ∧ n ≤ hi := by
  unfold rdI at h
  split at h
  · cases h
  · split at h
    · rename_i h1
      cases h
      exact h1
    · cases h
theorem rdI_error {lo hi e e' : Int} {Z : List Int} (h : rdI lo hi e Z = .error e') : e' = e ∨ e' = 4 := by
  unfold rdI at h
  split at h
  · cases h; exact Or.inr rfl
  · split at h
    · cases h
    · cases h; exact Or.inl rfl

theorem text_rd (g B : Nat) (Z : List Int) (most : Int) (w : World) (hs : Here w g B Z) :
    Calls Try.prog 53 #[.pointer (some ⟨g, 0, none⟩), .int .i64 most] w fun r w' => ∃ s, r = .returned (.string s) ∧ Inner w w' g B (rdT most Z) (fun x => s = x) True := by
  have HW := within_rd g B Z 0 most 3 w hs (by decide)
  cases hres : rdI 0 most 3 Z with
  | error e =>
    have e1 : rdT most Z = .error e := by unfold rdT; rw [hres]
    rw [hres] at HW
    rw [e1]
    refine (text_err g most e w (rdI_error hres) (Lib.hid (HW.mono ?_))).mono ?_
    · rintro r w' ⟨v, rfl, ho, rfl, _, h⟩
      exact ⟨rfl, ho, h⟩
    · rintro r w' ⟨rfl, ho, h⟩
      exact ⟨_, rfl, ho, trivial, by have := rdI_error hres; omega, h⟩
  | ok p =>
    obtain ⟨n, Y⟩ := p
    have h0 := (rdI_ok hres).1
    obtain ⟨k, rfl⟩ : ∃ k : Nat, n = k := ⟨n.toNat, by omega⟩
    rw [hres] at HW
    by_cases hk : (k : Int) ≤ Y.length
    · have e1 : rdT most Z = .ok (strOfNums (Y.take k), Y.drop k) := by unfold rdT; rw [hres]; exact if_pos hk
      rw [e1]
      refine (text_ok g k B most w Y (by omega) (Lib.hid (HW.mono ?_))).mono ?_
      · rintro r w' ⟨v, rfl, ho, rfl, h⟩
        exact ⟨rfl, ho, h⟩
      · rintro r w' ⟨rfl, ho, h⟩
        exact ⟨_, rfl, ho, rfl, h⟩
    · have e1 : rdT most Z = .error 4 := by unfold rdT; rw [hres]; exact if_neg hk
      rw [e1]
      refine (text_short g k most w Y.length (by omega) (Lib.hid (HW.mono ?_))).mono ?_
      · rintro r w' ⟨v, rfl, ho, rfl, _, _, A, c, _, _, h, _⟩
        exact ⟨rfl, ho, A, c, h⟩
      · rintro r w' ⟨rfl, ho, h⟩
        exact ⟨_, rfl, ho, trivial, by decide, h⟩

set_option maxHeartbeats 1000000 in
theorem onceInt1_rd (g gl gh B : Nat) (Z : List Int) (lo hi : Int) (w : World) (hs : Here w g B Z) (h1 : w.cell? ⟨gl, 0, none⟩ = some (.int .i64 lo)) (h2 : w.cell? ⟨gh, 0, none⟩ = some (.int .i64 hi)) :
    Calls Try.prog 55 #[.pointer (some ⟨g, 0, none⟩), .pointer (some ⟨gl, 0, none⟩), .pointer (some ⟨gh, 0, none⟩)] w fun r w' => ∃ v, r = .returned (.int .i64 v) ∧ Inner w w' g B (rdI lo hi 2 Z) (fun x => v = x) True := by
  have HW := Lib.hid (within_rd g B Z lo hi 2 w hs (by decide))
  clear hs
  generalize rdI lo hi 2 Z = res at *
  go_enter Try.func55, Try.ntmps55
  go_wp2_with (fail)
  refine HW.out.mono ?_
  rintro r w1 ⟨v, rfl, ho, hm⟩
  have HO := Lib.hid ho
  have HM := Lib.hid hm
  clear ho hm
  go_wp2
  go_ret
  refine ⟨v, rfl, HO.out, ?_⟩
  have hm := HM.out
  cases res with
  | error e => exact ⟨trivial, hm.2⟩
  | ok p => exact hm

set_option maxHeartbeats 1000000 in
theorem onceInts1_rd (g gl gh B : Nat) (Z : List Int) (lo hi : Int) (w : World) (hs : Here w g B Z) (h1 : w.cell? ⟨gl, 0, none⟩ = some (.int .i64 lo)) (h2 : w.cell? ⟨gh, 0, none⟩ = some (.int .i64 hi)) :
    Calls Try.prog 49 #[.pointer (some ⟨g, 0, none⟩), .pointer (some ⟨gl, 0, none⟩), .pointer (some ⟨gh, 0, none⟩)] w fun r w' => ∃ v, r = .returned (.int .i64 v) ∧ Inner w w' g B (rdI lo hi 2 Z) (fun x => v = x) True := by
  have HW := Lib.hid (within_rd g B Z lo hi 2 w hs (by decide))
  clear hs
  generalize rdI lo hi 2 Z = res at *
  go_enter Try.func49, Try.ntmps49
  go_wp2_with (fail)
  refine HW.out.mono ?_
  rintro r w1 ⟨v, rfl, ho, hm⟩
  have HO := Lib.hid ho
  have HM := Lib.hid hm
  clear ho hm
  go_wp2
  go_ret
  refine ⟨v, rfl, HO.out, ?_⟩
  have hm := HM.out
  cases res with
  | error e => exact ⟨trivial, hm.2⟩
  | ok p => exact hm

set_option maxHeartbeats 1000000 in
theorem onceText1_rd (g gm B : Nat) (Z : List Int) (most : Int) (w : World) (hs : Here w g B Z) (h1 : w.cell? ⟨gm, 0, none⟩ = some (.int .i64 most)) :
    Calls Try.prog 57 #[.pointer (some ⟨g, 0, none⟩), .pointer (some ⟨gm, 0, none⟩)] w fun r w' => ∃ s, r = .returned (.string s) ∧ Inner w w' g B (rdT most Z) (fun x => s = x) True := by
  have HW := Lib.hid (text_rd g B Z most w hs)
  clear hs
  generalize rdT most Z = res at *
  go_enter Try.func57, Try.ntmps57
  go_wp2_with (fail)
  refine HW.out.mono ?_
  rintro r w1 ⟨v, rfl, hm⟩
  have HM := Lib.hid hm
  clear hm
  go_wp2
  go_ret
  exact ⟨v, rfl, HM.out⟩

set_option maxHeartbeats 1000000 in
theorem onceTexts1_rd (g gm B : Nat) (Z : List Int) (most : Int) (w : World) (hs : Here w g B Z) (h1 : w.cell? ⟨gm, 0, none⟩ = some (.int .i64 most)) :
    Calls Try.prog 52 #[.pointer (some ⟨g, 0, none⟩), .pointer (some ⟨gm, 0, none⟩)] w fun r w' => ∃ s, r = .returned (.string s) ∧ Inner w w' g B (rdT most Z) (fun x => s = x) True := by
  have HW := Lib.hid (text_rd g B Z most w hs)
  clear hs
  generalize rdT most Z = res at *
  go_enter Try.func52, Try.ntmps52
  go_wp2_with (fail)
  refine HW.out.mono ?_
  rintro r w1 ⟨v, rfl, hm⟩
  have HM := Lib.hid hm
  clear hm
  go_wp2
  go_ret
  exact ⟨v, rfl, HM.out⟩

end Go.Proofs.Ytcibkgmochikmaa.WireRd
