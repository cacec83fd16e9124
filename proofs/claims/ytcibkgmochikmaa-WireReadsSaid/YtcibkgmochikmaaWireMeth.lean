/- Reading lists: the methods of a source. -/
import Derived.Test.YtcibkgmochikmaaWireLst
namespace Go.Proofs.Ytcibkgmochikmaa.WireMeth
set_option linter.unusedVariables false
open Go.RowKit Go.Proofs.Ytcibkgmochikmaa.WireBase Go.Proofs.Ytcibkgmochikmaa.WireInt Go.Proofs.Ytcibkgmochikmaa.WireAppend Go.Proofs.Ytcibkgmochikmaa.WireRead Go.Proofs.Ytcibkgmochikmaa.WireParse Go.Proofs.Ytcibkgmochikmaa.WireSrc Go.Proofs.Ytcibkgmochikmaa.WireAwake Go.Proofs.Ytcibkgmochikmaa.WireCode Go.Proofs.Ytcibkgmochikmaa.WireCanon Go.Proofs.Ytcibkgmochikmaa.WireRd Go.Proofs.Ytcibkgmochikmaa.WireLst

theorem rdI_less {lo hi e n : Int} {Z Y : List Int} (hb : Bytes Z) (h : rdI lo hi e Z = .ok (n, Y)) : Y.length < Z.length := by
  unfold rdI at h
  split at h
  · cases h
  · rename_i m s hd
    split at h
    · cases h
      have h1 := dec_range Z n s hd
      have h2 := dec_enc Z hb n s hd
      have h3 := enc_length n h2.1
      rw [List.length_drop]
      omega
    · cases h
theorem rdI_bytes {lo hi e n : Int} {Z Y : List Int} (hb : Bytes Z) (h : rdI lo hi e Z = .ok (n, Y)) : Bytes Y ∧ Y.length < Z.length := by
  refine ⟨?_, rdI_less hb h⟩
  unfold rdI at h
  split at h
  · cases h
  · split at h
    · cases h
      exact drop_bytes hb _
    · cases h
theorem rdT_less {most : Int} {s : ByteArray} {Z Y : List Int} (hb : Bytes Z) (h : rdT most Z = .ok (s, Y)) : Y.length < Z.length := by
  unfold rdT at h
  cases hr : rdI 0 most 3 Z with
  | error e => rw [hr] at h; cases h
  | ok p =>
    obtain ⟨n, X⟩ := p
    rw [hr] at h
    have := rdI_less hb hr
    show Y.length < Z.length
    have h' : (if n ≤ X.length then Except.ok (strOfNums (X.take n.toNat), X.drop n.toNat) else Except.error 4 : Except Int (ByteArray × List Int)) = .ok (s, Y) := h
    split at h'
    · cases h'
      rw [List.length_drop]
      omega
    · cases h'

set_option maxHeartbeats 1000000 in
theorem stop_int (t gm gt e : Nat) (most : Int) (w : World) (he : ((e : Int) == 0) = false) (hcm : w.cell? ⟨gm, 0, none⟩ = some (.int .i64 most))
    (HW : Hid (Calls Try.prog 50 #[.pointer (some ⟨t, 0, none⟩), .int .i64 0, .int .i64 most, .int .i64 3] w fun r w' => r = .returned (.int .i64 0) ∧ Only t w w' ∧ ∃ A n c, Src w' t (.slice A n c) e)) :
    Calls Try.prog 61 #[.pointer (some ⟨t, 0, none⟩), .pointer (some ⟨gm, 0, none⟩), .pointer (some ⟨gt, 0, none⟩)] w fun r w' => r = .returned (.slice none 0 0) ∧ Only t w w' ∧ ∃ A n c, Src w' t (.slice A n c) e := by
  go_enter Try.func61, Try.ntmps61
  go_wp2_with (fail)
  refine HW.out.mono ?_
  rintro r w1 ⟨rfl, ho, A, n, c, S1⟩
  have HO := Lib.hid ho
  have c1 := S1.err
  have HS := Lib.hid S1
  clear ho S1
  go_wp2_with (fail)
  refine wp_loop_rounds 1 ?_
  rw [rounds_succ]
  go_wp2
  go_ret
  exact ⟨rfl, HO.out, A, n, c, HS.out⟩

theorem once_int (t gm gt gl gh B : Nat) (most lo hi : Int) (Z : List Int) (w : World) (hh : Here w t B Z) (hlen : Z.length ≤ 100000) (hm : most ≤ 9223372036854775807) (hcm : w.cell? ⟨gm, 0, none⟩ = some (.int .i64 most))
    (hgt : gt < w.heap.size ∧ gt ≠ t) (hcap : w.cell? ⟨gt, 0, none⟩ = some (.func (.func 49) #[] #[.pointer (some ⟨gl, 0, none⟩), .pointer (some ⟨gh, 0, none⟩)])) (hl : gl < w.heap.size ∧ gl ≠ t ∧ w.cell? ⟨gl, 0, none⟩ = some (.int .i64 lo)) (hh2 : gh < w.heap.size ∧ gh ≠ t ∧ w.cell? ⟨gh, 0, none⟩ = some (.int .i64 hi)) :
    Calls Try.prog 61 #[.pointer (some ⟨t, 0, none⟩), .pointer (some ⟨gm, 0, none⟩), .pointer (some ⟨gt, 0, none⟩)] w fun r w' => ∃ v, r = .returned v ∧ InnerL w w' t B (Value.int .i64) 3 v (rdL (rdI lo hi 2) most Z) := by
  have HW := within_rd t B Z 0 most 3 w hh (by decide)
  have ht : t < w.heap.size := by obtain ⟨_, _, _, _, _, _, h, _⟩ := hh; exact h.lt
  cases hres : rdI 0 most 3 Z with
  | error e =>
    have e1 : rdL (rdI lo hi 2) most Z = .error e := by unfold rdL; rw [hres]
    rw [hres] at HW
    rw [e1]
    have he := rdI_error hres
    obtain ⟨k, rfl⟩ : ∃ k : Nat, e = k := ⟨e.toNat, by omega⟩
    refine (stop_int t gm gt k most w (beq_eq_false_iff_ne.2 (by omega)) hcm (Lib.hid (HW.mono ?_))).mono ?_
    · rintro r w' ⟨v, rfl, ho, rfl, _, h⟩
      exact ⟨rfl, ho, h⟩
    · rintro r w' ⟨rfl, ho, h⟩
      exact ⟨_, rfl, ho, by omega, h⟩
  | ok p =>
    obtain ⟨n, Y⟩ := p
    have h0 := rdI_ok hres
    have hY := rdI_bytes hh.1 hres
    obtain ⟨k, rfl⟩ : ∃ k : Nat, n = k := ⟨n.toNat, by omega⟩
    rw [hres] at HW
    have e1 : rdL (rdI lo hi 2) most Z = rdN (rdI lo hi 2) k Y := by unfold rdL; rw [hres]; rfl
    rw [e1]
    refine list_int t gm gt B k gl gh (rdI lo hi 2) Y w hh.2.1 ht (by omega) (by omega) most hgt hcap hcm (Lib.hid (HW.mono ?_)) (Lib.hid fun wr Y' hf hw => onceInts1_rd t gl gh B Y' lo hi wr hw (hf.cell hl.1 hl.2.1 hl.2.2) (hf.cell hh2.1 hh2.2.1 hh2.2.2)) (Lib.hid fun Y' x Y2 hb h => rdI_less hb h)
    rintro r w' ⟨v, rfl, ho, rfl, h⟩
    exact ⟨rfl, ho, h⟩

set_option maxHeartbeats 1000000 in
theorem stop_string (t gm gt e : Nat) (most : Int) (w : World) (he : ((e : Int) == 0) = false) (hcm : w.cell? ⟨gm, 0, none⟩ = some (.int .i64 most))
    (HW : Hid (Calls Try.prog 50 #[.pointer (some ⟨t, 0, none⟩), .int .i64 0, .int .i64 most, .int .i64 3] w fun r w' => r = .returned (.int .i64 0) ∧ Only t w w' ∧ ∃ A n c, Src w' t (.slice A n c) e)) :
    Calls Try.prog 64 #[.pointer (some ⟨t, 0, none⟩), .pointer (some ⟨gm, 0, none⟩), .pointer (some ⟨gt, 0, none⟩)] w fun r w' => r = .returned (.slice none 0 0) ∧ Only t w w' ∧ ∃ A n c, Src w' t (.slice A n c) e := by
  go_enter Try.func64, Try.ntmps64
  go_wp2_with (fail)
  refine HW.out.mono ?_
  rintro r w1 ⟨rfl, ho, A, n, c, S1⟩
  have HO := Lib.hid ho
  have c1 := S1.err
  have HS := Lib.hid S1
  clear ho S1
  go_wp2_with (fail)
  refine wp_loop_rounds 1 ?_
  rw [rounds_succ]
  go_wp2
  go_ret
  exact ⟨rfl, HO.out, A, n, c, HS.out⟩

theorem once_string (t gm gt gl B : Nat) (most long : Int) (Z : List Int) (w : World) (hh : Here w t B Z) (hlen : Z.length ≤ 100000) (hm : most ≤ 9223372036854775807) (hcm : w.cell? ⟨gm, 0, none⟩ = some (.int .i64 most))
    (hgt : gt < w.heap.size ∧ gt ≠ t) (hcap : w.cell? ⟨gt, 0, none⟩ = some (.func (.func 52) #[] #[.pointer (some ⟨gl, 0, none⟩)])) (hl : gl < w.heap.size ∧ gl ≠ t ∧ w.cell? ⟨gl, 0, none⟩ = some (.int .i64 long)) :
    Calls Try.prog 64 #[.pointer (some ⟨t, 0, none⟩), .pointer (some ⟨gm, 0, none⟩), .pointer (some ⟨gt, 0, none⟩)] w fun r w' => ∃ v, r = .returned v ∧ InnerL w w' t B (Value.string) 9 v (rdL (rdT long) most Z) := by
  have HW := within_rd t B Z 0 most 3 w hh (by decide)
  have ht : t < w.heap.size := by obtain ⟨_, _, _, _, _, _, h, _⟩ := hh; exact h.lt
  cases hres : rdI 0 most 3 Z with
  | error e =>
    have e1 : rdL (rdT long) most Z = .error e := by unfold rdL; rw [hres]
    rw [hres] at HW
    rw [e1]
    have he := rdI_error hres
    obtain ⟨k, rfl⟩ : ∃ k : Nat, e = k := ⟨e.toNat, by omega⟩
    refine (stop_string t gm gt k most w (beq_eq_false_iff_ne.2 (by omega)) hcm (Lib.hid (HW.mono ?_))).mono ?_
    · rintro r w' ⟨v, rfl, ho, rfl, _, h⟩
      exact ⟨rfl, ho, h⟩
    · rintro r w' ⟨rfl, ho, h⟩
      exact ⟨_, rfl, ho, by omega, h⟩
  | ok p =>
    obtain ⟨n, Y⟩ := p
    have h0 := rdI_ok hres
    have hY := rdI_bytes hh.1 hres
    obtain ⟨k, rfl⟩ : ∃ k : Nat, n = k := ⟨n.toNat, by omega⟩
    rw [hres] at HW
    have e1 : rdL (rdT long) most Z = rdN (rdT long) k Y := by unfold rdL; rw [hres]; rfl
    rw [e1]
    refine list_string t gm gt B k gl (rdT long) Y w hh.2.1 ht (by omega) (by omega) most hgt hcap hcm (Lib.hid (HW.mono ?_)) (Lib.hid fun wr Y' hf hw => onceTexts1_rd t gl B Y' long wr hw (hf.cell hl.1 hl.2.1 hl.2.2)) (Lib.hid fun Y' x Y2 hb h => rdT_less hb h)
    rintro r w' ⟨v, rfl, ho, rfl, h⟩
    exact ⟨rfl, ho, h⟩

end Go.Proofs.Ytcibkgmochikmaa.WireMeth
