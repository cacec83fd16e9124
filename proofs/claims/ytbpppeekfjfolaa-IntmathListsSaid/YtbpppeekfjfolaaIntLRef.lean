/- The reference's digits, and its common divisor of a list. -/
import Derived.Test.YtbpppeekfjfolaaIntLDot
namespace Go.Proofs.Ytbpppeekfjfolaa.IntLRef
set_option linter.unusedVariables false
open Go.RowKit Go.Proofs.Ytbpppeekfjfolaa.IntPlain Go.Proofs.Ytbpppeekfjfolaa.IntWalks Go.Proofs.Ytbpppeekfjfolaa.IntWide Go.Proofs.Ytbpppeekfjfolaa.IntTotal Go.Proofs.Ytbpppeekfjfolaa.IntNumber Go.Proofs.Ytbpppeekfjfolaa.IntSum Go.Proofs.Ytbpppeekfjfolaa.IntAwake Go.Proofs.Ytbpppeekfjfolaa.IntDivision Go.Proofs.Ytbpppeekfjfolaa.IntBasic Go.Proofs.Ytbpppeekfjfolaa.IntGcd Go.Proofs.Ytbpppeekfjfolaa.IntLcm Go.Proofs.Ytbpppeekfjfolaa.IntDigits Go.Proofs.Ytbpppeekfjfolaa.IntLDot

theorem digits_any (n : Int) (w : World) (h : inR n = true) : Calls Try.prog 49 #[.int .i64 n] w fun e w' => e = .returned (.agg #[.int .i64 ((dg n).getD 0 0), .int .i64 ((dg n).getD 1 0), .int .i64 ((dg n).getD 2 0)]) ∧ w' = w.alloc (.cells #[.int .i64 ((dg n).getD 0 0), .int .i64 ((dg n).getD 1 0), .int .i64 ((dg n).getD 2 0)] 47) := by
  have hn := (inR_iff n).1 h
  have r := tdiv_range n 2097152 hn.1 hn.2
  have r2 := tdiv_range (n.tdiv 2097152) 2097152 r.1 r.2
  have a1 := Int.lt_tmod_of_pos n (b := 2097152) (by decide)
  have a2 := Int.tmod_lt_of_pos n (b := 2097152) (by decide)
  have b1 := Int.lt_tmod_of_pos (n.tdiv 2097152) (b := 2097152) (by decide)
  have b2 := Int.tmod_lt_of_pos (n.tdiv 2097152) (b := 2097152) (by decide)
  have e0 : (dg n).getD 0 0 = n.tmod 2097152 := rfl
  have e1 : (dg n).getD 1 0 = (n.tdiv 2097152).tmod 2097152 := rfl
  have e2 : (dg n).getD 2 0 = (n.tdiv 2097152).tdiv 2097152 := rfl
  rw [e0, e1, e2]
  clear e0 e1 e2 h
  go_enter Try.func49, Try.ntmps49
  go_wp2
  go_returns
  exact ⟨rfl, rfl⟩

theorem refGcds_nil (A : Option Addr) (c : Nat) (w : World) : Calls Try.prog 31 #[.slice A 0 c] w fun e w' => e = .returned (.tuple #[.int .i64 0, .int .i64 0]) ∧ Below w.heap.size w w' := by
  go_enter Try.func31, Try.ntmps31
  go_wp2
  refine wp_loop_rounds 1 ?_
  rw [rounds_succ]
  go_wp2
  go_ret2
  exact ⟨rfl, Below.refl _ _⟩

theorem refGcds_in (bl off cap n : Nat) (zs : List Int) (w : World) (hbl : bl < w.heap.size) (hzl : zs.length = n) (hlen : n ≤ 10000) (hc : ∀ i, i < n → w.cell? ⟨bl, off + i, none⟩ = some (.int .i64 (zs.getD i 0))) (hall : zs.all inR = true) :
    Calls Try.prog 31 #[.slice (some ⟨bl, off, none⟩) n cap] w fun e w' => e = .returned (.tuple #[.int .i64 (gcds zs : Nat), .int .i64 0]) ∧ Below w.heap.size w w' := by
  have HC := Lib.hid hc
  have HALL := Lib.hid hall
  have HZ := Lib.hid hzl
  clear hc hall hzl
  go_enter Try.func31, Try.ntmps31
  go_wp2_with (fail)
  go_loopw [4, 5] (fun g i wr => ∃ k : Nat, k ≤ n ∧ i = .int .i64 k ∧ g = .int .i64 (gcds (zs.take k) : Nat) ∧ Below w.heap.size w wr) (fun _ i _ => n - (intOf i).toNat)
  case atStart => exact ⟨0, Nat.zero_le _, rfl, rfl, Below.refl _ _⟩
  case round =>
    obtain ⟨k, hk, rfl, rfl, HB⟩ := hrel
    by_cases hlt : k < n
    · have hcell : wr.cell? ⟨bl, off + k, none⟩ = some (.int .i64 (zs.getD k 0)) := by
        rw [HB.cell (p := ⟨bl, off + k, none⟩) hbl]
        exact HC.out k hlt
      have hn : inR (zs.getD k 0) = true := in_of_all HALL.out (by rw [HZ.out]; exact hlt)
      have hg : inR (gcds (zs.take k) : Nat) = true := gcds_range (zs.take k) (all_of_take zs k HALL.out) 0 (by decide)
      have HS := Lib.hid (gcds_snoc zs k (by rw [HZ.out]; exact hlt))
      generalize zs.getD k 0 = n at *
      generalize gcds (zs.take k) = g at *
      have HGC := Lib.hid (refGcd_in g n hg hn)
      have HBB := Lib.hid HB
      clear hn hg HB
      go_wp2_with (fail)
      refine (HGC.out _).mono ?_
      rintro e w1 ⟨rfl, hB⟩
      have HB1 := Lib.hid (HBB.out.trans (hB.mono HBB.out.size))
      clear hB
      go_wp2
      go_roundw
      case rel => exact ⟨k + 1, by omega, by go_num, by rw [HS.out], HB1.out⟩
      case measure => simp [intOf]; omega
    · obtain rfl : k = n := by omega
      have HE : Hid (zs.take k = zs) := Lib.hid (by rw [← HZ.out, List.take_length])
      have HBB := Lib.hid HB
      clear HB
      go_wp2
      go_ret2
      exact ⟨by rw [HE.out]; rfl, HBB.out⟩

theorem refGcds_out (bl off cap n : Nat) (zs : List Int) (w : World) (hbl : bl < w.heap.size) (hzl : zs.length = n) (hlen : n ≤ 10000) (hc : ∀ i, i < n → w.cell? ⟨bl, off + i, none⟩ = some (.int .i64 (zs.getD i 0))) (hall : zs.all inR = false) :
    Calls Try.prog 31 #[.slice (some ⟨bl, off, none⟩) n cap] w fun e w' => e = .returned (.tuple #[.int .i64 0, .int .i64 2]) ∧ Below w.heap.size w w' := by
  have HC := Lib.hid hc
  have HALL := Lib.hid hall
  have HZ := Lib.hid hzl
  clear hc hall hzl
  go_enter Try.func31, Try.ntmps31
  go_wp2_with (fail)
  go_loopw [4, 5] (fun g i wr => ∃ k : Nat, k ≤ n ∧ i = .int .i64 k ∧ (zs.take k).all inR = true ∧ g = .int .i64 (gcds (zs.take k) : Nat) ∧ Below w.heap.size w wr) (fun _ i _ => n - (intOf i).toNat)
  case atStart => exact ⟨0, Nat.zero_le _, rfl, rfl, rfl, Below.refl _ _⟩
  case round =>
    obtain ⟨k, hk, rfl, hto, rfl, HB⟩ := hrel
    have hne : k < n := by
      rcases Nat.lt_or_ge k n with h | h
      · exact h
      · have e : zs.take k = zs := List.take_of_length_le (by rw [HZ.out]; exact h)
        rw [e, HALL.out] at hto
        cases hto
    have hcell : wr.cell? ⟨bl, off + k, none⟩ = some (.int .i64 (zs.getD k 0)) := by
      rw [HB.cell (p := ⟨bl, off + k, none⟩) hbl]
      exact HC.out k hne
    have hg : inR (gcds (zs.take k) : Nat) = true := gcds_range (zs.take k) hto 0 (by decide)
    have HS := Lib.hid (gcds_snoc zs k (by rw [HZ.out]; exact hne))
    have HT := Lib.hid (all_take zs k (by rw [HZ.out]; exact hne))
    rw [hto] at HT
    clear hto
    generalize zs.getD k 0 = x at *
    generalize gcds (zs.take k) = g at *
    have HBB := Lib.hid HB
    clear HB
    cases hx : inR x
    · have HGC := Lib.hid (refGcd_out g x (by rw [hx, Bool.and_false]))
      clear hg hx
      go_wp2_with (fail)
      refine (HGC.out _).mono ?_
      rintro e w1 ⟨rfl, hB⟩
      have HB1 := Lib.hid (HBB.out.trans (hB.mono HBB.out.size))
      clear hB
      go_wp2
      go_ret2
      exact ⟨rfl, HB1.out⟩
    · have HGC := Lib.hid (refGcd_in g x hg hx)
      rw [hx] at HT
      clear hg hx
      go_wp2_with (fail)
      refine (HGC.out _).mono ?_
      rintro e w1 ⟨rfl, hB⟩
      have HB1 := Lib.hid (HBB.out.trans (hB.mono HBB.out.size))
      clear hB
      go_wp2
      go_roundw
      case rel => exact ⟨k + 1, by omega, by go_num, by rw [HT.out]; rfl, by rw [HS.out], HB1.out⟩
      case measure => simp [intOf]; omega

end Go.Proofs.Ytbpppeekfjfolaa.IntLRef
