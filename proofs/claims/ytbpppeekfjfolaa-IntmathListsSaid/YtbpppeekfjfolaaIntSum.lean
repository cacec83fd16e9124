/- Sums of lists of intmath. -/
import Derived.Test.YtbpppeekfjfolaaIntNumber
namespace Go.Proofs.Ytbpppeekfjfolaa.IntSum
set_option linter.unusedVariables false
open Go.RowKit Go.Proofs.Ytbpppeekfjfolaa.IntPlain Go.Proofs.Ytbpppeekfjfolaa.IntWalks Go.Proofs.Ytbpppeekfjfolaa.IntWide Go.Proofs.Ytbpppeekfjfolaa.IntTotal Go.Proofs.Ytbpppeekfjfolaa.IntNumber

/-- What a call that returns a number and an error comes to: the number, or 0 and the error 2. -/
def outcome (ok : Bool) (S : Int) : Value := if ok then .tuple #[.int .i64 S, .int .i64 0] else .tuple #[.int .i64 0, .int .i64 2]

theorem sum_snoc (zs : List Int) (k : Nat) (h : k < zs.length) : (zs.take (k + 1)).sum = (zs.take k).sum + zs.getD k 0 := by
  rw [List.take_succ_eq_append_getElem h, List.sum_append]
  simp [List.getD, h]

theorem sum_bound (zs : List Int) (h : zs.all inR = true) : -4611686018427387904 * (zs.length : Int) ≤ zs.sum ∧ zs.sum ≤ 4611686018427387904 * (zs.length : Int) := by
  induction zs with
  | nil => simp
  | cons a l ih =>
    rw [List.all_cons, Bool.and_eq_true] at h
    have h1 := (inR_iff a).1 h.1
    have h2 := ih h.2
    rw [List.sum_cons, List.length_cons]
    omega

theorem within_all (b off cap : Nat) (zs : List Int) (w : World) (hlen : zs.length ≤ 9223372036854775807) (hc : ∀ i, i < zs.length → w.cell? ⟨b, off + i, none⟩ = some (.int .i64 (zs.getD i 0))) :
    Calls Try.prog 38 #[.slice (some ⟨b, off, none⟩) zs.length cap] w fun e w' => e = .returned (.bool (zs.all inR)) ∧ w = w' :=
  (within_any b off cap zs w hlen hc).mono fun _ _ ⟨h, h'⟩ => ⟨h, h'.symm⟩

/-- The long number that lies at b in a world that has grown out of w: its words, and the integer that they stand for. -/
structure Holds (b : Nat) (S : Int) (x y z : Nat) (w wr : World) : Prop where
  rep : Rep x y z S
  c0 : wr.cell? ⟨b, 0, none⟩ = some (.int .u64 x)
  c1 : wr.cell? ⟨b, 1, none⟩ = some (.int .u64 y)
  c2 : wr.cell? ⟨b, 2, none⟩ = some (.int .u64 z)
  f0 : wr.frozen? ⟨b, 0, none⟩ = false
  f1 : wr.frozen? ⟨b, 1, none⟩ = false
  f2 : wr.frozen? ⟨b, 2, none⟩ = false
  old : w.heap.size ≤ b
  lt : b < wr.heap.size
  below : Below w.heap.size w wr

theorem holds_step {b : Nat} {S S' : Int} {x y z : Nat} {w wr w1 : World} {e : Ending} (h : Holds b S x y z w wr) (ha : Added b S' wr e w1) : ∃ x y z, Holds b S' x y z w w1 := by
  obtain ⟨_, x', y', z', hr, o, rfl⟩ := ha
  refine ⟨x', y', z', hr, ?_, ?_, ?_, ?_, ?_, ?_, h.old, ?_, ?_⟩
  · have := h.c0; have := h.lt; go_cell
  · have := h.c1; have := h.lt; go_cell
  · have := h.c2; have := h.lt; go_cell
  · have := h.f0; have := h.lt; go_cell
  · have := h.f1; have := h.lt; go_cell
  · have := h.f2; have := h.lt; go_cell
  · have := h.lt; go_size
  · have := h.below; have := h.old; have := h.below.size; go_grown

set_option maxHeartbeats 400000 in
theorem total_any (bl off cap : Nat) (zs : List Int) (w : World) (hbl : bl < w.heap.size) (hlen : zs.length ≤ 1000000) (hc : ∀ i, i < zs.length → w.cell? ⟨bl, off + i, none⟩ = some (.int .i64 (zs.getD i 0))) :
    Calls Try.prog 37 #[.slice (some ⟨bl, off, none⟩) zs.length cap] w fun e w' => e = .returned (outcome (zs.all inR && inR zs.sum) zs.sum) ∧ Below w.heap.size w w' := by
  by_cases hall : zs.all inR = true
  · have HALL := Lib.hid hall
    have HC := Lib.hid hc
    clear hall hc
    have hlen2 : zs.length ≤ 9223372036854775807 := by omega
    go_enter Try.func37, Try.ntmps37
    go_wp2_with (fail)
    refine (within_all bl off cap zs _ hlen2 HC.out).mono ?_
    rw [HALL.out]
    rintro e w' ⟨rfl, rfl⟩
    go_wp2_with (fail)
    go_loopw [12] (fun i wr => ∃ k x y z : Nat, k ≤ zs.length ∧ i = .int .i64 k ∧ Holds w.heap.size (zs.take k).sum x y z w wr) (fun i _ => zs.length - (intOf i).toNat)
    case atStart =>
      refine ⟨0, 0, 0, 0, Nat.zero_le _, rfl, rep_zero, ?_, ?_, ?_, ?_, ?_, ?_, Nat.le_refl _, ?_, ?_⟩
      · go_cell
      · go_cell
      · go_cell
      · go_cell
      · go_cell
      · go_cell
      · go_size
      · go_grown
    case round =>
      obtain ⟨k, x, y, z, hk, rfl, H⟩ := hrel
      by_cases hlt : k < zs.length
      · have hcell : wr.cell? ⟨bl, off + k, none⟩ = some (.int .i64 (zs.getD k 0)) := by
          rw [H.below.cell (p := ⟨bl, off + k, none⟩) hbl]
          exact HC.out k hlt
        have hn : inR (zs.getD k 0) = true := by
          have := List.all_eq_true.1 HALL.out (zs[k]) (List.getElem_mem hlt)
          simpa [List.getD, hlt] using this
        have HS := Lib.hid (sum_snoc zs k hlt)
        generalize zs.getD k 0 = n at *
        have HN := Lib.hid hn
        have HH := Lib.hid H
        clear hn H
        go_wp2_with (fail)
        refine (add_any _ x y z (zs.take k).sum _ n 1 HH.out.lt HH.out.rep HN.out (by decide) HH.out.c0 HH.out.c1 HH.out.c2 HH.out.f0 HH.out.f1 HH.out.f2).mono ?_
        intro e w1 hadd
        have HA := Lib.hid (holds_step HH.out hadd)
        obtain ⟨rfl, _⟩ := hadd
        go_wp2
        go_roundw
        case rel =>
          obtain ⟨x', y', z', H'⟩ := HA.out
          exact ⟨k + 1, x', y', z', by omega, by go_num, by rw [HS.out, ← Int.mul_one n]; exact H'⟩
        case measure => simp [intOf]; omega
      · obtain rfl : k = zs.length := by omega
        rw [List.take_length] at H
        have HH := Lib.hid H
        clear H
        go_wp2_with (fail)
        by_cases hs : inR zs.sum = true
        · have HO : Hid (outcome (zs.all inR && inR zs.sum) zs.sum = .tuple #[.int .i64 zs.sum, .int .i64 0]) := Lib.hid (by rw [HALL.out, hs]; rfl)
          refine (number_ok _ x y z zs.sum _ HH.out.rep hs HH.out.c0 HH.out.c1 HH.out.c2).mono ?_
          rintro e w1 ⟨rfl, hB⟩
          have HB := Lib.hid (HH.out.below.trans (hB.mono HH.out.below.size))
          clear hB hs
          go_wp2
          go_ret2
          exact ⟨by rw [HO.out]; rfl, HB.out⟩
        · have hs' : inR zs.sum = false := by simpa using hs
          have HO : Hid (outcome (zs.all inR && inR zs.sum) zs.sum = .tuple #[.int .i64 0, .int .i64 2]) := Lib.hid (by rw [HALL.out, hs']; rfl)
          have hsb := sum_bound zs HALL.out
          refine (number_no _ x y z zs.sum _ HH.out.rep hs' (by omega) (by omega) HH.out.c0 HH.out.c1 HH.out.c2).mono ?_
          rintro e w1 ⟨rfl, hB⟩
          have HB := Lib.hid (HH.out.below.trans (hB.mono HH.out.below.size))
          clear hB hs hs' hsb
          go_wp2
          go_ret2
          exact ⟨by rw [HO.out]; rfl, HB.out⟩
  · have hf : zs.all inR = false := by simpa using hall
    have HF := Lib.hid hf
    have HC := Lib.hid hc
    clear hall hc hf
    have hlen2 : zs.length ≤ 9223372036854775807 := by omega
    go_enter Try.func37, Try.ntmps37
    go_wp2_with (fail)
    refine (within_all bl off cap zs _ hlen2 HC.out).mono ?_
    rw [HF.out]
    rintro e w' ⟨rfl, rfl⟩
    go_wp2
    go_ret2
    exact ⟨by rw [HF.out]; rfl, Below.refl _ _⟩

theorem sum_any (bl off cap : Nat) (zs : List Int) (w : World) (hbl : bl < w.heap.size) (hlen : zs.length ≤ 10000) (hc : ∀ i, i < zs.length → w.cell? ⟨bl, off + i, none⟩ = some (.int .i64 (zs.getD i 0))) :
    Calls Try.prog 32 #[.slice (some ⟨bl, off, none⟩) zs.length cap] w fun e w' => e = .returned (outcome (zs.all inR && inR zs.sum) zs.sum) ∧ Below w.heap.size w w' := by
  have HT := Lib.hid (total_any bl off cap zs w hbl (by omega) hc)
  have hl : (zs.length : Int) ≤ 10000 := by omega
  clear hc
  have ho : ∀ (ok : Bool) (S : Int), ∃ a b : Int, outcome ok S = .tuple #[.int .i64 a, .int .i64 b] := fun ok S => by cases ok <;> exact ⟨_, _, rfl⟩
  obtain ⟨u, v, huv⟩ := ho (zs.all inR && inR zs.sum) zs.sum
  rw [huv] at HT
  have HU := Lib.hid huv
  clear ho huv
  go_enter Try.func32, Try.ntmps32
  go_wp2_with (fail)
  refine HT.out.mono ?_
  rintro e w' ⟨rfl, hB⟩
  go_wp2
  go_ret2
  exact ⟨by rw [HU.out]; rfl, hB⟩

end Go.Proofs.Ytbpppeekfjfolaa.IntSum
