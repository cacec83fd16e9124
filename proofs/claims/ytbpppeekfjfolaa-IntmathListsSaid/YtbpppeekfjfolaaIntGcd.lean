/- Greatest common divisors of intmath. -/
import Derived.Test.YtbpppeekfjfolaaIntBasic4
namespace Go.Proofs.Ytbpppeekfjfolaa.IntGcd
set_option linter.unusedVariables false
open Go.RowKit Go.Proofs.Ytbpppeekfjfolaa.IntPlain Go.Proofs.Ytbpppeekfjfolaa.IntWalks Go.Proofs.Ytbpppeekfjfolaa.IntWide Go.Proofs.Ytbpppeekfjfolaa.IntTotal Go.Proofs.Ytbpppeekfjfolaa.IntNumber Go.Proofs.Ytbpppeekfjfolaa.IntSum Go.Proofs.Ytbpppeekfjfolaa.IntAwake Go.Proofs.Ytbpppeekfjfolaa.IntDivision Go.Proofs.Ytbpppeekfjfolaa.IntBasic

theorem gcd_step (x y : Int) : Int.gcd y (x.tmod y) = Int.gcd x y := by
  unfold Int.gcd
  rw [Int.natAbs_tmod, Nat.gcd_comm, ← Nat.gcd_rec, Nat.gcd_comm]

theorem gcd_any (a b : Int) (w : World) (ha : inR a = true) (hb : inR b = true) :
    Calls Try.prog 48 #[.int .i64 a, .int .i64 b] w fun e w' => e = .returned (.int .i64 (Int.gcd a b : Nat)) ∧ Below w.heap.size w w' := by
  have ha' := (inR_iff a).1 ha
  have hb' := (inR_iff b).1 hb
  clear ha hb
  go_enter Try.func48, Try.ntmps48
  go_wp2
  go_loopw [0, 1] (fun u v wr => ∃ x y : Int, u = .int .i64 x ∧ v = .int .i64 y ∧ -4611686018427387904 ≤ x ∧ x ≤ 4611686018427387904 ∧ -4611686018427387904 ≤ y ∧ y ≤ 4611686018427387904 ∧ Hid (Int.gcd x y = Int.gcd a b) ∧ Below w.heap.size w wr) (fun _ v _ => (intOf v).natAbs)
  case atStart => exact ⟨a, b, rfl, rfl, by omega, by omega, by omega, by omega, Lib.hid rfl, Below.refl _ _⟩
  case round =>
    obtain ⟨x, y, rfl, rfl, hx1, hx2, hy1, hy2, HG, HB⟩ := hrel
    have HBB := Lib.hid HB
    clear HB ha' hb'
    by_cases hy : y = 0
    · subst hy
      have e : (Int.gcd a b : Nat) = x.natAbs := by rw [← HG.out, Int.gcd_zero_right]
      have HE := Lib.hid e
      clear e HG
      go_wp2_with (fail)
      refine (abs_any x _ (by omega) (by omega)).mono ?_
      rintro e w' ⟨rfl, rfl⟩
      go_wp2
      go_ret
      exact ⟨by rw [HE.out]; rfl, HBB.out⟩
    · have hy0 : (y != 0) = true := bne_iff_ne.2 hy
      have hr := tmod_zero_range x y hy
      have HG2 : Hid (Int.gcd y (x.tmod y) = Int.gcd a b) := Lib.hid (by rw [gcd_step, HG.out])
      have hr1 : -4611686018427387904 ≤ x.tmod y := by omega
      have hr2 : x.tmod y ≤ 4611686018427387904 := by omega
      have hyz : (y == 0) = false := beq_eq_false_iff_ne.2 hy
      have hys : 0 < y ∨ y < 0 := by omega
      clear hr HG hy
      rcases hys with hys | hys
      all_goals
        go_wp2
        go_quiet (fail)
        go_wp2
        go_roundw
        case rel => exact ⟨y, x.tmod y, rfl, rfl, hy1, hy2, hr1, hr2, HG2, below_drewN HBB.out _⟩
        case measure => simp [intOf]; exact Nat.mod_lt _ (by omega)

/-- The greatest common divisor of a list. -/
def gcds (zs : List Int) : Nat := zs.foldl (fun g n => Int.gcd (g : Int) n) 0

theorem gcds_snoc (zs : List Int) (k : Nat) (h : k < zs.length) : gcds (zs.take (k + 1)) = Int.gcd (gcds (zs.take k) : Nat) (zs.getD k 0) := by
  rw [List.take_succ_eq_append_getElem h]
  unfold gcds
  rw [List.foldl_append]
  simp [List.getD, h]

theorem gcd_range (a b : Int) (ha : inR a = true) (hb : inR b = true) : inR (Int.gcd a b : Nat) = true := by
  have ha' := (inR_iff a).1 ha
  have hb' := (inR_iff b).1 hb
  rw [inR_iff]
  by_cases h : a = 0
  · subst h; rw [Int.gcd_zero_left]; omega
  · have := Nat.gcd_le_left b.natAbs (m := a.natAbs) (by omega)
    unfold Int.gcd
    omega

theorem gcds_range (zs : List Int) (h : zs.all inR = true) : ∀ g : Nat, inR (g : Int) = true → inR ((zs.foldl (fun g n => Int.gcd (g : Int) n) g : Nat) : Int) = true := by
  induction zs with
  | nil => exact fun g hg => hg
  | cons a l ih =>
    rw [List.all_cons, Bool.and_eq_true] at h
    exact fun g hg => ih h.2 _ (gcd_range _ _ hg h.1)

theorem all_of_take (zs : List Int) (k : Nat) (h : zs.all inR = true) : (zs.take k).all inR = true := by
  rw [List.all_eq_true] at h ⊢
  exact fun x hx => h x (List.mem_of_mem_take hx)

/-- What a call that returns a number and an error comes to, where only the range of the arguments counts. -/
theorem out_pair (ok : Bool) (S : Int) : ∃ v e : Int, outcome ok S = .tuple #[.int .i64 v, .int .i64 e] := by
  cases ok <;> exact ⟨_, _, rfl⟩

theorem gcds_any (bl off cap : Nat) (zs : List Int) (w : World) (hbl : bl < w.heap.size) (hlen : zs.length ≤ 1000000) (hc : ∀ i, i < zs.length → w.cell? ⟨bl, off + i, none⟩ = some (.int .i64 (zs.getD i 0))) :
    Calls Try.prog 30 #[.slice (some ⟨bl, off, none⟩) zs.length cap] w fun e w' => e = .returned (outcome (zs.all inR) (gcds zs : Nat)) ∧ Below w.heap.size w w' := by
  have hlen2 : zs.length ≤ 9223372036854775807 := by omega
  by_cases hall : zs.all inR = true
  · have HALL := Lib.hid hall
    have HC := Lib.hid hc
    have HO : Hid (outcome (zs.all inR) (gcds zs : Nat) = .tuple #[.int .i64 (gcds zs : Nat), .int .i64 0]) := Lib.hid (by rw [hall]; rfl)
    clear hall hc
    go_enter Try.func30, Try.ntmps30
    go_wp2_with (fail)
    refine (within_all bl off cap zs _ hlen2 HC.out).mono ?_
    rw [HALL.out]
    rintro e w' ⟨rfl, rfl⟩
    go_wp2_with (fail)
    go_loopw [4, 12] (fun g i wr => ∃ k : Nat, k ≤ zs.length ∧ i = .int .i64 k ∧ g = .int .i64 (gcds (zs.take k) : Nat) ∧ Below w.heap.size w wr) (fun _ i _ => zs.length - (intOf i).toNat)
    case atStart => exact ⟨0, Nat.zero_le _, rfl, rfl, Below.refl _ _⟩
    case round =>
      obtain ⟨k, hk, rfl, rfl, HB⟩ := hrel
      by_cases hlt : k < zs.length
      · have hcell : wr.cell? ⟨bl, off + k, none⟩ = some (.int .i64 (zs.getD k 0)) := by
          rw [HB.cell (p := ⟨bl, off + k, none⟩) hbl]
          exact HC.out k hlt
        have hn : inR (zs.getD k 0) = true := by
          have := List.all_eq_true.1 HALL.out (zs[k]) (List.getElem_mem hlt)
          simpa [List.getD, hlt] using this
        have hg : inR (gcds (zs.take k) : Nat) = true := gcds_range (zs.take k) (all_of_take zs k HALL.out) 0 (by decide)
        have HS := Lib.hid (gcds_snoc zs k hlt)
        generalize zs.getD k 0 = n at *
        generalize gcds (zs.take k) = g at *
        have HGC := Lib.hid (fun w => gcd_any g n w hg hn)
        have HBB := Lib.hid HB
        clear hn hg HB
        go_wp2_with (fail)
        refine (HGC.out _).mono ?_
        rintro e w1 ⟨rfl, hB⟩
        have HB1 := Lib.hid (HBB.out.trans (hB.mono HBB.out.size))
        clear hB
        go_wp2
        go_roundw
        case rel => exact ⟨k + 1, by omega, by go_num, by rw [HS.out], HB1.out⟩
        case measure => simp [intOf]; omega
      · obtain rfl : k = zs.length := by omega
        rw [List.take_length]
        have HBB := Lib.hid HB
        clear HB
        go_wp2
        go_ret2
        exact ⟨by rw [HO.out]; rfl, HBB.out⟩
  · have hf : zs.all inR = false := by simpa using hall
    have HF := Lib.hid hf
    have HC := Lib.hid hc
    clear hall hc hf
    go_enter Try.func30, Try.ntmps30
    go_wp2_with (fail)
    refine (within_all bl off cap zs _ hlen2 HC.out).mono ?_
    rw [HF.out]
    rintro e w' ⟨rfl, rfl⟩
    go_wp2
    go_ret2
    exact ⟨by rw [HF.out]; rfl, Below.refl _ _⟩

/-- The greatest common divisor of two numbers, in the program. -/
theorem gcd_prog (a b : Int) : ∃ v e, Pair 22 a b v e ∧ outcome (inR a && inR b) (Int.gcd a b : Nat) = .tuple #[.int .i64 v, .int .i64 e] := by
  obtain ⟨v, e, hve⟩ := out_pair (inR a && inR b) (Int.gcd a b : Nat)
  refine ⟨v, e, fun w => ?_, hve⟩
  have es : [a, b].all inR = (inR a && inR b) := by simp
  have et : gcds [a, b] = Int.gcd a b := by
    unfold gcds
    simp [Int.gcd]
  have HT : Hid (∀ (bl : Nat) (w : World), bl < w.heap.size → w.cell? ⟨bl, 0, none⟩ = some (.int .i64 a) → w.cell? ⟨bl, 1, none⟩ = some (.int .i64 b) →
      Calls Try.prog 30 #[.slice (some ⟨bl, 0, none⟩) 2 2] w fun x w' => x = .returned (.tuple #[.int .i64 v, .int .i64 e]) ∧ Below w.heap.size w w') := Lib.hid fun bl w hb h0 h1 => by
    have h := gcds_any bl 0 2 [a, b] w hb (by simp) (fun i hi => by
      match i, hi with
      | 0, _ => simpa using h0
      | 1, _ => simpa using h1)
    rw [es, et, hve] at h
    exact h
  clear hve es et
  go_enter Try.func22, Try.ntmps22
  go_wp2_with (fail)
  refine (HT.out w.heap.size _ (by go_size) (by go_cell) (by go_cell)).mono ?_
  rintro x w' ⟨rfl, hB⟩
  go_wp2
  go_ret2
  exact ⟨rfl, bt (by go_grown) hB⟩

end Go.Proofs.Ytbpppeekfjfolaa.IntGcd
