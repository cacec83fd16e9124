/- The law DigestSeals. -/
import Derived.Test.YtpgkgagmdjhojaaDigSame
import Derived.Test.YtpgkgagmdjhojaaDigChanges2
namespace Go.Proofs.Ytpgkgagmdjhojaa.DigSeals
set_option linter.unusedVariables false
open Go.RowKit Go.Proofs.Ytpgkgagmdjhojaa.DigMul Go.Proofs.Ytpgkgagmdjhojaa.DigExt Go.Proofs.Ytpgkgagmdjhojaa.DigSeal Go.Proofs.Ytpgkgagmdjhojaa.DigAwake Go.Proofs.Ytpgkgagmdjhojaa.DigParts Go.Proofs.Ytpgkgagmdjhojaa.DigOpen Go.Proofs.Ytpgkgagmdjhojaa.DigSame Go.Proofs.Ytpgkgagmdjhojaa.DigChanges

/-- A row of the call's own that is not empty: its block, and that it has room. -/
theorem own_room {w : World} {base : Nat} {e : TypeId} {v : Value} {k : IntKind} {zs : List Int} (h : w.ownsRow base e 1 v zs.length (zs.map (Value.int k))) (h0 : 0 < zs.length) :
    ∃ g cap cur, v = .slice (some ⟨g, 0, none⟩) zs.length cap ∧ zs.length ≤ cap ∧ base ≤ g ∧ g < w.heap.size ∧ w.heap[g]? = some (.cells cur e (0, 0)) ∧ ∀ i, i < zs.length → w.cell? ⟨g, i, none⟩ = some (.int k (zs.getD i 0)) := by
  obtain ⟨g, cap, cur, rfl, hb, hlt, hg, hc⟩ := own_block h h0
  rcases h.2 with ⟨h1, _⟩ | ⟨g', cap', cur', h1, _, _, hnc, _⟩
  · cases h1
  · injection h1 with _ _ h2
    subst h2
    exact ⟨g, cap, cur, rfl, hnc, hb, hlt, hg, hc⟩

set_option maxRecDepth 100000 in
set_option maxHeartbeats 4000000 in
theorem seals_in (w : World) (A0 : Option Addr) (c0 : Nat) (Z S : List Int) (at' by' c x f : Int) (k N : Nat) (hZ : Lies w .u8 w.heap.size A0 Z) (bZ : Bytes Z) (lZ : ((Z.length : Nat) : Int) ≤ 100) (hn : A0 = none → c0 = 0)
    (hS : S = Z ++ sumB (ext 0 Z)) (hN : S.length = N) (hN8 : (N : Int) = ((Z.length : Nat) : Int) + 8) (hat : 0 ≤ at' ∧ at' ≤ 255) (hby : 0 ≤ by' ∧ by' ≤ 255) (hk : at' % (N : Int) = (k : Int)) (hkn : k < N) (hc : S.getD k 0 = c) (hx : bits .xor .u8 c by' = x)
    (HOP : Hid (∀ w1 g q, Lies w1 .u8 w1.heap.size (some ⟨g, 0, none⟩) (S.set k x) → N ≤ q → Calls Try.prog 13 #[.slice (some ⟨g, 0, none⟩) N q] w1 fun e w' => ∃ v, e = .returned (.tuple #[v, .int .i64 f]) ∧ Below w1.heap.size w1 w'))
    (hf : (by' = 0 ∧ f = 0) ∨ (by' ≠ 0 ∧ f = 5)) :
    Calls Try.prog 9 #[.slice A0 Z.length c0, .int .u8 at', .int .u8 by'] w fun e w' => e = .returned (.bool true) ∧ Below w.heap.size w w' := by
  obtain ⟨a1, a2⟩ := hat
  obtain ⟨b1, b2⟩ := hby
  have HZ := Lib.hid hZ
  have HSeal : Hid (∀ w1, Below w.heap.size w w1 → Calls Try.prog 18 #[.slice A0 Z.length c0] w1 fun e w' => ∃ g q cur, e = .returned (.slice (some ⟨g, 0, none⟩) N q) ∧ N ≤ q ∧ w1.heap.size ≤ g ∧ g < w'.heap.size ∧ Hid (w'.heap[g]? = some (.cells cur 5 (0, 0))) ∧ Hid (∀ i, i < N → w'.cell? ⟨g, i, none⟩ = some (.int .u8 (S.getD i 0))) ∧ Below w1.heap.size w1 w') := Lib.hid fun w1 hb => by
    refine (seal_any A0 c0 Z w1 (hZ.later hb) bZ (by omega) hn).mono ?_
    rintro e w' ⟨v, rfl, hown, b⟩
    rw [← hS] at hown
    obtain ⟨g, q, cur, rfl, h1, h2, h3, h4, h5⟩ := own_room hown (by omega)
    rw [hN] at h1 h5 ⊢
    exact ⟨g, q, cur, rfl, h1, h2, h3, Lib.hid h4, Lib.hid h5, b⟩
  have HOK : Hid (∀ w1 g q, g < w1.heap.size → (∀ i, i < N → w1.cell? ⟨g, i, none⟩ = some (.int .u8 (S.getD i 0))) → N ≤ q → Below w.heap.size w w1 → Calls Try.prog 13 #[.slice (some ⟨g, 0, none⟩) N q] w1 fun e w' => ∃ A2 q2, e = .returned (.tuple #[.slice A2 Z.length q2, .int .i64 0]) ∧ Below w1.heap.size w1 w' ∧ Hid (Calls Try.prog 17 #[.slice A2 Z.length q2, .slice A0 Z.length c0] w' fun e w'' => e = .returned (.bool true) ∧ Below w'.heap.size w' w'')) := Lib.hid fun w1 g q hg hcell hq hb => by
    have hl : Lies w1 .u8 w1.heap.size (some ⟨g, 0, none⟩) (Z ++ sumB (ext 0 Z)) := by
      rw [← hS]
      exact fun _ => ⟨⟨g, 0, none⟩, rfl, hg, fun i hi => by
        have ha : (⟨g, 0, none⟩ : Addr).add i = ⟨g, i, none⟩ := by rw [DigOpen.add_plain, Nat.zero_add]
        rw [ha]; exact hcell i (by omega)⟩
    refine (open_ok g 0 q N Z w1 hl bZ (by omega) hq (by omega)).mono ?_
    rintro e w' ⟨v, rfl, hown, b⟩
    obtain ⟨A2, q2, rfl, l2⟩ := own_lies hown
    refine ⟨A2, q2, rfl, b, Lib.hid ?_⟩
    refine (same_any A2 A0 _ _ _ _ _ _ Z Z w' l2 (hZ.below (hb.trans (b.mono hb.size))) bZ bZ rfl rfl).mono ?_
    rintro e w'' ⟨rfl, b⟩
    exact ⟨by simp, b⟩
  have HC := Lib.hid hc
  have HKN := Lib.hid hkn
  have HNS := Lib.hid hN
  have hkz : (k : Int) < (N : Int) := by omega
  have hne0 : ((N : Int) == 0) = false := beq_eq_false_iff_ne.2 (by omega)
  have hne1 : ((N : Int) == ((Z.length : Nat) : Int) + 8) = true := by rw [beq_iff_eq]; exact hN8
  have hne2 : ((N : Int) != ((Z.length : Nat) : Int) + 8) = false := by rw [bne_eq_false_iff_eq]; exact hN8
  have hN0 : (0 : Int) < (N : Int) := by omega
  clear hZ bZ hS hN hc hkn hN8
  go_enter Try.func9, Try.ntmps9
  go_wp2_with (fail)
  refine (awake_any _).mono ?_
  rintro e w0 ⟨rfl, b0⟩
  have B0 := Lib.hid b0
  clear b0
  go_wp2_with (fail)
  refine (HSeal.out _ B0.out).mono ?_
  rintro e w1 ⟨g, q, cur, rfl, hq, hg1, hg2, HH, HCell, b1⟩
  have B1 := Lib.hid (bt B0.out b1)
  have hgw : w.heap.size ≤ g := Nat.le_trans B0.out.size hg1
  clear b1
  go_wp2_with (fail)
  refine (HOK.out _ g q hg2 HCell.out hq B1.out).mono ?_
  rintro e w2 ⟨A2, q2, rfl, b2, HSame⟩
  have B2 := Lib.hid (bt B1.out b2)
  have E2 := Lib.hid b2
  clear b2
  go_wp2_with (fail)
  refine HSame.out.mono ?_
  rintro e w3 ⟨rfl, b3⟩
  have B3 := Lib.hid (bt B2.out b3)
  have E3 := Lib.hid (bt E2.out b3)
  clear b3
  have hh3 : w3.heap[g]? = some (.cells cur 5 (0, 0)) := (E3.out.block g hg2).trans HH.out
  have hc3 : ∀ i, i < N → w3.cell? ⟨g, i, none⟩ = some (.int .u8 (S.getD i 0)) := fun i hi => (E3.out.cell (p := ⟨g, i, none⟩) hg2).trans (HCell.out i hi)
  have ck : w3.cell? ⟨g, k, none⟩ = some (.int .u8 c) := by rw [hc3 k HKN.out, HC.out]
  have fk : w3.frozen? ⟨g, k, none⟩ = false := frozen_of hh3
  have hg3 : g < w3.heap.size := Nat.lt_of_lt_of_le hg2 E3.out.size
  have LS := Lib.hid (lies_store k x hh3 hg3 (fun i hi => hc3 i (by rw [← HNS.out]; exact hi)) (by rw [HNS.out]; exact HKN.out)).2.2
  have B4 := Lib.hid (B3.out.setCell (p := ⟨g, k, none⟩) hgw (.int .u8 x))
  clear hh3 hc3
  go_wp2_with (fail)
  refine (HOP.out _ g q (LS.out.more (by simp)) hq).mono ?_
  rintro e w5 ⟨v5, rfl, b5⟩
  have B5 := Lib.hid (bt B4.out b5)
  clear b5
  rcases hf with ⟨rfl, rfl⟩ | ⟨e1, rfl⟩
  · go_wp2
    go_ret
    exact ⟨by first | rfl | simp, B5.out⟩
  · have e2 : (by' == 0) = false := beq_eq_false_iff_ne.2 e1
    have e3 : (by' != 0) = true := by simp [e1]
    go_wp2
    go_ret
    exact ⟨by first | rfl | simp, B5.out⟩

end Go.Proofs.Ytpgkgagmdjhojaa.DigSeals
