/- The reference's 'Open'. -/
import Derived.Test.YtpgkgagmdjhojaaDigRefSeal
import Derived.Deep.RegionHeld3
namespace Go.Proofs.Ytpgkgagmdjhojaa.DigRefOpen
set_option linter.unusedVariables false
open Go.RowKit Go.Proofs.Ytpgkgagmdjhojaa.DigMul Go.Proofs.Ytpgkgagmdjhojaa.DigExt Go.Proofs.Ytpgkgagmdjhojaa.DigSeal Go.Proofs.Ytpgkgagmdjhojaa.DigParts Go.Proofs.Ytpgkgagmdjhojaa.DigOpen Go.Proofs.Ytpgkgagmdjhojaa.DigRef Go.Proofs.Ytpgkgagmdjhojaa.DigSame Go.Proofs.Ytpgkgagmdjhojaa.DigRefSeal

theorem refOpen_short (A : Option Addr) (n cap : Nat) (w : World) (h : n < 8) :
    Calls Try.prog 14 #[.slice A n cap] w fun e w' => e = .returned (.tuple #[.slice none 0 0, .int .i64 4]) ∧ Below w.heap.size w w' := by
  have h' : ((n : Nat) : Int) < 8 := by omega
  go_enter Try.func14, Try.ntmps14
  go_wp2
  go_ret2
  exact ⟨rfl, Below.refl _ _⟩

set_option maxRecDepth 100000 in
set_option maxHeartbeats 4000000 in
theorem refOpen_main (p0 o0 cap m : Nat) (xs ys : List Int) (w : World) (t : Bool) (hl : Lies w .u8 w.heap.size (some ⟨p0, o0, none⟩) (xs ++ ys)) (bx : Bytes xs) (by' : Bytes ys) (hx : xs.length = m) (hy : ys.length = 8) (hcap : (m : Int) + 8 ≤ (cap : Int)) (hm : (m : Int) ≤ 100000) (ht : decide (ys = sumB (ext 0 xs)) = t) :
    Calls Try.prog 14 #[.slice (some ⟨p0, o0, none⟩) (m + 8) cap] w fun e w' => (t = true ∧ ∃ v, e = .returned (.tuple #[v, .int .i64 0]) ∧ Own w' w.heap.size v xs ∧ Below w.heap.size w w') ∨ (t = false ∧ e = .returned (.tuple #[.slice none 0 0, .int .i64 5]) ∧ Below w.heap.size w w') := by
  obtain ⟨i0, hi, hz0, hz1, hz2⟩ := info_parts byte_info
  have HLX := Lib.hid (lies_take hl)
  have HL := Lib.hid hl
  have hw1 : wrap64 (m : Int) = m := IntWalk.wrap64_in _ (by omega)
  have hw2 : IntKind.i64.wrap (m : Int) = m := IntWalk.i64_in _ (by omega)
  have hm0 : (0 : Int) ≤ (m : Int) := by omega
  have hmc : (m : Int) ≤ (cap : Int) := by omega
  have HX := Lib.hid hx
  have HB := Lib.hid bx
  go_enter Try.func14, Try.ntmps14
  go_wp2_with (with_reducible refine stop_at (o := ⟨some 14, _, _, _, _, _⟩) ?_)
  unfold Stop
  have hlx : (xs.length : Int) = (m : Int) := by rw [hx]
  refine wp_app_ints _ rfl (.tmp 8) (.tmp 13) 22 rfl w.heap.size 5 i0 (.int .u8 0) 1 Try.underlying22 hi hz0 hz1 hz2 rfl (.slice (some ⟨w.heap.size, 0, none⟩) 0 0) 0 [] rfl (World.ownsRow_made w #[] 0 (Nat.le_refl _) (by decide) rfl) .u8 w.heap.size (some ⟨p0, o0, none⟩) cap xs (by rw [hx]; rfl) (HLX.out.below ((Below.refl _ _).alloc (Nat.le_refl _) _)) (by unfold maxLen; omega) (by omega) (by simp) ?_
  intro v0 w0 hown hg _
  have b0 : Below w.heap.size w w0 := ((Below.refl _ _).alloc (Nat.le_refl _) _).grown hg (by simp) (by intro k hk; simp [Value.ownBlock] at hk; omega)
  have B0 := Lib.hid b0
  have hO0 : Own w0 w.heap.size v0 xs := by unfold Own; simpa using hown
  have H0 := Lib.hid hO0
  obtain ⟨A0, c0, rfl, l0⟩ := own_lies hO0
  have HSeal : Hid (∀ w1, Below w0.heap.size w0 w1 → Calls Try.prog 19 #[.slice A0 xs.length c0] w1 fun e w' => ∃ A2 c2, e = .returned (.slice A2 (m + 8) c2) ∧ Below w1.heap.size w1 w' ∧ Lies w' .u8 w'.heap.size A2 (xs ++ sumB (ext 0 xs))) := Lib.hid fun w1 hb => by
    refine (refSeal_any A0 c0 xs w1 (l0.later hb) bx (by omega)).mono ?_
    rintro e w' ⟨v, rfl, hown, b⟩
    obtain ⟨A2, c2, rfl, l2⟩ := own_lies hown
    rw [show (xs ++ sumB (ext 0 xs)).length = m + 8 by rw [List.length_append, hx]; rfl]
    exact ⟨A2, c2, rfl, b, l2⟩
  have HEQ : Hid (((strOfNums (xs ++ sumB (ext 0 xs))).toList == (strOfNums (xs ++ ys)).toList) = t) := Lib.hid (by
    have hr := ext_range xs 0 (by decide) (by decide)
    have bs := sumB_bytes _ hr.1 hr.2
    rw [Lib.strOfNums_toList, Lib.strOfNums_toList, bytes_eq (fun n hn => (List.mem_append.1 hn).elim (bx n) (bs n)) (fun n hn => (List.mem_append.1 hn).elim (bx n) (by' n)), ← ht]
    congr 1
    simp [List.append_cancel_left_eq, eq_comm])
  have HN : Hid ((xs ++ ys).length = m + 8) := Lib.hid (by rw [List.length_append, hx, hy])
  have HN2 : Hid ((xs ++ sumB (ext 0 xs)).length = m + 8) := Lib.hid (by rw [List.length_append, hx]; rfl)
  clear hown hg b0 hl bx by' hy ht l0 hO0
  generalize sumB (ext 0 xs) = sm at *
  rw [hx] at *
  have HCB : Hid (∀ w', Below w.heap.size w w' → (convert 22 9 (.slice (some ⟨p0, o0, none⟩) (m + 8) cap)).run Try.prog w' = .ok (.string (strOfNums (xs ++ ys))) w') := Lib.hid fun w' hb => convert_lies (HL.out.below hb) HN.out
  have HCS : Hid (∀ w' A2 c2, Lies w' .u8 w'.heap.size A2 (xs ++ sm) → (convert 22 9 (.slice A2 (m + 8) c2)).run Try.prog w' = .ok (.string (strOfNums (xs ++ sm))) w') := Lib.hid fun w' A2 c2 hl => convert_lies hl HN2.out
  generalize strOfNums (xs ++ ys) = sb at *
  generalize strOfNums (xs ++ sm) = ss at *
  have heq := HEQ.out
  go_wp2_with (fail)
  have cvb0 := HCB.out _ B0.out
  have cvb1 := HCB.out _ B0.out.drew
  go_region_with (first
      | (go_at_call 19; ((with_reducible refine (HSeal.out _ (Below.refl _ _).drew).mono ?_); rintro e w1 ⟨A2, c2, rfl, b1, l2⟩; have E1 := Lib.hid (bt ((Below.refl w0.heap.size w0).drew) b1); have B1 := Lib.hid (bt B0.out E1.out); have cv := HCS.out _ A2 c2 l2; have cvb := HCB.out _ B1.out; clear b1 l2)))
  all_goals
    cases t
    · go_wp2
      go_ret2
      exact ⟨rfl, B1.out⟩
    · go_wp2
      refine bodyPost_ret (v := .tuple #[.slice A0 m c0, .int .i64 0]) (by simp [results, Try.results14, go_sem]) rfl ⟨_, rfl, own_below H0.out E1.out, B1.out⟩

end Go.Proofs.Ytpgkgagmdjhojaa.DigRefOpen
