/- Sealed strings: the walk of 'Open'. -/
import Derived.Test.YtpgkgagmdjhojaaDigParts
import Derived.Test.YtpgkgagmdjhojaaStop
import Derived.Test.YtpgkgagmdjhojaaLib
namespace Go.Proofs.Ytpgkgagmdjhojaa.DigOpen
set_option linter.unusedVariables false
open Go.RowKit Go.Proofs.Ytpgkgagmdjhojaa.DigMul Go.Proofs.Ytpgkgagmdjhojaa.DigExt Go.Proofs.Ytpgkgagmdjhojaa.DigSeal Go.Proofs.Ytpgkgagmdjhojaa.DigAwake Go.Proofs.Ytpgkgagmdjhojaa.DigParts

theorem add_plain (b o i : Nat) : (⟨b, o, none⟩ : Addr).add i = ⟨b, o + i, none⟩ := by unfold Addr.add; split <;> simp_all

theorem open_short (A : Option Addr) (n cap : Nat) (w : World) (h : n < 8) :
    Calls Try.prog 13 #[.slice A n cap] w fun e w' => e = .returned (.tuple #[.slice none 0 0, .int .i64 4]) ∧ Below w.heap.size w w' := by
  have h' : ((n : Nat) : Int) < 8 := by omega
  go_enter Try.func13, Try.ntmps13
  go_wp2
  go_ret2
  exact ⟨rfl, Below.refl _ _⟩

/-- Bytes as the library counts them. -/
theorem bytes_eq {xs ys : List Int} (hx : Bytes xs) (hy : Bytes ys) : (Lib.bytesOf xs == Lib.bytesOf ys) = decide (xs = ys) := by
  by_cases h : xs = ys
  · subst h; simp
  · rw [decide_eq_false h]
    refine beq_eq_false_iff_ne.2 fun e => h ?_
    clear h
    unfold Lib.bytesOf at e
    induction xs generalizing ys with
    | nil => cases ys with
      | nil => rfl
      | cons _ _ => cases e
    | cons a l ih => cases ys with
      | nil => cases e
      | cons b k =>
        simp only [List.map_cons, List.cons.injEq] at e
        have ha := hx a (by simp)
        have hb := hy b (by simp)
        have e1 := congrArg UInt8.toNat e.1
        simp at e1
        rw [ih (fun n hn => hx n (by simp [hn])) (fun n hn => hy n (by simp [hn])) e.2]
        rw [show a = b by omega]

theorem lies_in {w : World} {A : Option Addr} {xs : List Int} {B n : Nat} (h : Lies w .u8 B A xs) (hx : Bytes xs) (hn : xs.length = n) : Lib.BytesIn w A n xs := fun h0 => by
  obtain ⟨ad, rfl, hlt, hc⟩ := h (by omega)
  obtain ⟨b, o, spot⟩ := ad
  have hs : spot = none := by
    have := World.cell?_spot (hc 0 (by omega))
    simpa [Addr.add] using this
  subst hs
  refine ⟨b, o, rfl, fun i hi => ?_⟩
  have := hc i (by omega)
  rwa [add_plain] at this

theorem equal_any (A1 A2 : Option Addr) (n c m d B1 B2 : Nat) (xs ys : List Int) (w : World) (t : Bool) (h1 : Lies w .u8 B1 A1 xs) (h2 : Lies w .u8 B2 A2 ys) (bx : Bytes xs) (by' : Bytes ys) (hx : xs.length = n) (hy : ys.length = m) (ht : decide (xs = ys) = t) :
    Calls Try.prog 31 #[.slice A1 n c, .slice A2 m d] w fun e w' => e = .returned (.bool t) ∧ w = w' :=
  (bytes_Equal_all A1 A2 n c m d xs ys w hx hy (lies_in h1 bx hx) (lies_in h2 by' hy)).mono fun e w' h => ⟨by rw [h.1, bytes_eq bx by', ht], h.2.symm⟩

theorem lies_take {w : World} {p0 o0 B : Nat} {xs ys : List Int} (h : Lies w .u8 B (some ⟨p0, o0, none⟩) (xs ++ ys)) : Lies w .u8 B (some ⟨p0, o0, none⟩) xs := fun h0 => by
  obtain ⟨ad, e, hlt, hc⟩ := h (by rw [List.length_append]; omega)
  refine ⟨ad, e, hlt, fun i hi => ?_⟩
  rw [hc i (by rw [List.length_append]; omega)]
  simp [List.getD, List.getElem?_append_left hi]
theorem lies_drop {w : World} {p0 o0 B : Nat} {xs ys : List Int} (h : Lies w .u8 B (some ⟨p0, o0, none⟩) (xs ++ ys)) : Lies w .u8 B (some ⟨p0, o0 + xs.length, none⟩) ys := fun h0 => by
  obtain ⟨ad, e, hlt, hc⟩ := h (by rw [List.length_append]; omega)
  injection e with e
  subst e
  refine ⟨⟨p0, o0 + xs.length, none⟩, rfl, hlt, fun i hi => ?_⟩
  have := hc (xs.length + i) (by rw [List.length_append]; omega)
  rw [add_plain] at this ⊢
  rw [Nat.add_assoc, this]
  simp [List.getD, List.getElem?_append_right]

theorem own_down {w : World} {b b' : Nat} {e : TypeId} {c : Nat} {v : Value} {n : Nat} {xs : List Value} (h : w.ownsRow b e c v n xs) (hb : b' ≤ b) : w.ownsRow b' e c v n xs := by
  refine ⟨h.1, ?_⟩
  rcases h.2 with h0 | ⟨g, cap, cur, hv, hbg, hg, rest⟩
  · exact Or.inl h0
  · exact Or.inr ⟨g, cap, cur, hv, Nat.le_trans hb hbg, hg, rest⟩

theorem sumB_bytes (d : Int) (h1 : 0 ≤ d) (h2 : d < 2305843009213693951) : Bytes (sumB d) := by
  intro n hn
  unfold sumB at hn
  simp only [List.mem_cons, List.not_mem_nil, or_false] at hn
  rcases hn with rfl | rfl | rfl | rfl | rfl | rfl | rfl | rfl <;> omega

set_option maxRecDepth 100000 in
set_option maxHeartbeats 4000000 in
theorem open_main (p0 o0 cap m : Nat) (xs ys : List Int) (w : World) (t : Bool) (hl : Lies w .u8 w.heap.size (some ⟨p0, o0, none⟩) (xs ++ ys)) (bx : Bytes xs) (by' : Bytes ys) (hx : xs.length = m) (hy : ys.length = 8) (hcap : (m : Int) + 8 ≤ (cap : Int)) (hm : (m : Int) ≤ 100000) (ht : decide (ys = sumB (ext 0 xs)) = t) :
    Calls Try.prog 13 #[.slice (some ⟨p0, o0, none⟩) (m + 8) cap] w fun e w' => (t = true ∧ ∃ v, e = .returned (.tuple #[v, .int .i64 0]) ∧ Own w' w.heap.size v xs ∧ Below w.heap.size w w') ∨ (t = false ∧ e = .returned (.tuple #[.slice none 0 0, .int .i64 5]) ∧ Below w.heap.size w w') := by
  have hr := ext_range xs 0 (by decide) (by decide)
  have HSum : Hid (∀ w1, Below w.heap.size w w1 → Calls Try.prog 32 #[.slice (some ⟨p0, o0, none⟩) m cap] w1 fun e w' => ∃ A2 c2, e = .returned (.slice A2 8 c2) ∧ Below w1.heap.size w1 w' ∧ Hid (Calls Try.prog 31 #[.slice (some ⟨p0, o0 + m, none⟩) 8 (cap - m), .slice A2 8 c2] w' fun e w3 => e = .returned (.bool t) ∧ w' = w3)) := Lib.hid fun w1 hb => by
    have l1 := (lies_take hl).later hb
    have l2 := (lies_drop hl).later hb
    rw [hx] at l2
    subst hx
    refine (sum_any _ cap xs w1 l1 bx (by omega)).mono ?_
    rintro e w' ⟨v, rfl, hown, b⟩
    obtain ⟨A2, c2, rfl, l3⟩ := own_lies hown
    exact ⟨A2, c2, rfl, b, Lib.hid (equal_any _ _ _ _ _ _ _ _ ys (sumB (ext 0 xs)) w' t (l2.below b) l3 by' (sumB_bytes _ hr.1 hr.2) hy rfl ht)⟩
  have HC : Hid (∀ w1, Below w.heap.size w w1 → Calls Try.prog 33 #[.slice (some ⟨p0, o0, none⟩) m cap] w1 fun e w' => ∃ v, e = .returned v ∧ Own w' w1.heap.size v xs ∧ Below w1.heap.size w1 w') := Lib.hid fun w1 hb => by
    subst hx
    exact clone_any _ cap xs w1 ((lies_take hl).later hb) (by omega) (fun h => by cases h)
  have hw1 : wrap64 (m : Int) = m := IntWalk.wrap64_in _ (by omega)
  have hw2 : IntKind.i64.wrap (m : Int) = m := IntWalk.i64_in _ (by omega)
  have hm0 : (0 : Int) ≤ (m : Int) := by omega
  have hmc : (m : Int) ≤ (cap : Int) := by omega
  clear hl bx by' hx hy ht hr
  go_enter Try.func13, Try.ntmps13
  go_wp2_with (fail)
  have hcm : ¬ cap = m := by omega
  have hcm' : ¬ m = cap := by omega
  have hm8 : (m : Int) ≤ (m : Int) + 8 := by omega
  go_region_with (first
    | (go_at_call 32; ((with_reducible refine (HSum.out _ (Below.refl _ _).drew).mono ?_); rintro e w1 ⟨A2, c2, rfl, b1, HE⟩; have B1 := Lib.hid (bt ((Below.refl w.heap.size w).drew) b1); clear b1))
    | (go_at_call 31; ((with_reducible refine HE.out.mono ?_); rintro e w3 ⟨rfl, rfl⟩)))
  cases t
  · go_wp2
    go_ret2
    exact ⟨rfl, B1.out⟩
  · go_wp2_with (fail)
    refine (HC.out _ B1.out).mono ?_
    rintro e w4 ⟨v, rfl, hown, b4⟩
    have HO := Lib.hid (And.intro hown b4)
    clear hown b4
    go_wp2
    refine bodyPost_ret (v := .tuple #[v, .int .i64 0]) (by simp [results, Try.results13, go_sem]) rfl ⟨v, rfl, ?_, bt B1.out HO.out.2⟩
    have h0 := HO.out.1
    unfold Own at *
    exact own_down h0 B1.out.size

theorem open_ok (p0 o0 cap n : Nat) (xs : List Int) (w : World) (hl : Lies w .u8 w.heap.size (some ⟨p0, o0, none⟩) (xs ++ sumB (ext 0 xs))) (bx : Bytes xs) (hn : n = xs.length + 8) (hcap : n ≤ cap) (hm : xs.length ≤ 100000) :
    Calls Try.prog 13 #[.slice (some ⟨p0, o0, none⟩) n cap] w fun e w' => ∃ v, e = .returned (.tuple #[v, .int .i64 0]) ∧ Own w' w.heap.size v xs ∧ Below w.heap.size w w' := by
  have hr := ext_range xs 0 (by decide) (by decide)
  subst hn
  refine (open_main p0 o0 cap xs.length xs (sumB (ext 0 xs)) w true hl bx (sumB_bytes _ hr.1 hr.2) rfl rfl (by omega) (by omega) (by simp)).mono ?_
  rintro e w' (⟨_, h⟩ | ⟨h, _⟩)
  · exact h
  · cases h

theorem open_bad (p0 o0 cap n : Nat) (xs ys : List Int) (w : World) (hl : Lies w .u8 w.heap.size (some ⟨p0, o0, none⟩) (xs ++ ys)) (bx : Bytes xs) (by' : Bytes ys) (hy : ys.length = 8) (hn : n = xs.length + 8) (hcap : n ≤ cap) (hm : xs.length ≤ 100000) (hne : ys ≠ sumB (ext 0 xs)) :
    Calls Try.prog 13 #[.slice (some ⟨p0, o0, none⟩) n cap] w fun e w' => e = .returned (.tuple #[.slice none 0 0, .int .i64 5]) ∧ Below w.heap.size w w' := by
  subst hn
  refine (open_main p0 o0 cap xs.length xs ys w false hl bx by' rfl hy (by omega) (by omega) (by simp [hne])).mono ?_
  rintro e w' (⟨h, _⟩ | ⟨_, h⟩)
  · cases h
  · exact h

end Go.Proofs.Ytpgkgagmdjhojaa.DigOpen
