/- The law DigestChanges. -/
import Derived.Test.YtpgkgagmdjhojaaDigParts
import Derived.Laws.CopyOwn
import Derived.Test.YtpgkgagmdjhojaaStop
import Derived.Deep.RegionHeld3
namespace Go.Proofs.Ytpgkgagmdjhojaa.DigChanges
set_option linter.unusedVariables false
open Go.RowKit Go.Proofs.Ytpgkgagmdjhojaa.DigMul Go.Proofs.Ytpgkgagmdjhojaa.DigExt Go.Proofs.Ytpgkgagmdjhojaa.DigSeal Go.Proofs.Ytpgkgagmdjhojaa.DigAwake Go.Proofs.Ytpgkgagmdjhojaa.DigParts

theorem add_plain (b o i : Nat) : (⟨b, o, none⟩ : Addr).add i = ⟨b, o + i, none⟩ := by unfold Addr.add; split <;> simp_all

/-- A row of the call's own that is not empty: its block. -/
theorem own_block {w : World} {base : Nat} {e : TypeId} {v : Value} {k : IntKind} {zs : List Int} (h : w.ownsRow base e 1 v zs.length (zs.map (Value.int k))) (h0 : 0 < zs.length) :
    ∃ g cap cur, v = .slice (some ⟨g, 0, none⟩) zs.length cap ∧ base ≤ g ∧ g < w.heap.size ∧ w.heap[g]? = some (.cells cur e (0, 0)) ∧ ∀ i, i < zs.length → w.cell? ⟨g, i, none⟩ = some (.int k (zs.getD i 0)) := by
  rcases h.2 with ⟨rfl, h1⟩ | ⟨g, cap, cur, rfl, hb, hg, hnc, _⟩
  · omega
  · refine ⟨g, cap, cur, rfl, hb, (Array.getElem?_eq_some_iff.1 hg).1, hg, fun i hi => ?_⟩
    have := h.cells (g := g) rfl i (.int k (zs.getD i 0)) (by rw [List.getElem?_map, List.getElem?_eq_getElem hi]; simp [List.getD, hi])
    have ha : (⟨g, 0, none⟩ : Addr).add i = ⟨g, i, none⟩ := by unfold Addr.add; split <;> simp_all
    rwa [ha] at this

/-- A store into a row of the call's own. -/
theorem lies_store {w : World} {g B : Nat} {cur : Array Value} {e : TypeId} {k : IntKind} {zs : List Int} (j : Nat) (n : Int) (hg : w.heap[g]? = some (.cells cur e (0, 0))) (hB : g < B) (hc : ∀ i, i < zs.length → w.cell? ⟨g, i, none⟩ = some (.int k (zs.getD i 0))) (hj : j < zs.length) :
    (w.setCell ⟨g, j, none⟩ (.int k n)).heap[g]? = some (.cells (cur.setIfInBounds j (.int k n)) e (0, 0)) ∧ (∀ i, i < zs.length → (w.setCell ⟨g, j, none⟩ (.int k n)).cell? ⟨g, i, none⟩ = some (.int k ((zs.set j n).getD i 0))) ∧ Lies (w.setCell ⟨g, j, none⟩ (.int k n)) k B (some ⟨g, 0, none⟩) (zs.set j n) := by
  have e1 := setCell_eq_setRow w g j cur e (0, 0) (.int k n) hg
  have h1 : (w.setCell ⟨g, j, none⟩ (.int k n)).heap[g]? = some (.cells (cur.setIfInBounds j (.int k n)) e (0, 0)) := by
    rw [e1]; exact setRow_heap w g cur _ e _ hg
  have h2 : ∀ i, i < zs.length → (w.setCell ⟨g, j, none⟩ (.int k n)).cell? ⟨g, i, none⟩ = some (.int k ((zs.set j n).getD i 0)) := by
    intro i hi
    have old := hc i hi
    have hcell : ∀ q, w.cell? ⟨g, q, none⟩ = cur[q]? := fun q => by simp [World.cell?, hg]
    have hnew : ∀ q, (w.setCell ⟨g, j, none⟩ (.int k n)).cell? ⟨g, q, none⟩ = (cur.setIfInBounds j (.int k n))[q]? := fun q => by simp [World.cell?, h1]
    rw [hnew i]
    rw [hcell i] at old
    by_cases hij : i = j
    · subst hij
      have hlt := (Array.getElem?_eq_some_iff.1 old).1
      simp [hlt, List.getD, hi]
    · rw [Array.getElem?_setIfInBounds, if_neg (by omega), old]
      simp [List.getD, show ¬ j = i by omega]
  refine ⟨h1, h2, fun _ => ⟨⟨g, 0, none⟩, rfl, hB, fun i hi => ?_⟩⟩
  rw [List.length_set] at hi
  have := h2 i hi
  have ha : (⟨g, 0, none⟩ : Addr).add i = ⟨g, i, none⟩ := by unfold Addr.add; split <;> simp_all
  rwa [ha]

theorem plus_one (k n : Nat) (h : k + 1 < n) (hn : ((n : Nat) : Int) ≤ 100) : IntKind.i64.wrap ((k : Int) + 1) = (k : Int) + 1 ∧ (0 : Int) ≤ (k : Int) + 1 ∧ ((k : Int) + 1).toNat = k + 1 := ⟨IntWalk.i64_in _ (by omega), by omega, by omega⟩

/-- What Of gives for bytes that lie in memory. -/
theorem of_lies (A : Option Addr) (cap n : Nat) (zs : List Int) (d : Int) (w : World) (hl : Lies w .u8 w.heap.size A zs) (hb : Hid (Bytes zs)) (hn : zs.length = n) (hlen : zs.length ≤ 100) (hd : Hid (ext 0 zs = d)) :
    Calls Try.prog 15 #[.slice A n cap] w fun e w' => e = .returned (.int .i64 d) ∧ Below w.heap.size w w' := by
  rw [← hn, ← hd.out]
  exact of_any A cap zs w hl hb.out (by omega)

set_option maxRecDepth 100000 in
set_option maxHeartbeats 4000000 in
theorem changes_in (w : World) (p0 o0 : Nat) (c0 : Nat) (Z : List Int) (at' by' c d x X Y S : Int) (k : Nat) (hZ : Lies w .u8 w.heap.size (some ⟨p0, o0, none⟩) Z) (bZ : Bytes Z) (lZ : ((Z.length : Nat) : Int) ≤ 100) (lZ0 : (0 : Int) < ((Z.length : Nat) : Int))
    (hat : 0 ≤ at' ∧ at' ≤ 255) (hby : 0 ≤ by' ∧ by' ≤ 255) (hk : at' % ((Z.length : Nat) : Int) = (k : Int)) (hkn : k < Z.length) (hc : Z.getD k 0 = c) (hd : Z.getD (k + 1) 0 = d) (hx : bits .xor .u8 c by' = x)
    (hX : ext 0 Z = X) (hY : ext 0 (Z.set k x) = Y) (hS : ext 0 ((Z.set k d).set (k + 1) c) = S) (bx : Bytes (Z.set k x)) (bs : Bytes ((Z.set k d).set (k + 1) c))
    (t u : Bool) (h1 : (by' == 0) = t ∧ (Y == X) = t) (h2 : ((k : Int) + 1 == ((Z.length : Nat) : Int)) = true ∨ (k + 1 < Z.length ∧ ((k : Int) + 1 == ((Z.length : Nat) : Int)) = false ∧ (c == d) = u ∧ (S == X) = u)) :
    Calls Try.prog 7 #[.slice (some ⟨p0, o0, none⟩) Z.length c0, .int .u8 at', .int .u8 by'] w fun e w' => e = .returned (.bool true) ∧ Below w.heap.size w w' := by
  obtain ⟨i0, hi, hz0, hz1, hz2⟩ := info_parts byte_info
  obtain ⟨a1, a2⟩ := hat
  obtain ⟨b1, b2⟩ := hby
  have HX := Lib.hid hX
  have HY := Lib.hid hY
  have HS := Lib.hid hS
  have HBZ := Lib.hid bZ
  have HBX := Lib.hid bx
  have HBS := Lib.hid bs
  have LZ := Lib.hid hZ
  have HC := Lib.hid hc
  have HD := Lib.hid hd
  have HKN := Lib.hid hkn
  have hne0 : (((Z.length : Nat) : Int) == 0) = false := beq_eq_false_iff_ne.2 (by omega)
  have hkz : (k : Int) < ((Z.length : Nat) : Int) := by omega
  have HS1 : Hid ((Z.set k x).length = Z.length) := Lib.hid List.length_set
  have HS2 : Hid (((Z.set k d).set (k + 1) c).length = Z.length) := Lib.hid (by rw [List.length_set, List.length_set])
  have HS3 : Hid ((Z.set k d).length = Z.length) := Lib.hid List.length_set
  have OX := Lib.hid (fun w1 (hb : Below w.heap.size w w1) => of_lies (some ⟨p0, o0, none⟩) c0 Z.length Z X w1 (hZ.later hb) HBZ rfl (by omega) HX)
  have CK : Hid (∀ w1, Below w.heap.size w w1 → w1.cell? ⟨p0, o0 + k, none⟩ = some (.int .u8 c)) := Lib.hid fun w1 hb => by
    obtain ⟨ad', e1, e2⟩ := (hZ.later hb).at_ hkn
    injection e1 with e1
    subst e1
    rw [add_plain, hc] at e2
    exact e2
  have CK1 : Hid (k + 1 < Z.length → ∀ w1, Below w.heap.size w w1 → w1.cell? ⟨p0, o0 + (k + 1), none⟩ = some (.int .u8 d)) := Lib.hid fun h w1 hb => by
    obtain ⟨ad', e1, e2⟩ := (hZ.later hb).at_ h
    injection e1 with e1
    subst e1
    rw [add_plain, hd] at e2
    exact e2
  clear hX hY hS bZ bx bs hZ hc hd hkn
  go_enter Try.func7, Try.ntmps7
  go_wp2_with (fail)
  refine (awake_any _).mono ?_
  rintro e w0 ⟨rfl, b0⟩
  have B0 := Lib.hid b0
  have hz := b0.size
  clear b0
  go_wp2_with (with_reducible refine stop_at (o := ⟨some 27, _, _, _, _, _⟩) ?_)
  unfold Stop
  refine wp_app_ints _ rfl (.tmp 25) (.tmp 26) 22 rfl w0.heap.size 5 i0 (.int .u8 0) 1 Try.underlying22 hi hz0 hz1 hz2 rfl (.slice (some ⟨w0.heap.size, 0, none⟩) 0 0) 0 [] rfl (World.ownsRow_made w0 #[] 0 (Nat.le_refl _) (by decide) rfl) .u8 w.heap.size (some ⟨p0, o0, none⟩) c0 Z rfl (LZ.out.below (B0.out.alloc hz _)) (by unfold maxLen; omega) (by omega) (by simp) ?_
  intro v1 w1 hown1 hg1 _
  have b1 : Below w0.heap.size w0 w1 := ((Below.refl _ _).alloc (Nat.le_refl _) _).grown hg1 (by simp) (by intro k hk; simp [Value.ownBlock] at hk; omega)
  have B1 := Lib.hid (bt B0.out b1)
  obtain ⟨g1, q1, cur1, rfl, hbg1, hlt1, hh1, hc1⟩ := own_block (zs := Z) (by simpa using hown1) (by omega)
  have ck1 : w1.cell? ⟨g1, k, none⟩ = some (.int .u8 c) := by rw [hc1 k HKN.out, HC.out]
  have fk1 : w1.frozen? ⟨g1, k, none⟩ = false := frozen_of hh1
  have hgw : w.heap.size ≤ g1 := Nat.le_trans hz hbg1
  have HH1 := Lib.hid hh1
  have HC1 := Lib.hid hc1
  clear hown1 hg1 b1 hh1 hc1
  go_wp2_with (fail)
  refine (of_lies (some ⟨g1, 0, none⟩) q1 Z.length (Z.set k x) Y _ (lies_store k x HH1.out (by go_size) HC1.out HKN.out).2.2 HBX HS1.out (by rw [HS1.out]; omega) HY).mono ?_
  rintro e w2 ⟨rfl, b2⟩
  have B2 := Lib.hid (bt (B1.out.setCell (p := ⟨g1, k, none⟩) hgw (.int .u8 x)) b2)
  have hz2' := B2.out.size
  clear b2 ck1 fk1 HH1 HC1
  go_wp2_with (fail)
  refine (OX.out _ B2.out).mono ?_
  rintro e w3 ⟨rfl, b3⟩
  have B3 := Lib.hid (bt B2.out b3)
  clear b3
  obtain ⟨e1, e2⟩ := h1
  rcases h2 with h2 | ⟨hlt, h2, h3⟩
  · go_wp2
    go_ret
    exact ⟨rfl, B3.out⟩
  · have HLT := Lib.hid hlt
    have hz3 := B3.out.size
    have hkz1 : (k : Int) + 1 < ((Z.length : Nat) : Int) := by omega
    go_wp2_with (with_reducible refine stop_at (o := ⟨some 50, _, _, _, _, _⟩) ?_)
    unfold Stop
    refine wp_app_ints _ rfl (.tmp 48) (.tmp 49) 22 rfl w3.heap.size 5 i0 (.int .u8 0) 1 Try.underlying22 hi hz0 hz1 hz2 rfl (.slice (some ⟨w3.heap.size, 0, none⟩) 0 0) 0 [] rfl (World.ownsRow_made w3 #[] 0 (Nat.le_refl _) (by decide) rfl) .u8 w.heap.size (some ⟨p0, o0, none⟩) c0 Z rfl (LZ.out.below (B3.out.alloc hz3 _)) (by unfold maxLen; omega) (by omega) (by simp) ?_
    intro v4 w4 hown4 hg4 _
    have b4 : Below w3.heap.size w3 w4 := ((Below.refl _ _).alloc (Nat.le_refl _) _).grown hg4 (by simp) (by intro k hk; simp [Value.ownBlock] at hk; omega)
    have B4 := Lib.hid (bt B3.out b4)
    obtain ⟨g4, q4, cur4, rfl, hbg4, hlt4, hh4, hc4⟩ := own_block (zs := Z) (by simpa using hown4) (by omega)
    have hgw4 : w.heap.size ≤ g4 := Nat.le_trans hz3 hbg4
    have HH4 := Lib.hid hh4
    have HC4 := Lib.hid hc4
    have ck4 : w4.cell? ⟨p0, o0 + k, none⟩ = some (.int .u8 c) := CK.out _ B4.out
    have ck5 : w4.cell? ⟨p0, o0 + (k + 1), none⟩ = some (.int .u8 d) := CK1.out HLT.out _ B4.out
    have fk4 : w4.frozen? ⟨g4, k, none⟩ = false := frozen_of hh4
    have fk5 : w4.frozen? ⟨g4, k + 1, none⟩ = false := frozen_of hh4
    have dk4 : w4.cell? ⟨g4, k, none⟩ = some (.int .u8 c) := by rw [hc4 k HKN.out, HC.out]
    have dk5 : w4.cell? ⟨g4, k + 1, none⟩ = some (.int .u8 d) := by rw [hc4 (k + 1) HLT.out, HD.out]
    clear hown4 hg4 b4 hh4 hc4
    go_wp2_with (fail)
    go_region
    have s1 := lies_store k d HH4.out (B := w4.heap.size) hlt4 HC4.out HKN.out
    have s2 := lies_store (k + 1) c s1.1 (B := w4.heap.size) hlt4 (fun i hi => s1.2.1 i (by rw [HS3.out] at hi; exact hi)) (by rw [HS3.out]; exact HLT.out)
    have L5 : Hid (Lies ((w4.setCell ⟨g4, k, none⟩ (.int .u8 d)).setCell ⟨g4, k + 1, none⟩ (.int .u8 c)).drew .u8 w4.heap.size (some ⟨g4, 0, none⟩) ((Z.set k d).set (k + 1) c)) := Lib.hid s2.2.2
    have B5 : Hid (Below w.heap.size w ((w4.setCell ⟨g4, k, none⟩ (.int .u8 d)).setCell ⟨g4, k + 1, none⟩ (.int .u8 c)).drew) := Lib.hid (((B4.out.setCell (p := ⟨g4, k, none⟩) hgw4 _).setCell (p := ⟨g4, k + 1, none⟩) hgw4 _).drew)
    have hsz5 : ((w4.setCell ⟨g4, k, none⟩ (.int .u8 d)).setCell ⟨g4, k + 1, none⟩ (.int .u8 c)).drew.heap.size = w4.heap.size := by simp
    clear s1 s2 ck4 ck5 fk4 fk5 dk4 dk5 HH4 HC4
    generalize ((w4.setCell ⟨g4, k, none⟩ (.int .u8 d)).setCell ⟨g4, k + 1, none⟩ (.int .u8 c)).drew = w5 at *
    have ck6 : w5.cell? ⟨p0, o0 + k, none⟩ = some (.int .u8 c) := CK.out _ B5.out
    have ck7 : w5.cell? ⟨p0, o0 + (k + 1), none⟩ = some (.int .u8 d) := CK1.out HLT.out _ B5.out
    go_wp2_with (fail)
    have OS := Lib.hid (fun w1 (hb : Below w5.heap.size w5 w1) => of_lies (some ⟨g4, 0, none⟩) q4 Z.length ((Z.set k d).set (k + 1) c) S w1 ((hsz5 ▸ L5.out : Lies w5 .u8 w5.heap.size _ _).later hb) HBS HS2.out (by rw [HS2.out]; omega) HS)
    obtain ⟨hwr, hk01, hnat⟩ := plus_one k Z.length hlt lZ
    obtain ⟨e3, e4⟩ := h3
    go_region_held3 (fun w' => w'.cell? ⟨p0, o0 + k, none⟩ = some (.int .u8 c) ∧ w'.cell? ⟨p0, o0 + (k + 1), none⟩ = some (.int .u8 d))
      (first | exact ⟨CK.out _ B7.out, CK1.out HLT.out _ B7.out⟩ | exact ⟨CK.out _ B6.out, CK1.out HLT.out _ B6.out⟩ | exact ⟨CK.out _ B5.out.drew, CK1.out HLT.out _ B5.out.drew⟩ | exact ⟨CK.out _ B5.out, CK1.out HLT.out _ B5.out⟩)
      (first
        | (go_at_call 15; ((with_reducible refine (OS.out _ ((Below.refl _ _).drew)).mono ?_); rintro e w6 ⟨rfl, b6⟩; have B6 := Lib.hid (bt (B5.out.drew) b6); clear b6))
        | (go_at_call 15; ((with_reducible refine (OS.out _ (Below.refl _ _)).mono ?_); rintro e w6 ⟨rfl, b6⟩; have B6 := Lib.hid (bt (B5.out) b6); clear b6))
        | (go_at_call 15; ((with_reducible refine (OX.out _ B6.out).mono ?_); rintro e w7 ⟨rfl, b7⟩; have B7 := Lib.hid (bt B6.out b7); clear b7)))
    go_wp2
    go_ret
    exact ⟨by first | rfl | simp, B7.out⟩

end Go.Proofs.Ytpgkgagmdjhojaa.DigChanges
