/- The law WireReads: its walk. -/
import Derived.Test.YtcibkgmochikmaaWireReads3
import Derived.Test.YtcibkgmochikmaaWireInv
import Derived.Test.YtcibkgmochikmaaStructs
namespace Go.Proofs.Ytcibkgmochikmaa.WireReads
set_option linter.unusedVariables false
open Go.RowKit Go.Proofs.Ytcibkgmochikmaa.WireBase Go.Proofs.Ytcibkgmochikmaa.WireInt Go.Proofs.Ytcibkgmochikmaa.WireAppend Go.Proofs.Ytcibkgmochikmaa.WireRead Go.Proofs.Ytcibkgmochikmaa.WireParse Go.Proofs.Ytcibkgmochikmaa.WireCode Go.Proofs.Ytcibkgmochikmaa.WireCanon Go.Proofs.Ytcibkgmochikmaa.WireText Go.Proofs.Ytcibkgmochikmaa.WireAwake
open Go.Proofs.Ytcibkgmochikmaa.WireSrc (Only Cut not_byte)

theorem both_new (w2 w4 : World) (A2 A4 : Option Addr) (c2 c4 : Nat) (Z : List Int) (hb : Bytes Z) (hZ : Z.length ≤ 1000) (h1 : Z.length ≤ c2 ∧ c2 ≤ maxLen) (h2 : Z.length ≤ c4 ∧ c4 ≤ maxLen)
    (l2 : Lies w2 .u8 w2.heap.size A2 Z) (l4 : Lies w4 .u8 w4.heap.size A4 Z) (b4 : Below (w2.alloc (.cells #[.slice A2 Z.length c2, .int .i64 0] 38)).heap.size (w2.alloc (.cells #[.slice A2 Z.length c2, .int .i64 0] 38)) w4) :
    Both (w4.alloc (.cells #[.slice A4 Z.length c4, .int .i64 0] 39)) w2.heap.size w4.heap.size w2.heap.size w4.heap.size 0 Z := by
  have k1 := h1.2
  have k2 := h2.2
  unfold maxLen at k1 k2
  have z1 := b4.size
  have z2 : (w2.alloc (.cells #[.slice A2 Z.length c2, .int .i64 0] 38)).heap.size = w2.heap.size + 1 := by simp
  have z3 : (w4.alloc (.cells #[.slice A4 Z.length c4, .int .i64 0] 39)).heap.size = w4.heap.size + 1 := by simp
  have bb : Below w2.heap.size w2 (w4.alloc (.cells #[.slice A4 Z.length c4, .int .i64 0] 39)) := bt (bt (WireMeth.alloc_below w2 _) b4) (WireMeth.alloc_below _ _)
  exact ⟨hb, hZ, by omega, by omega, by omega, ⟨A2, c2, h1.1, by omega, ((WireSrc.src_new w2 (.slice A2 Z.length c2) 0).below b4).alloc _, l2.below bb⟩, ⟨A4, c4, h2.1, by omega, WireRDead.src_newR w4 _ 0, l4.below (WireMeth.alloc_below _ _)⟩⟩

theorem add_split (a : Addr) (m j : Nat) : a.add (m + (j + 1)) = ⟨(a.add m).block, (a.add m).off + (j + 1), none⟩ := by
  rw [← Addr.add_add, Addr.add_succ']

theorem row_cells {w : World} {B : Nat} {A : Option Addr} {rows : List (List Int)} (h : LiesR w .i64 4 B A rows) {k : Nat} (hk : k < rows.length) : ∃ ad : Addr, A = some ad ∧ ∃ x0 x1 x2 x3 : Int, x1 = (rows.getD k []).getD 1 0 ∧ w.cell? (ad.add (k * 4)) = some (.int .i64 x0) ∧ w.cell? ⟨(ad.add (k * 4)).block, (ad.add (k * 4)).off + 1, none⟩ = some (.int .i64 x1) ∧ w.cell? ⟨(ad.add (k * 4)).block, (ad.add (k * 4)).off + 2, none⟩ = some (.int .i64 x2) ∧ w.cell? ⟨(ad.add (k * 4)).block, (ad.add (k * 4)).off + 3, none⟩ = some (.int .i64 x3) := by
  obtain ⟨ad, e, _, hc⟩ := h (by omega)
  refine ⟨ad, e, (rows.getD k []).getD 0 0, (rows.getD k []).getD 1 0, (rows.getD k []).getD 2 0, (rows.getD k []).getD 3 0, rfl, hc k hk 0 (by decide), ?_, ?_, ?_⟩
  · rw [← add_split ad (k * 4) 0]; exact hc k hk 1 (by decide)
  · rw [← add_split ad (k * 4) 1]; exact hc k hk 2 (by decide)
  · rw [← add_split ad (k * 4) 2]; exact hc k hk 3 (by decide)

/-- Behind a reading: what 'same' and 'End' need. -/
theorem tail_of {w : World} {gs gt B C : Nat} {e : Int} {Z : List Int} (h : Both w gs gt B C e Z) : ∃ A1 A2 c1 c2, WireSrc.Src w gs (.slice A1 Z.length c1) e ∧ WireRS.Src w gt (.slice A2 Z.length c2) e ∧ (∀ W, Below w.heap.size w W → Calls Try.prog 13 #[.slice A1 Z.length c1, .slice A2 Z.length c2] W fun r w' => r = .returned (.bool true) ∧ Below W.heap.size W w') := by
  obtain ⟨A1, c1, _, _, a3, a4⟩ := h.s
  obtain ⟨A2, c2, _, _, b3, b4⟩ := h.t
  refine ⟨A1, A2, c1, c2, a3, b3, fun W hb => (same_any A1 A2 B C Z.length c1 Z.length c2 Z Z W (a4.below (hb.mono h.bs)) (b4.below (hb.mono h.bt)) h.bytes h.bytes rfl rfl).mono ?_⟩
  rintro r w' ⟨rfl, b⟩
  exact ⟨by rw [decide_eq_true rfl], b⟩

theorem ends_eq (e : Int) (n : Nat) : ∃ r : Int, ((e == 0) = false ∧ r = e) ∨ ((e == 0) = true ∧ n = 0 ∧ r = 0) ∨ ((e == 0) = true ∧ 0 < n ∧ r = 4) := by
  cases h : (e == 0)
  · exact ⟨e, Or.inl ⟨rfl, rfl⟩⟩
  · by_cases h2 : n = 0
    · exact ⟨0, Or.inr (Or.inl ⟨rfl, h2, rfl⟩)⟩
    · exact ⟨4, Or.inr (Or.inr ⟨rfl, by omega, rfl⟩)⟩

set_option maxHeartbeats 4000000 in
theorem reads_in (w : World) (A A1 : Option Addr) (cap c1 : Nat) (Z : List Int) (rows : List (List Int)) (HL : Hid (Lies w .u8 w.heap.size A Z)) (HBY : Hid (Bytes Z)) (hZ : ((Z.length : Nat) : Int) ≤ 200) (HR : Hid (LiesR w .i64 4 w.heap.size A1 rows)) (hR : ((rows.length : Nat) : Int) ≤ 12) (HM : Hid (∀ k, k < rows.length → (rows.getD k []).getD 1 0 ≤ 9223372036854775807)) :
    Calls Try.prog 4 #[.slice A Z.length cap, .slice A1 rows.length c1] w fun e w' => e = .returned (.bool true) ∧ Below w.heap.size w w' := by
  have d1 : decide ((200 : Int) < ((Z.length : Nat) : Int)) = false := by simpa using hZ
  have d2 : decide ((12 : Int) < ((rows.length : Nat) : Int)) = false := by simpa using hR
  go_enter Try.func4, Try.ntmps4
  go_wp2_with (fail)
  refine (awake_any _).mono ?_
  rintro e w1 ⟨rfl, b1⟩
  have B1 := Lib.hid b1
  clear b1
  go_wp2_with (with_reducible refine stop_at (o := ⟨some 20, _, _, _, _, _⟩) ?_)
  unfold Stop
  refine app_copy rfl (.tmp 18) (.tmp 19) rfl w1 A cap Z.length Z rfl rfl rfl (Lib.hid (HL.out.later B1.out)) (by omega) ?_
  intro A2 c2 w2 C2 L2 B2
  go_wp2_with (with_reducible refine stop_at (o := ⟨some 24, _, _, _, _, _⟩) ?_)
  unfold Stop
  have B3 := Lib.hid (bt (bt B1.out B2.out) (WireMeth.alloc_below w2 (.cells #[.slice A2 Z.length c2, .int .i64 0] 38)))
  refine app_copy rfl (.tmp 22) (.tmp 23) rfl (w2.alloc (.cells #[.slice A2 Z.length c2, .int .i64 0] 38)) A cap Z.length Z (by rw [WireMeth.alloc_size]; rfl) rfl rfl (Lib.hid (HL.out.later B3.out)) (by omega) ?_
  intro A4 c4 w4 C4 L4 B4
  go_wp2_with (fail)
  have hZn : Z.length ≤ 200 := by omega
  have HB := Lib.hid (both_new w2 w4 A2 A4 c2 c4 Z HBY.out (by omega) C2.out C4.out L2.out L4.out B4.out)
  have HW := Lib.hid (bt (bt B3.out B4.out) (WireMeth.alloc_below w4 (.cells #[.slice A4 Z.length c4, .int .i64 0] 39)))
  have HG : Hid (w.heap.size ≤ w2.heap.size ∧ w.heap.size ≤ w4.heap.size) := Lib.hid ⟨(bt B1.out B2.out).size, (bt B3.out B4.out).size⟩
  generalize w4.alloc (.cells #[.slice A4 Z.length c4, .int .i64 0] 39) = w5 at *
  generalize w2.heap.size = gs at *
  generalize w4.heap.size = gt at *
  clear hZn C2 L2 B2 C4 L4 B4 B3 HL HBY
  go_loopw [7] (fun s wr => ∃ k : Nat, s = .int .i64 k ∧ k ≤ rows.length ∧ Hid (Below w.heap.size w wr) ∧ Hid (∃ e Y, Both wr gs gt gs gt e Y)) (fun s _ => rows.length - (intOf s).toNat)
  case atStart => exact ⟨0, rfl, Nat.zero_le _, HW, Lib.hid ⟨_, _, HB.out⟩⟩
  case round =>
    obtain ⟨k, rfl, hk, HBR, HBO⟩ := hrel
    by_cases hlt : k < rows.length
    · obtain ⟨⟨p0, o0, sp⟩, rfl, x0, x1, x2, x3, hx, hc0, hc1, hc2, hc3⟩ := row_cells (HR.out.below HBR.out) hlt
      have hk' : ((k : Nat) : Int) < ((rows.length : Nat) : Int) := by omega
      obtain ⟨e, Y, hB⟩ := HBO.out
      have HQ := Lib.hid (read_any w.heap.size gs gt gs gt Y e x0 x1 x2 x3 wr (by rw [hx]; exact HM.out k hlt) hB HG.out.1 HG.out.2)
      clear hB hx
      go_wp2_with (fail)
      refine HQ.out.mono ?_
      rintro r w6 ⟨rfl, b6, e6, Y6, h6⟩
      obtain ⟨A6, A7, c6, c7, s6, s7, hs6⟩ := tail_of h6
      obtain ⟨r6, hr6⟩ := ends_eq e6 Y6.length
      have q6 := s6.rest
      have q7 := s6.err
      have q8 := s7.rest
      have q9 := s7.err
      have HS := Lib.hid (WireRDead.same_both A6 A7 c6 c7 Y6.length e6 w6 (Lib.hid hs6))
      have HE1 := Lib.hid (fun W (hW : Below w6.heap.size w6 W) => end_any gs Y6.length c6 A6 e6 r6 W (s6.below hW) hr6)
      have HE2 := Lib.hid (fun W (hW : Below w6.heap.size w6 W) => WireRDead.end_r gt Y6.length c7 A7 e6 r6 W (s7.below hW) hr6)
      have H6 := Lib.hid h6
      have B6 := Lib.hid (HBR.out.trans b6)
      clear h6 b6 s6 s7 hs6 hr6
      go_wp2_with (fail)
      refine HS.out.mono ?_
      rintro r w7 ⟨rfl, b7⟩
      have B7 := Lib.hid b7
      clear b7
      go_wp2_with (fail)
      refine (HE1.out _ B7.out).mono ?_
      rintro r w8 ⟨rfl, rfl⟩
      go_wp2_with (fail)
      refine (HE2.out _ B7.out).mono ?_
      rintro r w9 ⟨rfl, rfl⟩
      go_wp2
      go_roundw
      case rel => exact ⟨k + 1, by go_num, by omega, Lib.hid (B6.out.trans (B7.out.mono B6.out.size)), Lib.hid ⟨_, _, H6.out.later B7.out⟩⟩
      case measure => simp [intOf]; omega
    · obtain rfl : k = rows.length := by omega
      have hk' : ¬ ((rows.length : Nat) : Int) < ((rows.length : Nat) : Int) := by omega
      go_wp2
      go_ret
      exact ⟨by first | rfl | simp, HBR.out⟩

set_option maxHeartbeats 1000000 in
theorem reads_out (w : World) (A A1 : Option Addr) (cap c1 n m : Nat) (h : (200 : Int) < ((n : Nat) : Int) ∨ (((n : Nat) : Int) ≤ 200 ∧ (12 : Int) < ((m : Nat) : Int))) :
    Calls Try.prog 4 #[.slice A n cap, .slice A1 m c1] w fun e w' => e = .returned (.bool true) ∧ Below w.heap.size w w' := by
  rcases h with h | ⟨h, h2⟩
  all_goals
    go_enter Try.func4, Try.ntmps4
    go_wp2_with (fail)
    refine (awake_any _).mono ?_
    rintro e w1 ⟨rfl, b1⟩
    go_wp2
    go_ret
    exact ⟨rfl, b1⟩

theorem getR_mem {rows : List (List Int)} {k : Nat} (hk : k < rows.length) : rows.getD k [] ∈ rows := by
  rw [List.getD_eq_getElem?_getD, List.getElem?_eq_getElem hk]
  exact List.getElem_mem hk

theorem getI_mem {zs : List Int} {k : Nat} (hk : k < zs.length) : zs.getD k 0 ∈ zs := by
  rw [List.getD_eq_getElem?_getD, List.getElem?_eq_getElem hk]
  exact List.getElem_mem hk

theorem walk (w : World) (A : Option Addr) (cap : Nat) (Z : List Int) (hl : Lies w .u8 w.heap.size A Z) (wl : ∀ n ∈ Z, (Lit.int .u8 n).wf = true) (kl : Z.length ≤ cap ∧ cap ≤ maxLen) (nl : A = none → cap = 0)
    (A1 : Option Addr) (c1 : Nat) (rows : List (List Int)) (hr : LiesR w .i64 4 w.heap.size A1 rows) (wr : ∀ z ∈ rows, z.length = 4 ∧ ∀ x ∈ z, (Lit.int .i64 x).wf = true) (kr : rows.length ≤ c1 ∧ c1 ≤ maxLen) (nr : A1 = none → c1 = 0) :
    Calls Try.prog 4 #[.slice A Z.length cap, .slice A1 rows.length c1] w fun e w' => e = .returned (.bool true) ∧ Below w.heap.size w w' := by
  by_cases h1 : Z.length ≤ 200
  · by_cases h2 : rows.length ≤ 12
    · refine reads_in w A A1 cap c1 Z rows (Lib.hid hl) (Lib.hid (bytes_of wl)) (by omega) (Lib.hid hr) (by omega) (Lib.hid fun k hk => ?_)
      obtain ⟨z1, z2⟩ := wr _ (getR_mem hk)
      exact (WireWrites.ints_of z2 _ (getI_mem (by omega))).2
    · exact reads_out w A A1 cap c1 _ _ (Or.inr ⟨by omega, by omega⟩)
  · exact reads_out w A A1 cap c1 _ _ (Or.inl (by omega))

end Go.Proofs.Ytcibkgmochikmaa.WireReads
