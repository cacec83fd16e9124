/- Sealed strings: the walks of 'slices.Clone', 'sum' and 'Seal'. -/
import Derived.Test.YtpgkgagmdjhojaaDigParse
import Derived.Test.YtpgkgagmdjhojaaRow
namespace Go.Proofs.Ytpgkgagmdjhojaa.DigSeal
set_option linter.unusedVariables false
open Go.RowKit Go.Proofs.Ytpgkgagmdjhojaa.DigMul Go.Proofs.Ytpgkgagmdjhojaa.DigExt

theorem byte_info : (Try.prog.info? 5).map (fun i => (i.zero, i.size, i.bytes)) = some (some (.int .u8 0), 1, 1) := by kernel_rfl

/-- A row of bytes of the call's own. -/
def Own (w : World) (base : Nat) (v : Value) (zs : List Int) : Prop := w.ownsRow base 5 1 v zs.length (zs.map (Value.int .u8))

set_option maxHeartbeats 1000000 in
theorem clone_any (A : Option Addr) (cap : Nat) (zs : List Int) (w : World) (hl : Lies w .u8 w.heap.size A zs) (hlen : zs.length ≤ 70368744177664) (hn : A = none → cap = 0) :
    Calls Try.prog 33 #[.slice A zs.length cap] w fun e w' => ∃ v, e = .returned v ∧ Own w' w.heap.size v zs ∧ Below w.heap.size w w' := by
  obtain ⟨i0, hi, hz0, hz1, hz2⟩ := info_parts byte_info
  cases A with
  | none =>
    have h0 : zs = [] := by
      cases zs with
      | nil => rfl
      | cons a l =>
        obtain ⟨ad, h, _⟩ := hl (by simp)
        cases h
    subst h0
    obtain rfl := hn rfl
    have hq := fun (w : World) => Lib.run_eql_slice_nil (P := Try.prog) w 22 5 none 0 0 0 0 Try.underlying22
    go_enter Try.func33, Try.ntmps33
    go_wp2
    go_ret
    exact ⟨_, rfl, World.ownsRow_nil _ _ _ _, Below.refl _ _⟩
  | some ad =>
    have hq := fun (w : World) (n c : Nat) => Lib.run_eql_slice_nil (P := Try.prog) w 22 5 (some ad) n c 0 0 Try.underlying22
    have HL := Lib.hid hl
    clear hl
    go_enter Try.func33, Try.ntmps33
    go_wp2_with (at_builtin; refine wp_app_ints _ rfl (.tmp 5) (.tmp 6) 22 rfl w.heap.size 5 i0 (.int .u8 0) 1 Try.underlying22 hi hz0 hz1 hz2 rfl (.slice (some ⟨w.heap.size, 0, none⟩) 0 0) 0 [] rfl (World.ownsRow_made w #[] 0 (Nat.le_refl _) (by decide) rfl) .u8 w.heap.size (some ad) cap zs rfl (HL.out.below ((Below.refl _ _).alloc (Nat.le_refl _) _)) (by unfold maxLen; omega) (by omega) (by simp) ?_; intro v w1 hown hg _)
    go_ret
    have hb : Below w.heap.size w w1 := ((Below.refl _ _).alloc (Nat.le_refl _) _).grown hg (by simp) (by intro k hk; simp [Value.ownBlock] at hk; omega)
    refine ⟨v, rfl, ?_, hb⟩
    unfold Own
    simpa using hown

/-- The eight bytes of a digest, the greatest first. -/
def sumB (d : Int) : List Int := [d / 72057594037927936, d / 281474976710656 % 256, d / 1099511627776 % 256, d / 4294967296 % 256, d / 16777216 % 256, d / 65536 % 256, d / 256 % 256, d % 256]

set_option maxRecDepth 100000 in
set_option maxHeartbeats 4000000 in
theorem sum_any (A : Option Addr) (cap : Nat) (zs : List Int) (w : World) (hl : Lies w .u8 w.heap.size A zs) (hb : Bytes zs) (hlen : zs.length ≤ 9223372036854775807) :
    Calls Try.prog 32 #[.slice A zs.length cap] w fun e w' => ∃ v, e = .returned v ∧ Own w' w.heap.size v (sumB (ext 0 zs)) ∧ Below w.heap.size w w' := by
  have HO := Lib.hid (of_any A cap zs w hl hb hlen)
  obtain ⟨d1, d2⟩ := ext_range zs 0 (by decide) (by decide)
  generalize ext 0 zs = d at *
  clear hl hb hlen
  have hmk : ∀ w, (Instr.makeSlice 22 (.int .i64 8) (.int .i64 8)).run Try.prog w = .ok (.slice (some ⟨w.heap.size, 0, none⟩) 8 8) (w.alloc (.cells #[.int .u8 0, .int .u8 0, .int .u8 0, .int .u8 0, .int .u8 0, .int .u8 0, .int .u8 0, .int .u8 0] 5)) := fun _ => by kernel_rfl
  go_enter Try.func32, Try.ntmps32
  go_wp2_with (fail)
  refine HO.out.mono ?_
  rintro e w1 ⟨rfl, b1⟩
  go_wp2_with (fail)
  refine wp_loop_rounds 9 ?_
  iterate 8
    rw [rounds_succ]
    go_wp2_with (fail)
  rw [rounds_succ]
  go_wp2_with (fail)
  go_ret
  refine ⟨_, rfl, ?_, bt b1 (by go_grown)⟩
  refine ⟨rfl, Or.inr ⟨w1.heap.size, 8, _, rfl, b1.size, heap_alloc_new _ _, Nat.le_refl 8, by decide, rfl, rfl⟩⟩

theorem own_below {w w' : World} {base : Nat} {v : Value} {zs : List Int} (h : Own w base v zs) (hb : Below w.heap.size w w') : Own w' base v zs := by
  refine ⟨h.1, ?_⟩
  rcases h.2 with h0 | ⟨g, cap, cur, hv, hbg, hg, rest⟩
  · exact Or.inl h0
  · exact Or.inr ⟨g, cap, cur, hv, hbg, (hb.block g (Array.getElem?_eq_some_iff.1 hg).1).trans hg, rest⟩

set_option maxHeartbeats 1000000 in
theorem seal_any (A : Option Addr) (cap : Nat) (zs : List Int) (w : World) (hl : Lies w .u8 w.heap.size A zs) (hb : Bytes zs) (hlen : zs.length ≤ 70368744177000) (hn : A = none → cap = 0) :
    Calls Try.prog 18 #[.slice A zs.length cap] w fun e w' => ∃ v, e = .returned v ∧ Own w' w.heap.size v (zs ++ sumB (ext 0 zs)) ∧ Below w.heap.size w w' := by
  obtain ⟨i0, hi, hz0, hz1, hz2⟩ := info_parts byte_info
  have HC := Lib.hid (clone_any A cap zs w hl (by omega) hn)
  have HS := Lib.hid (fun (w1 : World) (b1 : Below w.heap.size w w1) => sum_any A cap zs w1 (hl.later b1) hb (by omega))
  have HLEN := Lib.hid hlen
  have hs8 : (sumB (ext 0 zs)).length = 8 := rfl
  have HS8 := Lib.hid hs8
  generalize sumB (ext 0 zs) = ys at *
  clear hl hb hlen hn hs8
  go_enter Try.func18, Try.ntmps18
  go_wp2_with (fail)
  refine HC.out.mono ?_
  rintro e w1 ⟨v1, rfl, hown1, b1⟩
  go_wp2_with (fail)
  refine (HS.out _ b1).mono ?_
  rintro e w2 ⟨v2, rfl, hown2, b2⟩
  obtain ⟨A2, c2, rfl, hl2⟩ := own_lies hown2
  have O1 := own_below hown1 b2
  have hrow := O1
  unfold Own at hrow
  have hbase : w.heap.size ≤ w2.heap.size := Nat.le_trans b1.size b2.size
  have HW := Lib.hid (bt b1 b2)
  have HO1 := Lib.hid O1
  have HL2 := Lib.hid hl2
  have HROW := Lib.hid hrow
  clear hown1 hown2 b1 b2 O1 hl2 hrow
  go_wp2_with (at_builtin; refine wp_app_ints _ rfl (.tmp 4) (.tmp 6) 22 rfl w.heap.size 5 i0 (.int .u8 0) 1 Try.underlying22 hi hz0 hz1 hz2 rfl v1 zs.length (zs.map (Value.int .u8)) rfl HROW.out .u8 w2.heap.size A2 c2 ys rfl HL2.out (by have := HLEN.out; have := HS8.out; unfold maxLen; omega) (by have := HLEN.out; have := HS8.out; omega) hbase ?_; intro v3 w3 hown3 hg3 _)
  go_ret
  refine ⟨v3, rfl, ?_, ?_⟩
  · unfold Own
    rw [List.length_append, List.map_append]
    exact hown3
  · exact HW.out.grown hg3 hbase (fun k hk => (HROW.out.lt k hk).1)

end Go.Proofs.Ytpgkgagmdjhojaa.DigSeal
