/- The reference's 'Seal' and 'Open'. -/
import Derived.Test.YtpgkgagmdjhojaaDigRef
import Derived.Test.YtpgkgagmdjhojaaDigSame
import Derived.Test.YtpgkgagmdjhojaaDigChanges
namespace Go.Proofs.Ytpgkgagmdjhojaa.DigRefSeal
set_option linter.unusedVariables false
open Go.RowKit Go.Proofs.Ytpgkgagmdjhojaa.DigMul Go.Proofs.Ytpgkgagmdjhojaa.DigExt Go.Proofs.Ytpgkgagmdjhojaa.DigSeal Go.Proofs.Ytpgkgagmdjhojaa.DigParts Go.Proofs.Ytpgkgagmdjhojaa.DigOpen Go.Proofs.Ytpgkgagmdjhojaa.DigRef Go.Proofs.Ytpgkgagmdjhojaa.DigSame

theorem new_one (wk : World) (x : Int) (T : TypeId) : Lies (wk.alloc (.cells #[.int .u8 x] T)) .u8 (wk.heap.size + 1) (some ⟨wk.heap.size, 0, none⟩) [x] := fun _ => ⟨_, rfl, by simp, fun i hi => by
  have : i = 0 := by simpa using hi
  subst this
  simp [Addr.add, go_sem]⟩

/-- Appending one byte, in a block of its own, onto a row of the call's own. -/
theorem app_one {ops : Array Oper} {rest : List Oper} {o : Oper} {a : Act} {Q : Exit → Act → World → Prop} (hgd : o.guard = none) (s x : Operand) (ho : o.op = .call { callee := .builtin .append, args := #[s, x], argTypes := #[22, 22] })
    (w0 wk : World) (T : TypeId) (v : Value) (zs : List Int) (n : Int) (hs : a.eval s = v) (hx : a.eval x = .slice (some ⟨wk.heap.size, 0, none⟩) 1 1) (hown : Hid (Own wk w0.heap.size v zs)) (hlen : zs.length ≤ 200000) (hB : Hid (Below w0.heap.size w0 wk))
    (h : ∀ v' w', Hid (Own w' w0.heap.size v' (zs ++ [n])) → Hid (Below w0.heap.size w0 w') → wpList Try.prog ops Q rest (a.put o.dst v') w') : wpList Try.prog ops Q (o :: rest) a (wk.alloc (.cells #[.int .u8 n] T)) := by
  obtain ⟨i0, hi, hz0, hz1, hz2⟩ := info_parts byte_info
  have hal : Below wk.heap.size wk (wk.alloc (.cells #[.int .u8 n] T)) := (Below.refl _ _).alloc (Nat.le_refl _) _
  have hBk : Below w0.heap.size w0 (wk.alloc (.cells #[.int .u8 n] T)) := bt hB.out hal
  have hown' := own_below hown.out hal
  unfold Own at hown'
  refine wp_app_ints _ hgd s x 22 ho w0.heap.size 5 i0 (.int .u8 0) 1 Try.underlying22 hi hz0 hz1 hz2 rfl v zs.length (zs.map (Value.int .u8)) hs hown' .u8 (wk.heap.size + 1) (some ⟨wk.heap.size, 0, none⟩) 1 [n] hx (new_one wk n T) (by unfold maxLen; simp; omega) (by simp; omega) hBk.size ?_
  intro v' w' h1 h2 _
  refine h v' w' (Lib.hid ?_) (Lib.hid (hBk.grown h2 hBk.size (fun k hk => (hown'.lt k hk).1)))
  unfold Own
  rw [List.length_append, List.map_append]
  exact h1

set_option maxRecDepth 100000 in
set_option maxHeartbeats 4000000 in
theorem refSeal_any (A : Option Addr) (cap : Nat) (Z : List Int) (w : World) (hl : Lies w .u8 w.heap.size A Z) (hb : Bytes Z) (hlen : ((Z.length : Nat) : Int) ≤ 100000) :
    Calls Try.prog 19 #[.slice A Z.length cap] w fun e w' => ∃ v, e = .returned v ∧ Own w' w.heap.size v (Z ++ sumB (ext 0 Z)) ∧ Below w.heap.size w w' := by
  obtain ⟨i0, hi, hz0, hz1, hz2⟩ := info_parts byte_info
  have LZ := Lib.hid hl
  have HO := Lib.hid (fun w1 (b1 : Below w.heap.size w w1) => refOf_any A cap Z w1 (hl.later b1) hb (by omega))
  obtain ⟨d1, d2⟩ := ext_range Z 0 (by decide) (by decide)
  generalize ext 0 Z = d at *
  clear hl hb
  go_enter Try.func19, Try.ntmps19
  go_wp2_with (with_reducible refine stop_at (o := ⟨some 8, _, _, _, _, _⟩) ?_)
  unfold Stop
  refine wp_app_ints _ rfl (.tmp 6) (.tmp 7) 22 rfl w.heap.size 5 i0 (.int .u8 0) 1 Try.underlying22 hi hz0 hz1 hz2 rfl (.slice (some ⟨w.heap.size, 0, none⟩) 0 0) 0 [] rfl (World.ownsRow_made w #[] 0 (Nat.le_refl _) (by decide) rfl) .u8 w.heap.size A cap Z rfl (LZ.out.below ((Below.refl _ _).alloc (Nat.le_refl _) _)) (by unfold maxLen; omega) (by omega) (by simp) ?_
  intro v0 w0 hown hg _
  have b0 : Below w.heap.size w w0 := ((Below.refl _ _).alloc (Nat.le_refl _) _).grown hg (by simp) (by intro k hk; simp [Value.ownBlock] at hk; omega)
  have B0 := Lib.hid b0
  have H0 : Hid (Own w0 w.heap.size v0 Z) := Lib.hid (by unfold Own; simpa using hown)
  clear hown hg b0
  go_wp2_with (fail)
  refine (HO.out _ B0.out).mono ?_
  rintro e w1 ⟨rfl, b1⟩
  have H1 : Hid (Own w1 w.heap.size v0 Z) := Lib.hid (own_below H0.out b1)
  have B1 := Lib.hid (bt B0.out b1)
  clear b1
  go_wp2_with (fail)
  refine wp_loop_rounds 9 ?_
  rw [rounds_succ]
  go_wp2_with (with_reducible refine stop_at (o := ⟨some 22, _, _, _, _, _⟩) ?_)
  unfold Stop
  refine app_one rfl (.tmp 15) (.tmp 21) rfl w w1 _ v0 (Z) (d / 72057594037927936) rfl rfl H1 (by first | omega | (simp; omega)) B1 ?_
  intro v1 w2 H2 B2
  go_wp2_with (fail)
  rw [rounds_succ]
  go_wp2_with (with_reducible refine stop_at (o := ⟨some 22, _, _, _, _, _⟩) ?_)
  unfold Stop
  refine app_one rfl (.tmp 15) (.tmp 21) rfl w w2 _ v1 (Z ++ [d / 72057594037927936]) (d / 281474976710656 % 256) rfl rfl H2 (by first | omega | (simp; omega)) B2 ?_
  intro v2 w3 H3 B3
  go_wp2_with (fail)
  rw [rounds_succ]
  go_wp2_with (with_reducible refine stop_at (o := ⟨some 22, _, _, _, _, _⟩) ?_)
  unfold Stop
  refine app_one rfl (.tmp 15) (.tmp 21) rfl w w3 _ v2 (Z ++ [d / 72057594037927936] ++ [d / 281474976710656 % 256]) (d / 1099511627776 % 256) rfl rfl H3 (by first | omega | (simp; omega)) B3 ?_
  intro v3 w4 H4 B4
  go_wp2_with (fail)
  rw [rounds_succ]
  go_wp2_with (with_reducible refine stop_at (o := ⟨some 22, _, _, _, _, _⟩) ?_)
  unfold Stop
  refine app_one rfl (.tmp 15) (.tmp 21) rfl w w4 _ v3 (Z ++ [d / 72057594037927936] ++ [d / 281474976710656 % 256] ++ [d / 1099511627776 % 256]) (d / 4294967296 % 256) rfl rfl H4 (by first | omega | (simp; omega)) B4 ?_
  intro v4 w5 H5 B5
  go_wp2_with (fail)
  rw [rounds_succ]
  go_wp2_with (with_reducible refine stop_at (o := ⟨some 22, _, _, _, _, _⟩) ?_)
  unfold Stop
  refine app_one rfl (.tmp 15) (.tmp 21) rfl w w5 _ v4 (Z ++ [d / 72057594037927936] ++ [d / 281474976710656 % 256] ++ [d / 1099511627776 % 256] ++ [d / 4294967296 % 256]) (d / 16777216 % 256) rfl rfl H5 (by first | omega | (simp; omega)) B5 ?_
  intro v5 w6 H6 B6
  go_wp2_with (fail)
  rw [rounds_succ]
  go_wp2_with (with_reducible refine stop_at (o := ⟨some 22, _, _, _, _, _⟩) ?_)
  unfold Stop
  refine app_one rfl (.tmp 15) (.tmp 21) rfl w w6 _ v5 (Z ++ [d / 72057594037927936] ++ [d / 281474976710656 % 256] ++ [d / 1099511627776 % 256] ++ [d / 4294967296 % 256] ++ [d / 16777216 % 256]) (d / 65536 % 256) rfl rfl H6 (by first | omega | (simp; omega)) B6 ?_
  intro v6 w7 H7 B7
  go_wp2_with (fail)
  rw [rounds_succ]
  go_wp2_with (with_reducible refine stop_at (o := ⟨some 22, _, _, _, _, _⟩) ?_)
  unfold Stop
  refine app_one rfl (.tmp 15) (.tmp 21) rfl w w7 _ v6 (Z ++ [d / 72057594037927936] ++ [d / 281474976710656 % 256] ++ [d / 1099511627776 % 256] ++ [d / 4294967296 % 256] ++ [d / 16777216 % 256] ++ [d / 65536 % 256]) (d / 256 % 256) rfl rfl H7 (by first | omega | (simp; omega)) B7 ?_
  intro v7 w8 H8 B8
  go_wp2_with (fail)
  rw [rounds_succ]
  go_wp2_with (with_reducible refine stop_at (o := ⟨some 22, _, _, _, _, _⟩) ?_)
  unfold Stop
  refine app_one rfl (.tmp 15) (.tmp 21) rfl w w8 _ v7 (Z ++ [d / 72057594037927936] ++ [d / 281474976710656 % 256] ++ [d / 1099511627776 % 256] ++ [d / 4294967296 % 256] ++ [d / 16777216 % 256] ++ [d / 65536 % 256] ++ [d / 256 % 256]) (d % 256) rfl rfl H8 (by first | omega | (simp; omega)) B8 ?_
  intro v8 w9 H9 B9
  go_wp2_with (fail)
  rw [rounds_succ]
  go_wp2
  go_ret
  refine ⟨v8, rfl, ?_, B9.out⟩
  have := H9.out
  simpa [sumB] using this

end Go.Proofs.Ytpgkgagmdjhojaa.DigRefSeal
