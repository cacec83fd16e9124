/- The law WireCanonical. -/
import Derived.Test.YtcibkgmochikmaaWireAwake
import Derived.Test.YtcibkgmochikmaaWireCode
import Derived.Deep.RegionHeld3
namespace Go.Proofs.Ytcibkgmochikmaa.WireCanon
set_option linter.unusedVariables false
open Go.RowKit Go.Proofs.Ytcibkgmochikmaa.WireBase Go.Proofs.Ytcibkgmochikmaa.WireInt Go.Proofs.Ytcibkgmochikmaa.WireAppend Go.Proofs.Ytcibkgmochikmaa.WireRead Go.Proofs.Ytcibkgmochikmaa.WireParse Go.Proofs.Ytcibkgmochikmaa.WireSrc Go.Proofs.Ytcibkgmochikmaa.WireAwake Go.Proofs.Ytcibkgmochikmaa.WireCode

theorem own_slice {w : World} {base : Nat} {v : Value} {zs : List Int} (h : Own w base v zs) : ∃ A c, v = .slice A zs.length c ∧ zs.length ≤ c ∧ c ≤ maxLen ∧ Lies w .u8 w.heap.size A zs := by
  obtain ⟨A, c, rfl, hl⟩ := own_lies h
  refine ⟨A, c, rfl, ?_, ?_, hl⟩
  · rcases h.2 with ⟨h1, h2⟩ | ⟨g, cap, cur, h1, _, _, hnc, hm, _⟩
    · omega
    · injection h1 with _ _ h3
      omega
  · rcases h.2 with ⟨h1, h2⟩ | ⟨g, cap, cur, h1, _, _, hnc, hm, _⟩
    · injection h1 with _ _ h3
      rw [h3]; unfold maxLen; omega
    · injection h1 with _ _ h3
      omega

/-- A copy of some bytes behind an empty row that was made for it. -/
theorem app_copy {ops : Array Oper} {rest : List Oper} {o : Oper} {a : Act} {Q : Exit → Act → World → Prop} (hgd : o.guard = none) (s x : Operand) (ho : o.op = .call { callee := .builtin .append, args := #[s, x], argTypes := #[22, 22] })
    (wk : World) (A : Option Addr) (cap n : Nat) (Z : List Int) (hs : a.eval s = .slice (some ⟨wk.heap.size, 0, none⟩) 0 0) (hx : a.eval x = .slice A n cap) (hn : Z.length = n) (hl : Hid (Lies wk .u8 wk.heap.size A Z)) (hlen : ((n : Nat) : Int) ≤ 200000)
    (h : ∀ A' c' w', Hid (n ≤ c' ∧ c' ≤ maxLen) → Hid (Lies w' .u8 w'.heap.size A' Z) → Hid (Below wk.heap.size wk w') → wpList Try.prog ops Q rest (a.put o.dst (.slice A' n c')) w') : wpList Try.prog ops Q (o :: rest) a (wk.alloc (.cells #[] 5)) := by
  obtain ⟨i0, hi, hz0, hz1, hz2⟩ := info_parts byte_info
  subst hn
  refine wp_app_ints _ hgd s x 22 ho wk.heap.size 5 i0 (.int .u8 0) 1 Try.underlying22 hi hz0 hz1 hz2 rfl (.slice (some ⟨wk.heap.size, 0, none⟩) 0 0) 0 [] hs (World.ownsRow_made wk #[] 0 (Nat.le_refl _) (by decide) rfl) .u8 wk.heap.size A cap Z hx (hl.out.below ((Below.refl _ _).alloc (Nat.le_refl _) _)) (by unfold maxLen; omega) (by omega) (by simp) ?_
  intro v0 w0 hown hg _
  have b0 : Below wk.heap.size wk w0 := ((Below.refl _ _).alloc (Nat.le_refl _) _).grown hg (by simp) (by intro k hk; simp [Value.ownBlock] at hk; omega)
  have hO : Own w0 wk.heap.size v0 Z := by unfold Own; simpa using hown
  obtain ⟨A', c', rfl, h1, h2, h3⟩ := own_slice hO
  exact h A' c' w0 (Lib.hid ⟨h1, h2⟩) (Lib.hid h3) (Lib.hid b0)

/-- Appending, one operation. -/
theorem op_app {o : Oper} {a : Act} {w w' : World} {K : Act → World → Prop} {Q : Exit → Act → World → Prop} {v u v' : Value} (s x : Operand) (t : TypeId) (ho : o.op = .call { callee := .builtin .append, args := #[s, x], argTypes := #[t, t] })
    (hs : a.eval s = v) (hx : a.eval x = u) (hrun : (Builtin.append_ #[t, t] o.type #[v, u]).run Try.prog w = .ok v' w') (h : K (a.put o.dst v') w') : o.wp Try.prog a w K Q := by
  unfold Oper.wp execOp
  simp only [ho, resolve, invoke, builtin, Sem.run_bind, Sem.run_pure, Result.andThen_ok, List.map_toArray, List.map_cons, List.map_nil, hs, hx, hrun]
  exact h

/-- An integer's encoding, and that more can be appended to it. -/
theorem int_app (A' : Option Addr) (c' : Nat) (v : Int) (D Z : List Int) (w4 : World) (hD : Lies w4 .u8 w4.heap.size A' D) (hZ : enc v ++ D = Z) (hlen : ((Z.length : Nat) : Int) ≤ 100000) (hv : isI v) :
    ∀ w5, Below w4.heap.size w4 w5 → Calls Try.prog 12 #[.slice none 0 0, .int .i64 v] w5 fun e w' => ∃ n5 A5 c5 A6 c6 w6, e = .returned (.slice A5 n5 c5) ∧ Hid (Below w4.heap.size w4 w') ∧ (Builtin.append_ #[22, 22] 22 #[.slice A5 n5 c5, .slice A' D.length c']).run Try.prog w' = .ok (.slice A6 Z.length c6) w6 ∧ Hid (Lies w6 .u8 w6.heap.size A6 Z) ∧ Hid (Below w4.heap.size w4 w6) := fun w5 b5 => by
  refine (int_any none 0 [] v w5 (fun h => by cases h) (by decide) (fun _ => rfl) hv).mono ?_
  rintro e w' ⟨v5, rfl, hown, b⟩
  obtain ⟨i0, hi, hz0, hz1, hz2⟩ := info_parts byte_info
  have hlen2 : (enc v).length + D.length = Z.length := by rw [← hZ, List.length_append]
  have b' : Below w4.heap.size w4 w' := bt b5 b
  obtain ⟨v6, w6, hrun, hown6, hg, _⟩ := run_app_ints (P := Try.prog) w' w5.heap.size 22 22 5 i0 (.int .u8 0) 1 Try.underlying22 hi hz0 hz1 hz2 rfl v5 (enc v).length ((enc v).map (Value.int .u8)) hown .u8 w'.heap.size A' c' D (hD.later b') (by unfold maxLen; omega) (by omega) b.size
  have hO : Own w6 w5.heap.size v6 Z := by
    unfold Own
    rw [← hZ, List.length_append, List.map_append]
    exact hown6
  obtain ⟨A5, c5, rfl, _⟩ := own_lies hown
  have hlt := fun k (hk : (Value.slice A5 ([] ++ enc v).length c5).ownBlock = some k) => (World.ownsRow.lt hown k hk).1
  obtain ⟨A6, c6, rfl, l6⟩ := own_lies hO
  exact ⟨_, A5, c5, A6, c6, w6, rfl, Lib.hid b', hrun, Lib.hid l6, Lib.hid ((b'.mono (Nat.le_refl _)).grown hg (Nat.le_trans (Nat.le_refl _) b'.size) (fun k hk => Nat.le_trans b5.size (hlt k hk)))⟩

set_option maxHeartbeats 4000000 in
theorem canon_in (w : World) (A : Option Addr) (cap : Nat) (Z : List Int) (hl : Lies w .u8 w.heap.size A Z) (hb : Bytes Z) (hlen : ((Z.length : Nat) : Int) ≤ 40) :
    Calls Try.prog 6 #[.slice A Z.length cap] w fun e w' => e = .returned (.bool true) ∧ Below w.heap.size w w' := by
  obtain ⟨i0, hi, hz0, hz1, hz2⟩ := info_parts byte_info
  have HL := Lib.hid hl
  have HBY := Lib.hid hb
  clear hl hb
  go_enter Try.func6, Try.ntmps6
  go_wp2_with (fail)
  refine (awake_any _).mono ?_
  rintro e w1 ⟨rfl, b1⟩
  have B1 := Lib.hid b1
  clear b1
  go_wp2_with (with_reducible refine stop_at (o := ⟨some 12, _, _, _, _, _⟩) ?_)
  unfold Stop
  refine app_copy rfl (.tmp 10) (.tmp 11) rfl w1 A cap Z.length Z rfl rfl rfl (Lib.hid (HL.out.later B1.out)) (by omega) ?_
  intro A2 c2 w2 C2 L2 B2
  go_wp2_with (fail)
  have S3 := Lib.hid (src_new w2 (.slice A2 Z.length c2) 0)
  have b3 : Below w2.heap.size w2 (w2.alloc (.cells #[.slice A2 Z.length c2, .int .i64 0] 38)) := (Below.refl _ _).alloc (Nat.le_refl _) _
  have L3 := Lib.hid (L2.out.later b3)
  have B3 := Lib.hid (bt (bt B1.out B2.out) b3)
  have LB := Lib.hid (HL.out.later B3.out)
  clear b3
  refine (int_read w2.heap.size c2 A2 Z (-9223372036854775808) 9223372036854775807 _ S3.out L3.out HBY.out C2.out.1 (by have := C2.out.2; unfold maxLen at this; omega)).mono ?_
  rintro e w4 ⟨v, rfl, ho, hr⟩
  have HOL := Lib.hid ho
  have HZ : Hid (w.heap.size ≤ w2.heap.size) := Lib.hid (bt B1.out B2.out).size
  have B4 : Hid (Below w.heap.size w w4) := Lib.hid (B3.out.trans (ho.below B3.out.size HZ.out))
  have LB4 : Hid (Lies w4 .u8 w4.heap.size A Z) := Lib.hid (HL.out.later B4.out)
  clear ho
  rcases hr with ⟨hd, rfl, S4⟩ | ⟨m, s, hd, hout, _⟩ | ⟨m, s, A', c', hd, _, _, rfl, _, _, S4, l4⟩
  · have c0 := S4.rest
    have c1 := S4.err
    have HS4 := Lib.hid S4
    clear S4
    go_wp2_with (fail)
    refine (same_any A2 A _ _ Z.length c2 Z.length cap Z Z w4 (Lies.only L3.out S3.out (not_byte _ _ _) HOL.out) LB4.out HBY.out HBY.out rfl rfl).mono ?_
    rintro e w5 ⟨rfl, b⟩
    rw [decide_eq_true rfl]
    have B5 := Lib.hid (bt B4.out b)
    clear b
    go_wp2
    go_ret
    exact ⟨rfl, B5.out⟩
  · have := (dec_enc Z HBY.out m s hd).1
    unfold isI at this
    omega
  · have hde := dec_enc Z HBY.out v s hd
    have HDE := Lib.hid hde
    have c0 := S4.rest
    have c1 := S4.err
    have HS4 := Lib.hid S4
    have HL4 := Lib.hid l4
    clear S4 hde l4 hd
    have HI := Lib.hid (int_app A' c' v (Z.drop s.toNat) Z w4 HL4.out HDE.out.2.2.symm (by omega) HDE.out.1)
    have HSAME := Lib.hid (fun w6 A6 c6 (h6 : Lies w6 .u8 w6.heap.size A6 Z) (b6 : Below w4.heap.size w4 w6) => same_any A6 A _ _ Z.length c6 Z.length cap Z Z w6 h6 (LB4.out.later b6) HBY.out HBY.out rfl rfl)
    rw [decide_eq_true rfl] at HSAME
    have hz2 : w2.heap.size < w4.heap.size := HS4.out.lt
    have HCE : Hid (∀ w', Below w4.heap.size w4 w' → w'.cell? ⟨w2.heap.size, 0, none⟩ = some (.slice A' (Z.drop s.toNat).length c')) := Lib.hid fun w' hb => (HS4.out.below hb).rest
    generalize (Z.drop s.toNat).length = m at *
    go_wp2_with (fail)
    go_region_held3 (fun w' => w'.cell? ⟨w2.heap.size, 0, none⟩ = some (.slice A' m c'))
      ((refine HCE.out _ ?_; first | exact B7.out | exact B6.out | exact B5.out | exact (Below.refl _ _) | exact (Below.refl _ _).drew))
      (first
        | (go_at_call 12; ((with_reducible refine (HI.out _ (Below.refl _ _).drew).mono ?_); rintro e w5 ⟨n5, A5, c5, A6, c6, w6, rfl, B5, hrun, L6, B6⟩))
        | (go_at_call 13; ((with_reducible refine (HSAME.out w6 A6 c6 L6.out B6.out).mono ?_); rintro e w7 ⟨rfl, b7⟩; have B7 := Lib.hid (bt B6.out b7); clear b7))
        | ((rw [if_pos (by rfl)]; refine op_app (.tmp 32) (.tmp 34) 22 rfl rfl rfl hrun ?_)))
    all_goals
      go_wp2
      go_ret
      exact ⟨rfl, bt B4.out B7.out⟩

set_option maxHeartbeats 1000000 in
theorem canon_out (w : World) (A : Option Addr) (n cap : Nat) (h : (40 : Int) < ((n : Nat) : Int)) :
    Calls Try.prog 6 #[.slice A n cap] w fun e w' => e = .returned (.bool true) ∧ Below w.heap.size w w' := by
  go_enter Try.func6, Try.ntmps6
  go_wp2_with (fail)
  refine (awake_any _).mono ?_
  rintro e w1 ⟨rfl, b1⟩
  go_wp2
  go_ret
  exact ⟨rfl, b1⟩

theorem bytes_of {zs : List Int} (h : ∀ n ∈ zs, (Lit.int .u8 n).wf = true) : Bytes zs := fun n hn => by
  have := h n hn
  have : 0 ≤ n ∧ n ≤ 255 := by simpa [Lit.wf, IntKind.min, IntKind.max, IntKind.signed, IntKind.bits] using this
  exact this

theorem walk (w : World) (A0 : Option Addr) (c0 : Nat) (Z : List Int) (hZ : Lies w .u8 w.heap.size A0 Z) (bZ : ∀ n ∈ Z, (Lit.int .u8 n).wf = true) (kZ : Z.length ≤ c0 ∧ c0 ≤ maxLen) (nZ : A0 = none → c0 = 0) :
    Calls Try.prog 6 #[.slice A0 Z.length c0] w fun e w' => e = .returned (.bool true) ∧ Below w.heap.size w w' := by
  by_cases h : Z.length ≤ 40
  · exact canon_in w A0 c0 Z hZ (bytes_of bZ) (by omega)
  · exact canon_out w A0 _ c0 (by omega)

end Go.Proofs.Ytcibkgmochikmaa.WireCanon
