/- The reference's sums of lists, and sums of products whatever the lists. -/
import Derived.Test.YtbpppeekfjfolaaIntLDotR
import Derived.Test.YtbpppeekfjfolaaRow
import Derived.Test.YtbpppeekfjfolaaStop
namespace Go.Proofs.Ytbpppeekfjfolaa.IntLSum
set_option linter.unusedVariables false
open Go.RowKit Go.Proofs.Ytbpppeekfjfolaa.IntPlain Go.Proofs.Ytbpppeekfjfolaa.IntWalks Go.Proofs.Ytbpppeekfjfolaa.IntWide Go.Proofs.Ytbpppeekfjfolaa.IntTotal Go.Proofs.Ytbpppeekfjfolaa.IntNumber Go.Proofs.Ytbpppeekfjfolaa.IntSum Go.Proofs.Ytbpppeekfjfolaa.IntAwake Go.Proofs.Ytbpppeekfjfolaa.IntDivision Go.Proofs.Ytbpppeekfjfolaa.IntBasic Go.Proofs.Ytbpppeekfjfolaa.IntGcd Go.Proofs.Ytbpppeekfjfolaa.IntLcm Go.Proofs.Ytbpppeekfjfolaa.IntDigits Go.Proofs.Ytbpppeekfjfolaa.IntLDot Go.Proofs.Ytbpppeekfjfolaa.IntLRef Go.Proofs.Ytbpppeekfjfolaa.IntLDotR

theorem add_plain (b o i : Nat) : (⟨b, o, none⟩ : Addr).add i = ⟨b, o + i, none⟩ := by unfold Addr.add; split <;> simp_all

/-- Where a list lies that a call takes. -/
structure At (w : World) (A : Option Addr) (b o n : Nat) (zs : List Int) : Prop where
  len : zs.length = n
  addr : 0 < n → A = some ⟨b, o, none⟩ ∧ b < w.heap.size
  cell : ∀ i, i < n → w.cell? ⟨b, o + i, none⟩ = some (.int .i64 (zs.getD i 0))

theorem at_of {w : World} {A : Option Addr} {zs : List Int} (h : Lies w .i64 w.heap.size A zs) : ∃ b o, At w A b o zs.length zs := by
  by_cases h0 : 0 < zs.length
  · obtain ⟨ad, rfl, hlt, hc⟩ := h h0
    obtain ⟨b, o, spot⟩ := ad
    have hs : spot = none := by
      have := World.cell?_spot (hc 0 h0)
      simpa [Addr.add] using this
    subst hs
    refine ⟨b, o, rfl, fun _ => ⟨rfl, hlt⟩, fun i hi => ?_⟩
    have := hc i hi
    rwa [add_plain] at this
  · exact ⟨0, 0, rfl, fun h => absurd h h0, fun i hi => absurd (Nat.lt_of_le_of_lt (Nat.zero_le i) hi) h0⟩

theorem refDot_len (A B : Option Addr) (n m ca cb : Nat) (w : World) (hn : n ≤ 10000) (hm : m ≤ 10000) (h : n ≠ m) :
    Calls Try.prog 35 #[.slice A n ca, .slice B m cb] w fun e w' => e = .returned (.tuple #[.int .i64 0, .int .i64 1]) ∧ Below w.heap.size w w' := by
  have h1 : ((n : Int) == (m : Int)) = false := beq_eq_false_iff_ne.2 (by omega)
  have h2 : ((n : Int) != (m : Int)) = true := bne_iff_ne.2 (by omega)
  go_enter Try.func35, Try.ntmps35
  go_wp2
  go_ret2
  exact ⟨rfl, Below.refl _ _⟩

theorem refDot_out (ba oa ca bb ob cb n : Nat) (xs ys : List Int) (w : World) (hxl : xs.length = n) (hyl : ys.length = n) (hn : n ≤ 60)
    (hx : ∀ i, i < n → w.cell? ⟨ba, oa + i, none⟩ = some (.int .i64 (xs.getD i 0))) (hy : ∀ i, i < n → w.cell? ⟨bb, ob + i, none⟩ = some (.int .i64 (ys.getD i 0))) (hf : (xs.all inR && ys.all inR) = false) :
    Calls Try.prog 35 #[.slice (some ⟨ba, oa, none⟩) n ca, .slice (some ⟨bb, ob, none⟩) n cb] w fun e w' => e = .returned (.tuple #[.int .i64 0, .int .i64 2]) ∧ Below w.heap.size w w' := by
  have HX := Lib.hid hx
  have HY := Lib.hid hy
  have HF := Lib.hid hf
  have HXL := Lib.hid hxl
  have HYL := Lib.hid hyl
  clear hx hy hf hxl hyl
  go_enter Try.func35, Try.ntmps35
  go_wp2_with (fail)
  go_loop [6] (fun i => ∃ k : Nat, k ≤ n ∧ i = .int .i64 k ∧ Hid ((xs.take k).all inR = true ∧ (ys.take k).all inR = true)) (fun i => n - (intOf i).toNat)
  case atStart => exact ⟨0, Nat.zero_le _, rfl, Lib.hid ⟨rfl, rfl⟩⟩
  case round =>
    obtain ⟨k, hk, rfl, HT⟩ := hrel
    have hlt : k < n := by
      rcases Nat.lt_or_ge k n with h | h
      · exact h
      · have e1 : xs.take k = xs := List.take_of_length_le (by rw [HXL.out]; exact h)
        have e2 : ys.take k = ys := List.take_of_length_le (by rw [HYL.out]; exact h)
        have h1 := HT.out
        rw [e1, e2] at h1
        have h2 := HF.out
        rw [h1.1, h1.2] at h2
        cases h2
    have hcx := HX.out k hlt
    have hcy := HY.out k hlt
    have TX := Lib.hid (all_take xs k (by rw [HXL.out]; exact hlt))
    have TY := Lib.hid (all_take ys k (by rw [HYL.out]; exact hlt))
    rw [HT.out.1] at TX
    rw [HT.out.2] at TY
    generalize xs.getD k 0 = a at *
    generalize ys.getD k 0 = c at *
    have JA := Lib.hid (fun w => in_any a w)
    have JC := Lib.hid (fun w => in_any c w)
    generalize inR a = p at *
    generalize inR c = q at *
    clear HF HT HX HY
    cases p
    · clear TX TY JC
      go_wp2_with (fail)
      refine (JA.out _).mono ?_
      rintro e w' ⟨rfl, rfl⟩
      go_wp2
      go_ret2
      exact ⟨rfl, Below.refl _ _⟩
    · cases q
      · clear TX TY
        go_wp2_with (fail)
        refine (JA.out _).mono ?_
        rintro e w' ⟨rfl, rfl⟩
        go_wp2_with (fail)
        refine (JC.out _).mono ?_
        rintro e w' ⟨rfl, rfl⟩
        go_wp2
        go_ret2
        exact ⟨rfl, Below.refl _ _⟩
      · go_wp2_with (fail)
        refine (JA.out _).mono ?_
        rintro e w' ⟨rfl, rfl⟩
        go_wp2_with (fail)
        refine (JC.out _).mono ?_
        rintro e w' ⟨rfl, rfl⟩
        go_wp2
        go_round
        case rel => exact ⟨k + 1, by omega, by go_num, Lib.hid ⟨TX.out, TY.out⟩⟩
        case measure => simp [intOf]; omega

/-- What the sum of products of two lists comes to. -/
def dotOut (xs ys : List Int) : Value := if xs.length = ys.length then outcome ((xs.all inR && ys.all inR) && inR (dotTo xs ys xs.length)) (dotTo xs ys xs.length) else .tuple #[.int .i64 0, .int .i64 1]

theorem refDot_any (A1 A2 : Option Addr) (c1 c2 : Nat) (xs ys : List Int) (w : World) (h1 : Lies w .i64 w.heap.size A1 xs) (h2 : Lies w .i64 w.heap.size A2 ys) (hx : xs.length ≤ 60) (hy : ys.length ≤ 60) :
    Calls Try.prog 35 #[.slice A1 xs.length c1, .slice A2 ys.length c2] w fun e w' => e = .returned (dotOut xs ys) ∧ Below w.heap.size w w' := by
  obtain ⟨ba, oa, H1⟩ := at_of h1
  obtain ⟨bb, ob, H2⟩ := at_of h2
  unfold dotOut
  by_cases hl : xs.length = ys.length
  · rw [if_pos hl]
    cases hf : xs.all inR && ys.all inR
    · have h0 : 0 < xs.length := by
        rcases Nat.eq_zero_or_pos xs.length with h | h
        · have e1 := List.eq_nil_of_length_eq_zero h
          have e2 := List.eq_nil_of_length_eq_zero (hl ▸ h)
          rw [e1, e2] at hf
          cases hf
        · exact h
      obtain ⟨rfl, _⟩ := H1.addr h0
      obtain ⟨rfl, _⟩ := H2.addr (hl ▸ h0)
      rw [← hl]
      exact refDot_out ba oa c1 bb ob c2 _ xs ys w rfl hl.symm hx H1.cell (fun i hi => H2.cell i (hl ▸ hi)) hf
    · obtain ⟨ha, hb⟩ := Bool.and_eq_true_iff.1 hf
      rw [← hl, Bool.true_and]
      exact refDot_in A1 A2 ba oa c1 bb ob c2 _ xs ys w H1.addr (fun h => H2.addr (hl ▸ h)) rfl hl.symm hx H1.cell (fun i hi => H2.cell i (hl ▸ hi)) ha hb
  · rw [if_neg hl]
    exact refDot_len A1 A2 _ _ c1 c2 w (by omega) (by omega) hl

theorem dot_any (A1 A2 : Option Addr) (c1 c2 : Nat) (xs ys : List Int) (w : World) (h1 : Lies w .i64 w.heap.size A1 xs) (h2 : Lies w .i64 w.heap.size A2 ys) (hx : xs.length ≤ 60) (hy : ys.length ≤ 60) :
    Calls Try.prog 34 #[.slice A1 xs.length c1, .slice A2 ys.length c2] w fun e w' => e = .returned (dotOut xs ys) ∧ Below w.heap.size w w' := by
  obtain ⟨ba, oa, H1⟩ := at_of h1
  obtain ⟨bb, ob, H2⟩ := at_of h2
  unfold dotOut
  by_cases hl : xs.length = ys.length
  · rw [if_pos hl]
    rcases Nat.eq_zero_or_pos xs.length with h | h0
    · have e1 := List.eq_nil_of_length_eq_zero h
      have e2 := List.eq_nil_of_length_eq_zero (hl ▸ h)
      subst e1 e2
      exact dot_nil A1 A2 c1 c2 w
    · obtain ⟨rfl, ha⟩ := H1.addr h0
      obtain ⟨rfl, hb⟩ := H2.addr (hl ▸ h0)
      rw [← hl]
      cases hf : xs.all inR && ys.all inR
      · exact dot_out ba oa c1 bb ob c2 _ xs ys w rfl hl.symm (by omega) H1.cell (fun i hi => H2.cell i (hl ▸ hi)) hf
      · obtain ⟨g1, g2⟩ := Bool.and_eq_true_iff.1 hf
        rw [Bool.true_and]
        exact dot_in ba oa c1 bb ob c2 _ xs ys w ha hb rfl hl.symm (by omega) H1.cell (fun i hi => H2.cell i (hl ▸ hi)) g1 g2
  · rw [if_neg hl]
    exact dot_len A1 A2 _ _ c1 c2 w (by omega) (by omega) hl

theorem int_info : (Try.prog.info? 3).map (fun i => (i.zero, i.size, i.bytes)) = some (some (.int .i64 0), 1, 8) := by kernel_rfl

/-- A row of ints of the call's own. -/
def Own (w : World) (base : Nat) (v : Value) (zs : List Int) : Prop := w.ownsRow base 3 1 v zs.length (zs.map (Value.int .i64))

theorem own_below {w w' : World} {base : Nat} {v : Value} {zs : List Int} (h : Own w base v zs) (hb : Below w.heap.size w w') : Own w' base v zs := by
  refine ⟨h.1, ?_⟩
  rcases h.2 with h0 | ⟨g, cap, cur, hv, hbg, hg, rest⟩
  · exact Or.inl h0
  · exact Or.inr ⟨g, cap, cur, hv, hbg, (hb.block g (Array.getElem?_eq_some_iff.1 hg).1).trans hg, rest⟩

theorem new_one (wk : World) (x : Int) (T : TypeId) : Lies (wk.alloc (.cells #[.int .i64 x] T)) .i64 (wk.heap.size + 1) (some ⟨wk.heap.size, 0, none⟩) [x] := fun _ => ⟨_, rfl, by simp, fun i hi => by
  have : i = 0 := by simpa using hi
  subst this
  simp [Addr.add, go_sem]⟩

/-- Appending one number, in a block of its own, onto a row of the call's own. -/
theorem app_one {ops : Array Oper} {rest : List Oper} {o : Oper} {a : Act} {Q : Exit → Act → World → Prop} (hgd : o.guard = none) (s x : Operand) (ho : o.op = .call { callee := .builtin .append, args := #[s, x], argTypes := #[29, 29] })
    (w0 wk : World) (T : TypeId) (v : Value) (zs : List Int) (n : Int) (hs : a.eval s = v) (hx : a.eval x = .slice (some ⟨wk.heap.size, 0, none⟩) 1 1) (hown : Hid (Own wk w0.heap.size v zs)) (hlen : zs.length ≤ 200000) (hB : Hid (Below w0.heap.size w0 wk))
    (h : ∀ v' w', Hid (Own w' w0.heap.size v' (zs ++ [n])) → Hid (Below w0.heap.size w0 w') → wpList Try.prog ops Q rest (a.put o.dst v') w') : wpList Try.prog ops Q (o :: rest) a (wk.alloc (.cells #[.int .i64 n] T)) := by
  obtain ⟨i0, hi, hz0, hz1, hz2⟩ := info_parts int_info
  have hal : Below wk.heap.size wk (wk.alloc (.cells #[.int .i64 n] T)) := (Below.refl _ _).alloc (Nat.le_refl _) _
  have hBk : Below w0.heap.size w0 (wk.alloc (.cells #[.int .i64 n] T)) := bt hB.out hal
  have hown' := own_below hown.out hal
  unfold Own at hown'
  refine wp_app_ints _ hgd s x 29 ho w0.heap.size 3 i0 (.int .i64 0) 8 Try.underlying29 hi hz0 hz1 hz2 rfl v zs.length (zs.map (Value.int .i64)) hs hown' .i64 (wk.heap.size + 1) (some ⟨wk.heap.size, 0, none⟩) 1 [n] hx (new_one wk n T) (by unfold maxLen; simp; omega) (by simp; omega) hBk.size ?_
  intro v' w' h1 h2 _
  refine h v' w' (Lib.hid ?_) (Lib.hid (hBk.grown h2 hBk.size (fun k hk => (hown'.lt k hk).1)))
  unfold Own
  rw [List.length_append, List.map_append]
  exact h1

theorem ones_snoc (k : Nat) : List.replicate k (1 : Int) ++ [1] = List.replicate (k + 1) 1 := by rw [List.replicate_succ']

theorem dot_ones (zs : List Int) (k : Nat) (hk : k ≤ zs.length) : dotTo zs (List.replicate zs.length 1) k = (zs.take k).sum := by
  induction k with
  | zero => simp [dotTo]
  | succ k ih =>
    have e : (List.replicate zs.length (1 : Int)).getD k 0 = 1 := by
      have h : k < zs.length := by omega
      simp [List.getD, h]
    rw [sum_snoc zs k (by omega), ← ih (by omega)]
    simp only [dotTo]
    rw [e, Int.mul_one]

theorem ones_in (n : Nat) : (List.replicate n (1 : Int)).all inR = true := by
  rw [List.all_eq_true]
  intro x hx
  rw [(List.mem_replicate.1 hx).2]
  rfl

theorem ones_out (zs : List Int) : dotOut zs (List.replicate zs.length 1) = outcome (zs.all inR && inR zs.sum) zs.sum := by
  unfold dotOut
  rw [if_pos (by simp), ones_in, Bool.and_true, dot_ones zs _ (Nat.le_refl _), List.take_length]

theorem out_two (ok : Bool) (S : Int) : ∃ a b : Int, outcome ok S = .tuple #[.int .i64 a, .int .i64 b] := by cases ok <;> exact ⟨_, _, rfl⟩

set_option maxHeartbeats 1000000 in
theorem refSum_any (A : Option Addr) (c n : Nat) (zs : List Int) (w : World) (hl : Lies w .i64 w.heap.size A zs) (hn : zs.length = n) (hlen : n ≤ 60) :
    Calls Try.prog 33 #[.slice A n c] w fun e w' => e = .returned (outcome (zs.all inR && inR zs.sum) zs.sum) ∧ Below w.heap.size w w' := by
  have HD : Hid (∀ w1 v, Below w.heap.size w w1 → Own w1 w.heap.size v (List.replicate n 1) → Calls Try.prog 35 #[.slice A n c, v] w1 fun e w' => e = .returned (outcome (zs.all inR && inR zs.sum) zs.sum) ∧ Below w1.heap.size w1 w') := Lib.hid fun w1 v b hv => by
    obtain ⟨A2, c2, rfl, h2⟩ := own_lies hv
    have h := refDot_any A A2 c c2 zs (List.replicate n 1) w1 (hl.later b) h2 (by omega) (by simpa using hlen)
    rw [← hn, ones_out] at h
    rw [hn] at h
    exact h
  obtain ⟨u, v, huv⟩ := out_two (zs.all inR && inR zs.sum) zs.sum
  rw [huv] at HD
  have HU := Lib.hid huv
  have H0 : Hid (Own w w.heap.size (.slice none 0 0) (List.replicate 0 1)) := Lib.hid (World.ownsRow_nil _ _ _ _)
  clear hl hn huv
  go_enter Try.func33, Try.ntmps33
  go_wp2_with (fail)
  go_loopw [4, 5] (fun s u wr => ∃ k : Nat, k ≤ n ∧ u = .int .i64 k ∧ Hid (Own wr w.heap.size s (List.replicate k 1)) ∧ Hid (Below w.heap.size w wr)) (fun _ u _ => n - (intOf u).toNat)
  case atStart => exact ⟨0, Nat.zero_le _, rfl, H0, Lib.hid (Below.refl _ _)⟩
  case round =>
    obtain ⟨k, hk, rfl, HO, HB⟩ := hrel
    clear H0
    by_cases hlt : k < n
    · go_wp2_with (with_reducible refine stop_at (o := ⟨some 14, _, _, _, _, _⟩) ?_)
      unfold Stop
      refine app_one rfl (.tmp 12) (.tmp 13) rfl w wr _ _ (List.replicate k 1) 1 rfl rfl HO (by simp; omega) HB ?_
      intro v1 w1 H1 B1
      rw [ones_snoc] at H1
      go_wp2
      go_roundw
      case rel => exact ⟨k + 1, by omega, by go_num, H1, B1⟩
      case measure => simp [intOf]; omega
    · obtain rfl : k = n := by omega
      have HDD := Lib.hid (HD.out _ _ HB.out HO.out)
      go_wp2_with (fail)
      refine HDD.out.mono ?_
      rintro e w2 ⟨rfl, b2⟩
      go_wp2
      go_ret2
      exact ⟨by rw [HU.out]; rfl, bt HB.out b2⟩

end Go.Proofs.Ytbpppeekfjfolaa.IntLSum
