/- Reading lists: the program's walks. -/
import Derived.Test.YtcibkgmochikmaaWireRd
import Derived.Test.YtcibkgmochikmaaWireText
namespace Go.Proofs.Ytcibkgmochikmaa.WireLst
set_option linter.unusedVariables false
open Go.RowKit Go.Proofs.Ytcibkgmochikmaa.WireBase Go.Proofs.Ytcibkgmochikmaa.WireInt Go.Proofs.Ytcibkgmochikmaa.WireAppend Go.Proofs.Ytcibkgmochikmaa.WireRead Go.Proofs.Ytcibkgmochikmaa.WireParse Go.Proofs.Ytcibkgmochikmaa.WireSrc Go.Proofs.Ytcibkgmochikmaa.WireAwake Go.Proofs.Ytcibkgmochikmaa.WireCode Go.Proofs.Ytcibkgmochikmaa.WireCanon Go.Proofs.Ytcibkgmochikmaa.WireRd

/-- Reading n values one behind the other. -/
def rdN {α : Type} (take : List Int → Except Int (α × List Int)) : Nat → List Int → Except Int (List α × List Int)
  | 0, Z => .ok ([], Z)
  | n + 1, Z => match take Z with
    | .error e => .error e
    | .ok (x, Y) => match rdN take n Y with
      | .error e => .error e
      | .ok (xs, Y') => .ok (x :: xs, Y')

/-- Reading a list. -/
def rdL {α : Type} (take : List Int → Except Int (α × List Int)) (most : Int) (Z : List Int) : Except Int (List α × List Int) :=
  match rdI 0 most 3 Z with
  | .error e => .error e
  | .ok (n, Y) => rdN take n.toNat Y

theorem int_info : (Try.prog.info? 3).map (fun i => (i.zero, i.size, i.bytes)) = some (some (.int .i64 0), 1, 8) := by kernel_rfl
theorem string_info : (Try.prog.info? 9).map (fun i => (i.zero, i.size, i.bytes)) = some (some (.string ⟨#[]⟩), 1, 16) := by kernel_rfl

/-- A row of values of the call's own. -/
def OwnV (w : World) (base : Nat) (e : TypeId) (v : Value) (vs : List Value) : Prop := w.ownsRow base e 1 v vs.length vs

/-- What a call may change: block g, and blocks from base on. -/
structure From (g base : Nat) (w w' : World) : Prop where
  os : w'.os = w.os
  tape : w'.tape = w.tape
  output : w'.output = w.output
  size : w.heap.size ≤ w'.heap.size
  block : ∀ k, k < base → k ≠ g → w'.heap[k]? = w.heap[k]?

theorem From.refl (g base : Nat) (w : World) : From g base w w := ⟨rfl, rfl, rfl, Nat.le_refl _, fun _ _ _ => rfl⟩
theorem From.trans {g base : Nat} {a b c : World} (h : From g base a b) (k : From g base b c) : From g base a c :=
  ⟨k.os.trans h.os, k.tape.trans h.tape, k.output.trans h.output, Nat.le_trans h.size k.size, fun i hi hg => (k.block i hi hg).trans (h.block i hi hg)⟩
theorem From.of_only {g base : Nat} {w w' : World} (h : Only g w w') (hb : base ≤ w.heap.size) : From g base w w' := ⟨h.os, h.tape, h.output, h.size, fun k hk hg => h.block k (by omega) hg⟩
theorem From.of_below {g base : Nat} {w w' : World} (h : Below base w w') : From g base w w' := ⟨h.os, h.tape, h.output, h.size, fun k hk _ => h.block k hk⟩
theorem From.only {g : Nat} {w w' : World} (h : From g w.heap.size w w') : Only g w w' := ⟨h.os, h.tape, h.output, h.size, h.block⟩
theorem From.cell {g base : Nat} {w w' : World} (h : From g base w w') {k j : Nat} {v : Value} (hk : k < base) (hg : k ≠ g) (hc : w.cell? ⟨k, j, none⟩ = some v) : w'.cell? ⟨k, j, none⟩ = some v :=
  (World.cell?_of_block (a := ⟨k, j, none⟩) (h.block k hk hg)).trans hc

theorem OwnV.only {w w' : World} {base g : Nat} {e : TypeId} {v : Value} {vs : List Value} (h : OwnV w base e v vs) (ho : Only g w w') (hg : g < base) : OwnV w' base e v vs := by
  refine ⟨h.1, ?_⟩
  rcases h.2 with h0 | ⟨k, cap, cur, hv, hbg, hk, rest⟩
  · exact Or.inl h0
  · exact Or.inr ⟨k, cap, cur, hv, hbg, (ho.block k (Array.getElem?_eq_some_iff.1 hk).1 (by omega)).trans hk, rest⟩

/-- Appending one value, in a block of its own, onto a row of the call's own. -/
theorem app_val {ops : Array Oper} {rest : List Oper} {o : Oper} {a : Act} {Q : Exit → Act → World → Prop} (T e : TypeId) (hT : Try.prog.underlying T = some (.slice e)) (z : Value) (bytes : Nat) (hinfo : (Try.prog.info? e).map (fun i => (i.zero, i.size, i.bytes)) = some (some z, 1, bytes)) (hzs : z.cells.size = 1) (hby : bytes ≤ 16)
    (hgd : o.guard = none) (s x : Operand) (ho : o.op = .call { callee := .builtin .append, args := #[s, x], argTypes := #[T, T] })
    (g base : Nat) (w0 wk : World) (y v : Value) (hy : y.oneCell' = true) (vs : List Value) (hs : a.eval s = v) (hx : a.eval x = .slice (some ⟨wk.heap.size, 0, none⟩) 1 1) (hown : Hid (OwnV wk base e v vs)) (hlen : ((vs.length : Nat) : Int) ≤ 200000) (hbase : base ≤ w0.heap.size) (hB : Hid (From g base w0 wk)) (hg : g < base)
    (h : ∀ v' w', Hid (OwnV w' base e v' (vs ++ [y])) → Hid (From g base w0 w') → Hid (Only base wk w' ∨ True) → Hid (∀ k, k < base → w'.heap[k]? = wk.heap[k]?) → wpList Try.prog ops Q rest (a.put o.dst v') w') : wpList Try.prog ops Q (o :: rest) a (wk.alloc (.cells #[y] e)) := by
  obtain ⟨i0, hi, hz0, hz1, hz2⟩ := info_parts hinfo
  have hbk : base ≤ wk.heap.size := Nat.le_trans hbase hB.out.size
  have hal : Below wk.heap.size wk (wk.alloc (.cells #[y] e)) := (Below.refl _ _).alloc (Nat.le_refl _) _
  have hown' : (wk.alloc (.cells #[y] e)).ownsRow base e 1 v vs.length vs := World.ownsRow.alloc hown.out _
  have hcell : ∀ j u, [y][j]? = some u → (wk.alloc (.cells #[y] e)).cell? ((⟨wk.heap.size, 0, none⟩ : Addr).add j) = some u := fun j u hj => by
    match j, hj with
    | 0, hj =>
      obtain rfl := Option.some.inj hj
      rw [add_plain]
      have : (wk.alloc (.cells #[y] e)).heap[wk.heap.size]? = some (.cells #[y] e) := by
        show (wk.heap.push _)[wk.heap.size]? = _
        simp
      simp only [World.cell?]
      rw [this]
      rfl
    | n + 1, hj => simp at hj
  refine wpList_plain hgd fun K hK => ?_
  obtain ⟨v', w', hrun, h2, h3, _⟩ := run_append_own_at (P := Try.prog) (wk.alloc (.cells #[y] e)) base T o.type e i0 z 1 bytes hT hi hz0 hz1 hz2 hzs (by omega) v vs.length vs hown' ⟨wk.heap.size, 0, none⟩ 1 1 [y] rfl hcell (fun u hu => by rw [List.mem_singleton.1 hu]; exact hy) (by unfold maxLen; omega) (by
    have : (vs.length + 1) * bytes ≤ 200001 * 16 := Nat.mul_le_mul (by omega) hby
    omega) (Nat.le_trans hbk hal.size)
  unfold Oper.wp execOp
  simp only [ho, resolve, invoke, builtin, Sem.run_bind, Sem.run_pure, Result.andThen_ok, List.map_toArray, List.map_cons, List.map_nil, hs, hx, hrun]
  have hbb : Below base wk w' := (hal.mono hbk).grown h3 (Nat.le_trans hbk hal.size) (fun k hk => (hown'.lt k hk).1)
  refine hK _ _ (h v' w' (Lib.hid ?_) (Lib.hid (hB.out.trans (From.of_below hbb))) (Lib.hid (Or.inr trivial)) (Lib.hid fun k hk => hbb.block k hk))
  unfold OwnV
  rw [List.length_append]
  exact h2

def join {α : Type} (vs : List α) (r : Except Int (List α × List Int)) : Except Int (List α × List Int) :=
  match r with
  | .error e => .error e
  | .ok (xs, Y) => .ok (vs ++ xs, Y)

theorem join_nil {α : Type} (r : Except Int (List α × List Int)) : join [] r = r := by
  cases r with
  | error e => rfl
  | ok p => rfl

theorem join_step {α : Type} (take : List Int → Except Int (α × List Int)) (vs : List α) (x : α) (Y Y' : List Int) (m : Nat) (h : take Y = .ok (x, Y')) : join vs (rdN take (m + 1) Y) = join (vs ++ [x]) (rdN take m Y') := by
  show join vs (match take Y with
    | .error e => .error e
    | .ok (x, Y) => match rdN take m Y with
      | .error e => .error e
      | .ok (xs, Y') => .ok (x :: xs, Y')) = _
  rw [h]
  show join vs (match rdN take m Y' with
      | .error e => .error e
      | .ok (xs, Y') => .ok (x :: xs, Y')) = _
  cases rdN take m Y' with
  | error e => rfl
  | ok p =>
    obtain ⟨xs, Y2⟩ := p
    show Except.ok (vs ++ x :: xs, Y2) = Except.ok (vs ++ [x] ++ xs, Y2)
    simp

theorem join_stop {α : Type} (take : List Int → Except Int (α × List Int)) (vs : List α) (Y : List Int) (m : Nat) (e : Int) (h : take Y = .error e) : join vs (rdN take (m + 1) Y) = .error e := by
  show join vs (match take Y with
    | .error e => .error e
    | .ok (x, Y) => match rdN take m Y with
      | .error e => .error e
      | .ok (xs, Y') => .ok (x :: xs, Y')) = _
  rw [h]
  rfl

theorem here_kept {w w' : World} {t B base : Nat} {Y : List Int} (h : Here w t B Y) (hk : ∀ k, k < base → w'.heap[k]? = w.heap[k]?) (ht : t < base) (hB : B ≤ base) (hs : base ≤ w'.heap.size) : Here w' t B Y := by
  obtain ⟨hb, h0, A, c, h1, h2, h3, h4⟩ := h
  refine ⟨hb, by omega, A, c, h1, h2, (hk t ht).trans h3, fun h0 => ?_⟩
  obtain ⟨ad, e, hlt, hc⟩ := h4 h0
  refine ⟨ad, e, hlt, fun i hi => ?_⟩
  rw [← hc i hi]
  exact World.cell?_of_block (by rw [block_add_of]; exact hk _ (by omega))

/-- What reading a list does to the source itself. -/
def InnerL {α : Type} (w w' : World) (g B : Nat) (toV : α → Value) (e : TypeId) (v : Value) (res : Except Int (List α × List Int)) : Prop :=
  Only g w w' ∧ match res with
  | .error e => e ≠ 0 ∧ ∃ A n c, Src w' g (.slice A n c) e
  | .ok (xs, Y) => OwnV w' w.heap.size e v (xs.map toV) ∧ Here w' g B Y

set_option maxHeartbeats 4000000 in
theorem list_int (t gm gt B n : Nat) (gl gh : Nat) (take : List Int → Except Int (Int × List Int)) (Y : List Int) (w : World) (hB : B ≤ w.heap.size) (ht : t < w.heap.size) (hlen : Y.length ≤ 100000) (hn : ((n : Nat) : Int) ≤ 9223372036854775807) (most : Int)
    (hgt : gt < w.heap.size ∧ gt ≠ t) (hcap : w.cell? ⟨gt, 0, none⟩ = some (.func (.func 49) #[] #[.pointer (some ⟨gl, 0, none⟩), .pointer (some ⟨gh, 0, none⟩)])) (hcm : w.cell? ⟨gm, 0, none⟩ = some (.int .i64 most))
    (HW : Hid (Calls Try.prog 50 #[.pointer (some ⟨t, 0, none⟩), .int .i64 0, .int .i64 most, .int .i64 3] w fun r w' => r = .returned (.int .i64 n) ∧ Only t w w' ∧ Here w' t B Y))
    (HT : Hid (∀ wr Y, From t w.heap.size w wr → Here wr t B Y → Calls Try.prog 49 #[.pointer (some ⟨t, 0, none⟩), .pointer (some ⟨gl, 0, none⟩), .pointer (some ⟨gh, 0, none⟩)] wr fun r w' => ∃ x : Int, r = .returned (Value.int .i64 x) ∧ Inner wr w' t B (take Y) (fun x' => x = x') True))
    (HLESS : Hid (∀ Y x Y', Bytes Y → take Y = .ok (x, Y') → Y'.length < Y.length)) :
    Calls Try.prog 61 #[.pointer (some ⟨t, 0, none⟩), .pointer (some ⟨gm, 0, none⟩), .pointer (some ⟨gt, 0, none⟩)] w fun r w' => ∃ v, r = .returned v ∧ InnerL w w' t B (Value.int .i64) 3 v (rdN take n Y) := by
  obtain ⟨R, hR⟩ : ∃ R, R = rdN take n Y := ⟨_, rfl⟩
  rw [← hR]
  have HR : Hid (R = join [] (rdN take n Y)) := Lib.hid (by rw [join_nil, hR])
  have HCAP : Hid (∀ wr, From t w.heap.size w wr → wr.cell? ⟨gt, 0, none⟩ = some (.func (.func 49) #[] #[.pointer (some ⟨gl, 0, none⟩), .pointer (some ⟨gh, 0, none⟩)])) := Lib.hid fun wr hf => hf.cell hgt.1 hgt.2 hcap
  clear hR hcap hgt
  go_enter Try.func61, Try.ntmps61
  go_wp2_with (fail)
  refine HW.out.mono ?_
  rintro r w2 ⟨rfl, ho, hh⟩
  have HH := Lib.hid hh
  have HF : Hid (From t w.heap.size w w2) := Lib.hid (From.of_only ho (Nat.le_refl _))
  clear ho hh
  go_wp2_with (fail)
  go_loopw [5, 6] (fun s5 s6 wr => ∃ (v : Value) (m : Nat) (vs : List Int), s5 = v ∧ s6 = .int .i64 m ∧ m ≤ n ∧ Hid (OwnV wr w.heap.size 3 v (vs.map (Value.int .i64))) ∧ Hid (From t w.heap.size w wr) ∧ ((∃ Y, Hid (Here wr t B Y) ∧ Hid (R = join vs (rdN take m Y)) ∧ Hid (vs.length + Y.length ≤ 100000)) ∨ (∃ e A n c, Hid (Src wr t (.slice A n c) e) ∧ (e == 0) = false ∧ Hid (R = .error e)))) (fun _ s6 _ => (intOf s6).toNat)
  case atStart => exact ⟨_, n, [], rfl, rfl, Nat.le_refl _, Lib.hid (World.ownsRow_nil _ _ _ _), HF, Or.inl ⟨Y, HH, HR, Lib.hid (by simpa using hlen)⟩⟩
  case round =>
    obtain ⟨v, m, vs, rfl, rfl, hmn, HO, HF, h⟩ := hrel
    rcases h with ⟨Y, HH, HR, HLEN⟩ | ⟨e, A, n', c, HS, he, HR⟩
    · have c1 : wr.cell? ⟨t, 1, none⟩ = some (.int .i64 0) := by obtain ⟨_, _, _, _, _, _, h, _⟩ := HH.out; exact h.err
      cases m with
      | zero =>
        go_wp2
        go_ret
        refine ⟨_, rfl, HF.out.only, ?_⟩
        have hr : R = .ok (vs, Y) := by
          rw [HR.out]
          show Except.ok (vs ++ [], Y) = _
          rw [List.append_nil]
        rw [hr]
        exact ⟨HO.out, HH.out⟩
      | succ m =>
        have hm : (0 : Int) < ((m + 1 : Nat) : Int) := by omega
        have hmm : ((m + 1 : Nat) : Int) - 1 = (m : Int) := by omega
        have hwm : wrap64 ((m : Nat) : Int) = ((m : Nat) : Int) := IntWalk.wrap64_in _ (by omega)
        have hm1 : ((m : Nat) : Int) < ((m + 1 : Nat) : Int) := by omega
        generalize ((m + 1 : Nat) : Int) = mm at *
        have hcap := HCAP.out wr HF.out
        have HTT := Lib.hid (HT.out wr Y HF.out HH.out)
        go_wp2_with (fail)
        refine HTT.out.mono ?_
        rintro r w3 ⟨x, rfl, ho3, hin⟩
        have HF3 := Lib.hid (HF.out.trans (From.of_only ho3 HF.out.size))
        have HO3 := Lib.hid (OwnV.only HO.out ho3 ht)
        have HLV : Hid ((((vs.map (Value.int .i64)).length : Nat) : Int) ≤ 200000) := Lib.hid (by rw [List.length_map]; have := HLEN.out; omega)
        go_wp2_with (with_reducible refine stop_at (o := ⟨some 26, _, _, _, _, _⟩) ?_)
        unfold Stop
        refine app_val 23 3 Try.underlying23 (.int .i64 0) 8 int_info rfl (by decide) rfl (.tmp 21) (.tmp 25) rfl t w.heap.size w w3 (Value.int .i64 x) _ rfl (vs.map (Value.int .i64)) rfl rfl HO3 HLV.out (Nat.le_refl _) HF3 ht ?_
        intro v4 w4 HO4 HF4 _ HK4
        have HO4' : Hid (OwnV w4 w.heap.size 3 v4 ((vs ++ [x]).map (Value.int .i64))) := Lib.hid (by rw [List.map_append]; exact HO4.out)
        have hnext : (∃ Y, Hid (Here w4 t B Y) ∧ Hid (R = join (vs ++ [x]) (rdN take m Y)) ∧ Hid ((vs ++ [x]).length + Y.length ≤ 100000)) ∨ (∃ e A n c, Hid (Src w4 t (.slice A n c) e) ∧ (e == 0) = false ∧ Hid (R = .error e)) := by
          cases hres : take Y with
          | error e =>
            rw [hres] at hin
            obtain ⟨_, he, A, n, c, hs⟩ := hin
            exact Or.inr ⟨e, A, n, c, Lib.hid ((HK4.out t ht).trans hs), beq_eq_false_iff_ne.2 he, Lib.hid (by rw [HR.out]; exact join_stop take vs Y m e hres)⟩
          | ok p =>
            obtain ⟨x', Y'⟩ := p
            rw [hres] at hin
            obtain ⟨rfl, hh⟩ := hin
            have hl := HLESS.out Y _ Y' HH.out.1 hres
            exact Or.inl ⟨Y', Lib.hid (here_kept hh HK4.out ht hB HF4.out.size), Lib.hid (by rw [HR.out]; exact join_step take vs _ Y Y' m hres), Lib.hid (by have := HLEN.out; rw [List.length_append]; simp; omega)⟩
        have HNEXT := Lib.hid hnext
        clear hnext hin ho3
        go_wp2
        go_roundw
        case rel => exact ⟨v4, m, vs ++ [x], rfl, by first | rfl | rw [hwm] | rw [hmm], by omega, HO4', HF4, HNEXT.out⟩
        case measure => simp [intOf]; omega
    · have c1 := HS.out.err
      by_cases hm : (0 : Int) < ((m : Nat) : Int)
      · go_wp2
        go_ret
        refine ⟨_, rfl, HF.out.only, ?_⟩
        rw [HR.out]
        exact ⟨by simpa using he, A, n', c, HS.out⟩
      · go_wp2
        go_ret
        refine ⟨_, rfl, HF.out.only, ?_⟩
        rw [HR.out]
        exact ⟨by simpa using he, A, n', c, HS.out⟩

set_option maxHeartbeats 4000000 in
theorem list_string (t gm gt B n : Nat) (gl : Nat) (take : List Int → Except Int (ByteArray × List Int)) (Y : List Int) (w : World) (hB : B ≤ w.heap.size) (ht : t < w.heap.size) (hlen : Y.length ≤ 100000) (hn : ((n : Nat) : Int) ≤ 9223372036854775807) (most : Int)
    (hgt : gt < w.heap.size ∧ gt ≠ t) (hcap : w.cell? ⟨gt, 0, none⟩ = some (.func (.func 52) #[] #[.pointer (some ⟨gl, 0, none⟩)])) (hcm : w.cell? ⟨gm, 0, none⟩ = some (.int .i64 most))
    (HW : Hid (Calls Try.prog 50 #[.pointer (some ⟨t, 0, none⟩), .int .i64 0, .int .i64 most, .int .i64 3] w fun r w' => r = .returned (.int .i64 n) ∧ Only t w w' ∧ Here w' t B Y))
    (HT : Hid (∀ wr Y, From t w.heap.size w wr → Here wr t B Y → Calls Try.prog 52 #[.pointer (some ⟨t, 0, none⟩), .pointer (some ⟨gl, 0, none⟩)] wr fun r w' => ∃ x : ByteArray, r = .returned (Value.string x) ∧ Inner wr w' t B (take Y) (fun x' => x = x') True))
    (HLESS : Hid (∀ Y x Y', Bytes Y → take Y = .ok (x, Y') → Y'.length < Y.length)) :
    Calls Try.prog 64 #[.pointer (some ⟨t, 0, none⟩), .pointer (some ⟨gm, 0, none⟩), .pointer (some ⟨gt, 0, none⟩)] w fun r w' => ∃ v, r = .returned v ∧ InnerL w w' t B (Value.string) 9 v (rdN take n Y) := by
  obtain ⟨R, hR⟩ : ∃ R, R = rdN take n Y := ⟨_, rfl⟩
  rw [← hR]
  have HR : Hid (R = join [] (rdN take n Y)) := Lib.hid (by rw [join_nil, hR])
  have HCAP : Hid (∀ wr, From t w.heap.size w wr → wr.cell? ⟨gt, 0, none⟩ = some (.func (.func 52) #[] #[.pointer (some ⟨gl, 0, none⟩)])) := Lib.hid fun wr hf => hf.cell hgt.1 hgt.2 hcap
  clear hR hcap hgt
  go_enter Try.func64, Try.ntmps64
  go_wp2_with (fail)
  refine HW.out.mono ?_
  rintro r w2 ⟨rfl, ho, hh⟩
  have HH := Lib.hid hh
  have HF : Hid (From t w.heap.size w w2) := Lib.hid (From.of_only ho (Nat.le_refl _))
  clear ho hh
  go_wp2_with (fail)
  go_loopw [5, 6] (fun s5 s6 wr => ∃ (v : Value) (m : Nat) (vs : List ByteArray), s5 = v ∧ s6 = .int .i64 m ∧ m ≤ n ∧ Hid (OwnV wr w.heap.size 9 v (vs.map (Value.string))) ∧ Hid (From t w.heap.size w wr) ∧ ((∃ Y, Hid (Here wr t B Y) ∧ Hid (R = join vs (rdN take m Y)) ∧ Hid (vs.length + Y.length ≤ 100000)) ∨ (∃ e A n c, Hid (Src wr t (.slice A n c) e) ∧ (e == 0) = false ∧ Hid (R = .error e)))) (fun _ s6 _ => (intOf s6).toNat)
  case atStart => exact ⟨_, n, [], rfl, rfl, Nat.le_refl _, Lib.hid (World.ownsRow_nil _ _ _ _), HF, Or.inl ⟨Y, HH, HR, Lib.hid (by simpa using hlen)⟩⟩
  case round =>
    obtain ⟨v, m, vs, rfl, rfl, hmn, HO, HF, h⟩ := hrel
    rcases h with ⟨Y, HH, HR, HLEN⟩ | ⟨e, A, n', c, HS, he, HR⟩
    · have c1 : wr.cell? ⟨t, 1, none⟩ = some (.int .i64 0) := by obtain ⟨_, _, _, _, _, _, h, _⟩ := HH.out; exact h.err
      cases m with
      | zero =>
        go_wp2
        go_ret
        refine ⟨_, rfl, HF.out.only, ?_⟩
        have hr : R = .ok (vs, Y) := by
          rw [HR.out]
          show Except.ok (vs ++ [], Y) = _
          rw [List.append_nil]
        rw [hr]
        exact ⟨HO.out, HH.out⟩
      | succ m =>
        have hm : (0 : Int) < ((m + 1 : Nat) : Int) := by omega
        have hmm : ((m + 1 : Nat) : Int) - 1 = (m : Int) := by omega
        have hwm : wrap64 ((m : Nat) : Int) = ((m : Nat) : Int) := IntWalk.wrap64_in _ (by omega)
        have hm1 : ((m : Nat) : Int) < ((m + 1 : Nat) : Int) := by omega
        generalize ((m + 1 : Nat) : Int) = mm at *
        have hcap := HCAP.out wr HF.out
        have HTT := Lib.hid (HT.out wr Y HF.out HH.out)
        go_wp2_with (fail)
        refine HTT.out.mono ?_
        rintro r w3 ⟨x, rfl, ho3, hin⟩
        have HF3 := Lib.hid (HF.out.trans (From.of_only ho3 HF.out.size))
        have HO3 := Lib.hid (OwnV.only HO.out ho3 ht)
        have HLV : Hid ((((vs.map (Value.string)).length : Nat) : Int) ≤ 200000) := Lib.hid (by rw [List.length_map]; have := HLEN.out; omega)
        go_wp2_with (with_reducible refine stop_at (o := ⟨some 26, _, _, _, _, _⟩) ?_)
        unfold Stop
        refine app_val 24 9 Try.underlying24 (.string ⟨#[]⟩) 16 string_info rfl (by decide) rfl (.tmp 21) (.tmp 25) rfl t w.heap.size w w3 (Value.string x) _ rfl (vs.map (Value.string)) rfl rfl HO3 HLV.out (Nat.le_refl _) HF3 ht ?_
        intro v4 w4 HO4 HF4 _ HK4
        have HO4' : Hid (OwnV w4 w.heap.size 9 v4 ((vs ++ [x]).map (Value.string))) := Lib.hid (by rw [List.map_append]; exact HO4.out)
        have hnext : (∃ Y, Hid (Here w4 t B Y) ∧ Hid (R = join (vs ++ [x]) (rdN take m Y)) ∧ Hid ((vs ++ [x]).length + Y.length ≤ 100000)) ∨ (∃ e A n c, Hid (Src w4 t (.slice A n c) e) ∧ (e == 0) = false ∧ Hid (R = .error e)) := by
          cases hres : take Y with
          | error e =>
            rw [hres] at hin
            obtain ⟨_, he, A, n, c, hs⟩ := hin
            exact Or.inr ⟨e, A, n, c, Lib.hid ((HK4.out t ht).trans hs), beq_eq_false_iff_ne.2 he, Lib.hid (by rw [HR.out]; exact join_stop take vs Y m e hres)⟩
          | ok p =>
            obtain ⟨x', Y'⟩ := p
            rw [hres] at hin
            obtain ⟨rfl, hh⟩ := hin
            have hl := HLESS.out Y _ Y' HH.out.1 hres
            exact Or.inl ⟨Y', Lib.hid (here_kept hh HK4.out ht hB HF4.out.size), Lib.hid (by rw [HR.out]; exact join_step take vs _ Y Y' m hres), Lib.hid (by have := HLEN.out; rw [List.length_append]; simp; omega)⟩
        have HNEXT := Lib.hid hnext
        clear hnext hin ho3
        go_wp2
        go_roundw
        case rel => exact ⟨v4, m, vs ++ [x], rfl, by first | rfl | rw [hwm] | rw [hmm], by omega, HO4', HF4, HNEXT.out⟩
        case measure => simp [intOf]; omega
    · have c1 := HS.out.err
      by_cases hm : (0 : Int) < ((m : Nat) : Int)
      · go_wp2
        go_ret
        refine ⟨_, rfl, HF.out.only, ?_⟩
        rw [HR.out]
        exact ⟨by simpa using he, A, n', c, HS.out⟩
      · go_wp2
        go_ret
        refine ⟨_, rfl, HF.out.only, ?_⟩
        rw [HR.out]
        exact ⟨by simpa using he, A, n', c, HS.out⟩

end Go.Proofs.Ytcibkgmochikmaa.WireLst
