/- Lexing a text: the program's walk. -/
import Derived.Test.YtanhljpmknfabaaDoorLexTok
import Derived.Maps.AppendAt
import Derived.OwnWalk
namespace Go.Proofs.YtanhljpmknfabaaDoor.LexLex
set_option linter.unusedVariables false
open Go.RowKit Go.Proofs.YtanhljpmknfabaaDoor.LexModel Go.Proofs.YtanhljpmknfabaaDoor.LexMath Go.Proofs.YtanhljpmknfabaaDoor.LexSkip Go.Proofs.YtanhljpmknfabaaDoor.LexTok

/-- A token as four cells. -/
def cellsT (t : Tok) : List Value := [.int .i64 t.kind, .string (sv t.text), .int .i64 t.line, .int .i64 t.pos]

theorem flat_len : ∀ ts : List Tok, (ts.flatMap cellsT).length = ts.length * 4
  | [] => rfl
  | t :: ts => by
    rw [List.flatMap_cons, List.length_append, flat_len ts, List.length_cons]
    show 4 + ts.length * 4 = _
    omega

/-- A row of tokens of the call's own. -/
def OwnT (w : World) (base : Nat) (e : TypeId) (v : Value) (ts : List Tok) : Prop := w.ownsRow base e 4 v ts.length (ts.flatMap cellsT)

theorem add_plain (b o i : Nat) : (⟨b, o, none⟩ : Addr).add i = ⟨b, o + i, none⟩ := by unfold Addr.add; split <;> simp_all

theorem info_parts {T : TypeId} {z : Value} {n b : Nat} (h : (Tryd.prog.info? T).map (fun i => (i.zero, i.size, i.bytes)) = some (some z, n, b)) : ∃ i, Tryd.prog.info? T = some i ∧ i.zero = some z ∧ i.size = n ∧ i.bytes = b := by
  obtain ⟨i, h1, h2⟩ := Option.map_eq_some_iff.1 h
  injection h2 with h2 h3
  injection h3 with h3 h4
  exact ⟨i, h1, h2, h3, h4⟩

theorem OwnT.form {w : World} {base : Nat} {e : TypeId} {v : Value} {ts : List Tok} (h : OwnT w base e v ts) : ∃ A c, v = .slice A ts.length c := by
  rcases h.2 with ⟨rfl, h0⟩ | ⟨g, cap, cur, rfl, _⟩
  · exact ⟨none, 0, by rw [h0]⟩
  · exact ⟨_, _, rfl⟩

theorem OwnT.below {w w' : World} {base : Nat} {e : TypeId} {v : Value} {ts : List Tok} (h : OwnT w base e v ts) (hb : Below w.heap.size w w') : OwnT w' base e v ts := by
  refine ⟨h.1, ?_⟩
  rcases h.2 with h0 | ⟨g, cap, cur, hv, hbg, hg, rest⟩
  · exact Or.inl h0
  · exact Or.inr ⟨g, cap, cur, hv, hbg, (hb.block g (Array.getElem?_eq_some_iff.1 hg).1).trans hg, rest⟩

/-- Appending one token, in a block of its own. -/
theorem app_tok {ops : Array Oper} {rest : List Oper} {o : Oper} {a : Act} {Q : Exit → Act → World → Prop} (T e : TypeId) (hT : Tryd.prog.underlying T = some (.slice e)) (z : Value) (bytes : Nat) (hinfo : (Tryd.prog.info? e).map (fun i => (i.zero, i.size, i.bytes)) = some (some z, 4, bytes)) (hzs : z.cells.size = 4) (hby : bytes ≤ 64)
    (hgd : o.guard = none) (s x : Operand) (ho : o.op = .call { callee := .builtin .append, args := #[s, x], argTypes := #[T, T] })
    (base : Nat) (wk : World) (t : Tok) (kv lv pv : Int) (hkv : kv = t.kind) (hlv : lv = t.line) (hpv : pv = t.pos) (ts : List Tok) (v : Value) (hs : a.eval s = v) (hx : a.eval x = .slice (some ⟨wk.heap.size, 0, none⟩) 1 1) (hown : Hid (OwnT wk base e v ts)) (hlen : ((ts.length : Nat) : Int) ≤ 200000) (hbase : base ≤ wk.heap.size)
    (h : ∀ A c w', Hid (OwnT w' base e (.slice A (ts ++ [t]).length c) (ts ++ [t])) → Hid (Below base wk w') → wpList Tryd.prog ops Q rest (a.put o.dst (.slice A (ts ++ [t]).length c)) w') : wpList Tryd.prog ops Q (o :: rest) a (wk.alloc (.cells #[.int .i64 kv, .string (sv t.text), .int .i64 lv, .int .i64 pv] e)) := by
  subst hkv hlv hpv
  obtain ⟨i0, hi, hz0, hz1, hz2⟩ := info_parts hinfo
  have hal : Below wk.heap.size wk (wk.alloc (.cells #[.int .i64 t.kind, .string (sv t.text), .int .i64 t.line, .int .i64 t.pos] e)) := (Below.refl _ _).alloc (Nat.le_refl _) _
  have hown' : (wk.alloc (.cells #[.int .i64 t.kind, .string (sv t.text), .int .i64 t.line, .int .i64 t.pos] e)).ownsRow base e 4 v ts.length (ts.flatMap cellsT) := World.ownsRow.alloc hown.out _
  have hcell : ∀ j u, (cellsT t)[j]? = some u → (wk.alloc (.cells #[.int .i64 t.kind, .string (sv t.text), .int .i64 t.line, .int .i64 t.pos] e)).cell? ((⟨wk.heap.size, 0, none⟩ : Addr).add j) = some u := fun j u hj => by
    rw [add_plain, Nat.zero_add]
    have : (wk.alloc (.cells #[.int .i64 t.kind, .string (sv t.text), .int .i64 t.line, .int .i64 t.pos] e)).heap[wk.heap.size]? = some (.cells #[.int .i64 t.kind, .string (sv t.text), .int .i64 t.line, .int .i64 t.pos] e) := by
      show (wk.heap.push _)[wk.heap.size]? = _
      simp
    rw [cell_of_row _ _ j _ _ _ this]
    match j, hj with
    | 0, hj => exact hj
    | 1, hj => exact hj
    | 2, hj => exact hj
    | 3, hj => exact hj
    | n + 4, hj => simp [cellsT] at hj
  refine wpList_plain hgd fun K hK => ?_
  obtain ⟨v', w', hrun, h2, h3, _⟩ := run_append_own_at (P := Tryd.prog) (wk.alloc (.cells #[.int .i64 t.kind, .string (sv t.text), .int .i64 t.line, .int .i64 t.pos] e)) base T o.type e i0 z 4 bytes hT hi hz0 hz1 hz2 hzs (by omega) v ts.length (ts.flatMap cellsT) hown' ⟨wk.heap.size, 0, none⟩ 1 1 (cellsT t) rfl hcell (fun u hu => by
    simp only [cellsT, List.mem_cons, List.not_mem_nil, or_false] at hu
    rcases hu with rfl | rfl | rfl | rfl <;> rfl) (by unfold maxLen; omega) (by
    have : (ts.length + 1) * bytes ≤ 200001 * 64 := Nat.mul_le_mul (by omega) hby
    omega) (Nat.le_trans hbase hal.size)
  unfold Oper.wp execOp
  simp only [ho, resolve, invoke, builtin, Sem.run_bind, Sem.run_pure, Result.andThen_ok, List.map_toArray, List.map_cons, List.map_nil, hs, hx, hrun]
  have hbb : Below base wk w' := (hal.mono hbase).grown h3 (Nat.le_trans hbase hal.size) (fun k hk => (hown'.lt k hk).1)
  have h4 : OwnT w' base e v' (ts ++ [t]) := by
    unfold OwnT
    rw [List.length_append, List.flatMap_append, List.flatMap_cons, List.flatMap_nil, List.append_nil]
    exact h2
  obtain ⟨A, c, rfl⟩ := h4.form
  exact hK _ _ (h A c w' (Lib.hid h4) (Lib.hid hbb))

/-- What Lex returns. -/
def LexPost (l : List UInt8) (w : World) (r : Ending) (w' : World) : Prop :=
  match lex l with
  | .error p => r = .returned (.tuple #[.slice none 0 0, .int .i64 p.1, .int .i64 p.2]) ∧ Below w.heap.size w w'
  | .ok ts => ∃ A c, r = .returned (.tuple #[.slice A ts.length c, .int .i64 0, .int .i64 0]) ∧ OwnT w' w.heap.size 40 (.slice A ts.length c) ts ∧ Below w.heap.size w w'

theorem tokT : Tryd.prog.underlying 23 = some (.slice 40) := by kernel_rfl
theorem tokInfo : (Tryd.prog.info? 40).map (fun i => (i.zero, i.size, i.bytes)) = some (some (.agg #[.int .i64 0, .string ⟨#[]⟩, .int .i64 0, .int .i64 0]), 4, 40) := by kernel_rfl

theorem lex_long (l : List UInt8) (w : World) (h : 20000 < l.length) (hl : (l.length : Int) ≤ 9223372036854775807) :
    Calls Tryd.prog 11 #[.string (sv l)] w (LexPost l w) := by
  have HL : Hid (LexPost l w = fun r w' => r = .returned (.tuple #[.slice none 0 0, .int .i64 0, .int .i64 3]) ∧ Below w.heap.size w w') := Lib.hid (by
    funext r w'
    unfold LexPost
    rw [lex_eq, if_pos h]
    rfl)
  rw [HL.out]
  have hz := sv_size l
  have h : (20000 : Int) < l.length := by omega
  clear HL
  go_enter Tryd.func11, Tryd.ntmps11
  go_wp2
  exact bodyPost_ret (v := .tuple #[.slice none 0 0, .int .i64 0, .int .i64 3]) (by simp [results, Tryd.results11, go_sem]) rfl ⟨rfl, Below.refl _ _⟩

theorem app_error (ts : List Tok) (p : Nat × Nat) : app ts (.error p) = .error p := rfl

set_option maxRecDepth 100000 in
set_option maxHeartbeats 8000000 in
theorem lex_main (l : List UInt8) (w : World) (ht : Tab w) (hl : ¬ 20000 < l.length) :
    Calls Tryd.prog 11 #[.string (sv l)] w (LexPost l w) := by
  have hz := sv_size l
  have HT := Lib.hid ht
  have hlen : ((l.length : Nat) : Int) ≤ 20000 := by omega
  have hd0 : decide ((20000 : Int) < l.length) = false := decide_eq_false (by omega)
  have HPe : Hid (∀ p, lex l = .error p → LexPost l w = fun r w' => r = .returned (.tuple #[.slice none 0 0, .int .i64 p.1, .int .i64 p.2]) ∧ Below w.heap.size w w') := Lib.hid fun p hp => by
    funext r w'; unfold LexPost; rw [hp]
  have HPo : Hid (∀ ts, lex l = .ok ts → LexPost l w = fun r w' => ∃ A c, r = .returned (.tuple #[.slice A ts.length c, .int .i64 0, .int .i64 0]) ∧ OwnT w' w.heap.size 40 (.slice A ts.length c) ts ∧ Below w.heap.size w w') := Lib.hid fun p hp => by
    funext r w'; unfold LexPost; rw [hp]
  generalize hG : LexPost l w = G at *
  have HL : Hid (lex l = lexAt l 0 1 0) := Lib.hid (by rw [lex_eq, if_neg hl])
  clear ht hl hG
  go_enter Tryd.func11, Tryd.ntmps11
  go_wp2_with (fail)
  go_loopw [2, 3, 5] (fun s2 s3 s5 wr => ∃ (A : Option Addr) (c : Nat) (ts : List Tok) (pos line : Nat), s2 = .slice A ts.length c ∧ s3 = .int .i64 pos ∧ s5 = .int .i64 line ∧ ((pos : Nat) : Int) ≤ l.length ∧ (line : Int) ≤ pos + 1 ∧ ((ts.length : Nat) : Int) ≤ 4000 ∧
      Hid (OwnT wr w.heap.size 40 (.slice A ts.length c) ts) ∧ Hid (lex l = app ts (lexAt l pos line ts.length)) ∧ Hid (Below w.heap.size w wr)) (fun _ s3 _ _ => l.length - (intOf s3).toNat)
  case atStart => exact ⟨none, 0, [], 0, 1, rfl, rfl, rfl, by omega, by omega, by simp, Lib.hid ⟨rfl, Or.inl ⟨rfl, rfl⟩⟩, Lib.hid (by rw [app_nil]; exact HL.out), Lib.hid (Below.refl _ _)⟩
  case round =>
    obtain ⟨A, c, ts, pos, line, rfl, rfl, rfl, hpos, hline, hts, HO, HE, HB⟩ := hrel
    have hn := next_ge l pos (by omega)
    have HS := Lib.hid (skip_any l pos wr (by omega) (by omega))
    have HST := Lib.hid (lexAt_step l pos line ts.length (by omega))
    have HX : Hid ((sv l).extract pos (next l pos) = sv ((l.drop pos).take (next l pos - pos))) := Lib.hid (by rw [sv_extract, List.drop_take])
    have HX2 : Hid ((sv l).extract (next l pos) l.length = sv (l.drop (next l pos))) := Lib.hid (by rw [← hz, sv_from])
    have hcnt : ((l.drop pos).take (next l pos - pos)).count 10 ≤ next l pos - pos := Nat.le_trans List.count_le_length (by rw [List.length_take]; omega)
    have HC : Hid (∀ w1, Calls Tryd.prog 30 #[.string ((sv l).extract pos (next l pos)), .string ⟨#[10]⟩] w1 fun e w' => e = .returned (.int .i64 ((((l.drop pos).take (next l pos - pos)).count 10 : Nat) : Int)) ∧ w' = w1) := Lib.hid fun w1 => by
      rw [HX.out]; exact strings_Count_one _ 10 w1
    have HK : Hid (∀ w1, Tab w1 → Calls Tryd.prog 31 #[.string ((sv l).extract (next l pos) l.length)] w1 fun e w' => e = .returned (.tuple #[.int .i64 (tokn (l.drop (next l pos))).1, .string (sv (tokn (l.drop (next l pos))).2)]) ∧ Below w1.heap.size w1 w') := Lib.hid fun w1 h1 => by
      rw [HX2.out]; exact token_any _ w1 h1 (by rw [List.length_drop]; omega)
    have htl := tok_len (l.drop (next l pos))
    rw [List.length_drop] at htl
    have htz := sv_size (tokn (l.drop (next l pos))).2
    have htn := tok_ne (l.drop (next l pos))
    generalize ((l.drop pos).take (next l pos - pos)).count 10 = cn at *
    generalize next l pos = nx at *
    obtain ⟨hn1, hn2⟩ := hn
    have hn1' : ((pos : Nat) : Int) ≤ nx := by omega
    have hn2' : ((nx : Nat) : Int) ≤ l.length := by omega
    have hcnt' : ((cn : Nat) : Int) ≤ nx - pos := by omega
    by_cases hend : nx = l.length
    · have HEQ : Hid (lex l = .ok ts) := Lib.hid (by rw [HE.out, HST.out, if_pos hend]; simp [app])
      have HP := Lib.hid (HPo.out ts HEQ.out)
      rw [HP.out]
      subst hend
      clear HPe HPo HP HEQ HK htl htz htn HST HE HL hcnt hn1 hn2
      go_wp2_with (fail)
      refine HS.out.mono ?_
      rintro e w1 ⟨rfl, b1⟩
      have HB1 := Lib.hid (HB.out.trans (b1.mono HB.out.size))
      have HO1 : Hid (OwnT w1 w.heap.size 40 (.slice A ts.length c) ts) := Lib.hid (HO.out.below b1)
      clear b1
      go_wp2_with (fail)
      refine (HC.out _).mono ?_
      rintro e w2 ⟨rfl, rfl⟩
      go_wp2
      exact bodyPost_ret (v := .tuple #[.slice A ts.length c, .int .i64 0, .int .i64 0]) (by simp [results, Tryd.results11, go_sem]) rfl ⟨A, c, rfl, HO1.out, HB1.out⟩
    · have hne : (((nx : Nat) : Int) == l.length) = false := beq_eq_false_iff_ne.2 (by omega)
      rw [if_neg hend] at HST
      generalize (tokn (l.drop nx)).1 = kd at *
      generalize (tokn (l.drop nx)).2 = s at *
      by_cases hk0 : kd = 0
      · have HEQ : Hid (lex l = .error (nx, 6)) := Lib.hid (by rw [HE.out, HST.out, if_pos hk0]; rfl)
        have HP := Lib.hid (HPe.out _ HEQ.out)
        rw [HP.out]
        have hk1 : (((kd : Nat) : Int) == 0) = true := by rw [hk0]; rfl
        clear HPe HPo HP HEQ htl htz htn HST HE HL hcnt hn1 hn2 hk0
        go_wp2_with (fail)
        refine HS.out.mono ?_
        rintro e w1 ⟨rfl, b1⟩
        have HB1 := Lib.hid (HB.out.trans (b1.mono HB.out.size))
        clear b1
        go_wp2_with (fail)
        refine (HC.out _).mono ?_
        rintro e w2 ⟨rfl, rfl⟩
        go_wp2_with (fail)
        refine (HK.out _ (HT.out.below HB1.out)).mono ?_
        rintro e w3 ⟨rfl, b3⟩
        have HB3 := Lib.hid (HB1.out.trans (b3.mono HB1.out.size))
        clear b3
        go_wp2
        exact bodyPost_ret (v := .tuple #[.slice none 0 0, .int .i64 nx, .int .i64 6]) (by simp [results, Tryd.results11, go_sem]) rfl ⟨rfl, HB3.out⟩
      · rw [if_neg hk0] at HST
        have hk1 : (((kd : Nat) : Int) == 0) = false := beq_eq_false_iff_ne.2 (by omega)
        by_cases hfull : ts.length = 4000
        · have HEQ : Hid (lex l = .error (nx, 3)) := Lib.hid (by rw [HE.out, HST.out, if_pos hfull]; rfl)
          have HP := Lib.hid (HPe.out _ HEQ.out)
          rw [HP.out]
          have hf1 : (((ts.length : Nat) : Int) == 4000) = true := by rw [hfull]; rfl
          clear HPe HPo HP HEQ htl htz htn HST HE HL hcnt hn1 hn2 hk0 hfull
          go_wp2_with (fail)
          refine HS.out.mono ?_
          rintro e w1 ⟨rfl, b1⟩
          have HB1 := Lib.hid (HB.out.trans (b1.mono HB.out.size))
          clear b1
          go_wp2_with (fail)
          refine (HC.out _).mono ?_
          rintro e w2 ⟨rfl, rfl⟩
          go_wp2_with (fail)
          refine (HK.out _ (HT.out.below HB1.out)).mono ?_
          rintro e w3 ⟨rfl, b3⟩
          have HB3 := Lib.hid (HB1.out.trans (b3.mono HB1.out.size))
          clear b3
          go_wp2
          exact bodyPost_ret (v := .tuple #[.slice none 0 0, .int .i64 nx, .int .i64 3]) (by simp [results, Tryd.results11, go_sem]) rfl ⟨rfl, HB3.out⟩
        · have HE1 : Hid (lex l = app (ts ++ [⟨kd, s, line + cn, nx⟩]) (lexAt l (nx + s.length) (line + cn) (ts ++ [(⟨kd, s, line + cn, nx⟩ : Tok)]).length)) := Lib.hid (by
            rw [HE.out, HST.out, if_neg hfull, app_cons, List.length_append]; rfl)
          have hs0 : 0 < s.length := List.length_pos_iff.2 (htn hk0)
          have hf1 : (((ts.length : Nat) : Int) == 4000) = false := beq_eq_false_iff_ne.2 (by omega)
          have hts1 : ((ts.length : Nat) : Int) ≤ 3999 := by omega
          have hs0' : (0 : Int) < s.length := by omega
          have hs1' : (nx : Int) + s.length ≤ l.length := by omega
          clear HPe HPo htl htn HST HE HL hcnt hn1 hn2 hk0 hfull hs0
          go_wp2_with (fail)
          refine HS.out.mono ?_
          rintro e w1 ⟨rfl, b1⟩
          have HB1 := Lib.hid (HB.out.trans (b1.mono HB.out.size))
          have HO1 : Hid (OwnT w1 w.heap.size 40 (.slice A ts.length c) ts) := Lib.hid (HO.out.below b1)
          clear b1
          go_wp2_with (fail)
          refine (HC.out _).mono ?_
          rintro e w2 ⟨rfl, rfl⟩
          go_wp2_with (fail)
          refine (HK.out _ (HT.out.below HB1.out)).mono ?_
          rintro e w3 ⟨rfl, b3⟩
          have HB3 := Lib.hid (HB1.out.trans (b3.mono HB1.out.size))
          have HO3 : Hid (OwnT w3 w.heap.size 40 (.slice A ts.length c) ts) := Lib.hid (HO1.out.below b3)
          clear b3 HO HO1
          go_wp2_with (with_reducible refine stop_at (o := ⟨some 51, _, _, _, _, _⟩) ?_)
          unfold Stop
          refine app_tok 23 40 tokT _ 40 tokInfo rfl (by decide) rfl (.tmp 44) (.tmp 50) rfl w.heap.size w3 ⟨kd, s, line + cn, nx⟩ _ _ _ rfl (by show _ = ((line + cn : Nat) : Int); omega) rfl ts _ rfl rfl HO3 (by omega) HB3.out.size ?_
          intro A4 c4 w4 HO4 HB4
          have HB5 := Lib.hid (HB3.out.trans HB4.out)
          have hl4 : (((ts ++ [(⟨kd, s, line + cn, nx⟩ : Tok)]).length : Nat) : Int) ≤ 4000 := by rw [List.length_append]; simp; omega
          generalize ts ++ [(⟨kd, s, line + cn, nx⟩ : Tok)] = ts4 at *
          go_wp2
          go_roundw
          case rel => exact ⟨A4, c4, ts4, nx + s.length, line + cn, rfl, by go_num, by go_num, by omega, by omega, hl4, HO4, HE1, HB5⟩
          case measure => simp [intOf]; omega

/-- Lexing a text. -/
theorem lex_any (l : List UInt8) (w : World) (ht : Tab w) (hl : (l.length : Int) ≤ 9223372036854775807) : Calls Tryd.prog 11 #[.string (sv l)] w (LexPost l w) := by
  by_cases h : 20000 < l.length
  · exact lex_long l w h hl
  · exact lex_main l w ht h

end Go.Proofs.YtanhljpmknfabaaDoor.LexLex
