/- Lexing a text: the reference's walk. -/
import Derived.Test.YtanhljpmknfabaaDoorLexRNext2
import Derived.Test.YtanhljpmknfabaaDoorLexRSkip
import Derived.Test.YtanhljpmknfabaaDoorLexCover
namespace Go.Proofs.YtanhljpmknfabaaDoor.LexRLex
set_option linter.unusedVariables false
open Go.RowKit Go.Proofs.YtanhljpmknfabaaDoor.LexModel Go.Proofs.YtanhljpmknfabaaDoor.LexMath Go.Proofs.YtanhljpmknfabaaDoor.LexSkip Go.Proofs.YtanhljpmknfabaaDoor.LexTok Go.Proofs.YtanhljpmknfabaaDoor.LexLex Go.Proofs.YtanhljpmknfabaaDoor.LexAwake Go.Proofs.YtanhljpmknfabaaDoor.LexRNext

theorem span_no (p : UInt8 → Bool) (h10 : p 10 = false) : ∀ l : List UInt8, (l.takeWhile p).count 10 = 0
  | [] => rfl
  | c :: r => by
    rw [List.takeWhile_cons]
    split
    · rename_i hc
      rw [List.count_cons, span_no p h10 r]
      have : (c == 10) = false := by
        rw [beq_eq_false_iff_ne]; intro e; subst e; rw [hc] at h10; cases h10
      rw [this]
      rfl
    · rfl

/-- No token holds a line feed. -/
theorem tok_no (l : List UInt8) (h : (tokn l).1 ≠ 0) : (tokn l).2.count 10 = 0 := by
  cases l with
  | nil => exact absurd rfl h
  | cons c r =>
    cases hc : letters.contains c with
    | true => rw [(tok_letter hc h).2]; exact span_no alnum (by decide) _
    | false =>
      cases hd : digits.contains c with
      | true => rw [(tok_digit hc hd h).2]; exact span_no (digits.contains ·) (by decide) _
      | false =>
        have hm := List.mem_of_find?_eq_some (tok_symbol hc hd h).2
        have : symbols.all (fun s => s.count 10 == 0) = true := by decide
        have := List.all_eq_true.1 this _ hm
        exact eq_of_beq this

theorem count_split (l : List UInt8) (a b c : Nat) (h1 : a ≤ b) (h2 : b ≤ c) : ((l.drop a).take (c - a)).count 10 = ((l.drop a).take (b - a)).count 10 + ((l.drop b).take (c - b)).count 10 := by
  have e : (l.drop a).take (c - a) = (l.drop a).take (b - a) ++ (l.drop b).take (c - b) := by
    have h3 : c - a = (b - a) + (c - b) := by omega
    rw [h3, List.take_add, List.drop_drop]
    congr 3
    omega
  rw [e, List.count_append]

theorem tokn_take (l : List UInt8) (nx : Nat) : (l.drop nx).take (tokn (l.drop nx)).2.length = (tokn (l.drop nx)).2 := by
  obtain ⟨r, hr⟩ := tok_prefix (l.drop nx)
  generalize tokn (l.drop nx) = T at *
  rw [hr, List.take_left]

/-- Appending one token, in a block of its own. -/
theorem app_tok2 {ops : Array Oper} {rest : List Oper} {o : Oper} {a : Act} {Q : Exit → Act → World → Prop} (T e : TypeId) (hT : Tryd.prog.underlying T = some (.slice e)) (z : Value) (bytes : Nat) (hinfo : (Tryd.prog.info? e).map (fun i => (i.zero, i.size, i.bytes)) = some (some z, 4, bytes)) (hzs : z.cells.size = 4) (hby : bytes ≤ 64)
    (hgd : o.guard = none) (s x : Operand) (ho : o.op = .call { callee := .builtin .append, args := #[s, x], argTypes := #[T, T] })
    (base : Nat) (wk : World) (t : Tok) (kv lv pv : Int) (hkv : kv = t.kind) (hlv : lv = t.line) (hpv : pv = t.pos) (ts : List Tok) (v : Value) (hs : a.eval s = v) (hx : a.eval x = .slice (some ⟨wk.heap.size, 0, none⟩) 1 1) (hown : Hid (OwnT wk base e v ts)) (hlen : ((ts.length : Nat) : Int) ≤ 200000) (hbase : base ≤ wk.heap.size)
    (h : ∀ A c w', Hid (OwnT w' base e (.slice A (ts ++ [t]).length c) (ts ++ [t])) → Hid (Below base wk w') → Hid (∀ k, k < wk.heap.size → v.ownBlock ≠ some k → w'.heap[k]? = wk.heap[k]?) → wpList Tryd.prog ops Q rest (a.put o.dst (.slice A (ts ++ [t]).length c)) w') : wpList Tryd.prog ops Q (o :: rest) a (wk.alloc (.cells #[.int .i64 kv, .string (sv t.text), .int .i64 lv, .int .i64 pv] e)) := by
  subst hkv hlv hpv
  obtain ⟨i0, hi, hz0, hz1, hz2⟩ := info_parts hinfo
  have hal : Below wk.heap.size wk (wk.alloc (.cells #[.int .i64 t.kind, .string (sv t.text), .int .i64 t.line, .int .i64 t.pos] e)) := (Below.refl _ _).alloc (Nat.le_refl _) _
  have hown' : (wk.alloc (.cells #[.int .i64 t.kind, .string (sv t.text), .int .i64 t.line, .int .i64 t.pos] e)).ownsRow base e 4 v ts.length (ts.flatMap cellsT) := World.ownsRow.alloc hown.out _
  have hcell : ∀ j u, (cellsT t)[j]? = some u → (wk.alloc (.cells #[.int .i64 t.kind, .string (sv t.text), .int .i64 t.line, .int .i64 t.pos] e)).cell? ((⟨wk.heap.size, 0, none⟩ : Addr).add j) = some u := fun j u hj => by
    rw [add_plain, Nat.zero_add]
    have : (wk.alloc (.cells #[.int .i64 t.kind, .string (sv t.text), .int .i64 t.line, .int .i64 t.pos] e)).heap[wk.heap.size]? = some (.cells #[.int .i64 t.kind, .string (sv t.text), .int .i64 t.line, .int .i64 t.pos] e) := by
      show (wk.heap.push _)[wk.heap.size]? = _
      simp
    rw [cell_of_row _ _ j _ _ _ this]
    match j, hj with
    | 0, hj => exact hj
    | 1, hj => exact hj
    | 2, hj => exact hj
    | 3, hj => exact hj
    | n + 4, hj => simp [cellsT] at hj
  refine wpList_plain hgd fun K hK => ?_
  obtain ⟨v', w', hrun, h2, h3, _⟩ := run_append_own_at (P := Tryd.prog) (wk.alloc (.cells #[.int .i64 t.kind, .string (sv t.text), .int .i64 t.line, .int .i64 t.pos] e)) base T o.type e i0 z 4 bytes hT hi hz0 hz1 hz2 hzs (by omega) v ts.length (ts.flatMap cellsT) hown' ⟨wk.heap.size, 0, none⟩ 1 1 (cellsT t) rfl hcell (fun u hu => by
    simp only [cellsT, List.mem_cons, List.not_mem_nil, or_false] at hu
    rcases hu with rfl | rfl | rfl | rfl <;> rfl) (by unfold maxLen; omega) (by
    have : (ts.length + 1) * bytes ≤ 200001 * 64 := Nat.mul_le_mul (by omega) hby
    omega) (Nat.le_trans hbase hal.size)
  unfold Oper.wp execOp
  simp only [ho, resolve, invoke, builtin, Sem.run_bind, Sem.run_pure, Result.andThen_ok, List.map_toArray, List.map_cons, List.map_nil, hs, hx, hrun]
  have hbb : Below base wk w' := (hal.mono hbase).grown h3 (Nat.le_trans hbase hal.size) (fun k hk => (hown'.lt k hk).1)
  have h4 : OwnT w' base e v' (ts ++ [t]) := by
    unfold OwnT
    rw [List.length_append, List.flatMap_append, List.flatMap_cons, List.flatMap_nil, List.append_nil]
    exact h2
  obtain ⟨A, c, rfl⟩ := h4.form
  exact hK _ _ (h A c w' (Lib.hid h4) (Lib.hid hbb) (Lib.hid fun k hk hne => (h3.block k (Nat.lt_of_lt_of_le hk hal.size) (fun e => hne e.symm)).trans (hal.block k hk)))

/-- What the reference's Lex returns. -/
def RefPost (l : List UInt8) (w : World) (r : Ending) (w' : World) : Prop :=
  match lex l with
  | .error p => r = .returned (.tuple #[.slice none 0 0, .int .i64 p.1, .int .i64 p.2]) ∧ Below w.heap.size w w'
  | .ok ts => ∃ A c, r = .returned (.tuple #[.slice A ts.length c, .int .i64 0, .int .i64 0]) ∧ OwnT w' w.heap.size 38 (.slice A ts.length c) ts ∧ Below w.heap.size w w'

theorem tokTR : Tryd.prog.underlying 27 = some (.slice 38) := by kernel_rfl
theorem tokInfoR : (Tryd.prog.info? 38).map (fun i => (i.zero, i.size, i.bytes)) = some (some (.agg #[.int .i64 0, .string ⟨#[]⟩, .int .i64 0, .int .i64 0]), 4, 40) := by kernel_rfl

set_option maxRecDepth 100000 in
set_option maxHeartbeats 8000000 in
theorem refLex_main (l : List UInt8) (w : World) (hl : ¬ 20000 < l.length) :
    Calls Tryd.prog 12 #[.string (sv l)] w (RefPost l w) := by
  have hz := sv_size l
  have hlen : ((l.length : Nat) : Int) ≤ 20000 := by omega
  have hd0 : decide ((20000 : Int) < l.length) = false := decide_eq_false (by omega)
  have HPe : Hid (∀ p, lex l = .error p → RefPost l w = fun r w' => r = .returned (.tuple #[.slice none 0 0, .int .i64 p.1, .int .i64 p.2]) ∧ Below w.heap.size w w') := Lib.hid fun p hp => by
    funext r w'; unfold RefPost; rw [hp]
  have HPo : Hid (∀ ts, lex l = .ok ts → RefPost l w = fun r w' => ∃ A c, r = .returned (.tuple #[.slice A ts.length c, .int .i64 0, .int .i64 0]) ∧ OwnT w' w.heap.size 38 (.slice A ts.length c) ts ∧ Below w.heap.size w w') := Lib.hid fun p hp => by
    funext r w'; unfold RefPost; rw [hp]
  generalize hG : RefPost l w = G at *
  have HL : Hid (lex l = lexAt l 0 1 0) := Lib.hid (by rw [lex_eq, if_neg hl])
  have HS0 := Lib.hid (LexRSkip.refSkip_any l 0 w (by omega) (Nat.zero_le _))
  have hn0 := next_ge l 0 (Nat.zero_le _)
  clear hl hG
  go_enter Tryd.func12, Tryd.ntmps12
  go_wp2_with (fail)
  refine HS0.out.mono ?_
  rintro e w1 ⟨rfl, rfl⟩
  go_wp2_with (fail)
  go_loopw [5, 6, 7, 8] (fun s5 s6 s7 s8 wr => ∃ (A : Option Addr) (c : Nat) (ts : List Tok) (pos line fr nx : Nat), s5 = .slice A ts.length c ∧ s6 = .int .i64 line ∧ s7 = .int .i64 fr ∧ s8 = .int .i64 nx ∧ Hid (nx = next l pos) ∧ (pos : Int) ≤ nx ∧ (nx : Int) ≤ l.length ∧ (fr : Int) ≤ pos ∧ (line : Int) ≤ fr + 1 ∧ ((ts.length : Nat) : Int) ≤ 4000 ∧
      Hid (((l.drop fr).take (pos - fr)).count 10 = 0) ∧ Hid (OwnT wr w.heap.size 38 (.slice A ts.length c) ts) ∧ Hid (lex l = app ts (lexAt l pos line ts.length)) ∧ Hid (Below w.heap.size w wr)) (fun _ _ _ s8 _ => l.length - (intOf s8).toNat)
  case atStart => exact ⟨none, 0, [], 0, 1, 0, next l 0, rfl, rfl, rfl, rfl, Lib.hid rfl, by omega, by omega, by omega, by omega, by simp, Lib.hid (by simp), Lib.hid ⟨rfl, Or.inl ⟨rfl, rfl⟩⟩, Lib.hid (by rw [app_nil]; exact HL.out), Lib.hid (Below.refl _ _)⟩
  case round =>
    obtain ⟨A, c, ts, pos, line, fr, nx, rfl, rfl, rfl, rfl, HNX, hp1, hp2, hfr, hline, hts, HF, HO, HE, HB⟩ := hrel
    clear hn0 HS0
    have HST := Lib.hid (lexAt_step l pos line ts.length (by omega))
    rw [← HNX.out] at HST
    by_cases hend : nx = l.length
    · have HEQ : Hid (lex l = .ok ts) := Lib.hid (by rw [HE.out, HST.out, if_pos hend]; simp [app])
      have HP := Lib.hid (HPo.out ts HEQ.out)
      subst hend
      clear HPe HPo HEQ HST HE HL HNX HF
      go_wp2
      rw [HP.out]
      exact ⟨A, c, rfl, HO.out, HB.out⟩
    · have hlt : (nx : Int) < l.length := by omega
      rw [if_neg hend] at HST
      have HX2 : Hid ((sv l).extract nx l.length = sv (l.drop nx)) := Lib.hid (by rw [← hz, sv_from])
      have HK : Hid (∀ w1, Calls Tryd.prog 33 #[.string ((sv l).extract nx l.length)] w1 fun e w' => e = .returned (tokV (tokn (l.drop nx)).1 (tokn (l.drop nx)).2) ∧ Below w1.heap.size w1 w') := Lib.hid fun w1 => by
        rw [HX2.out]; exact LexRNext2.next_any _ w1 (by rw [List.length_drop]; omega) (by rw [Ne, List.drop_eq_nil_iff]; omega)
      unfold tokV at HK
      have htl := tok_len (l.drop nx)
      rw [List.length_drop] at htl
      have htz := sv_size (tokn (l.drop nx)).2
      have htn := tok_ne (l.drop nx)
      have hno := tok_no (l.drop nx)
      have HPRE := Lib.hid (tokn_take l nx)
      generalize (tokn (l.drop nx)).1 = kd at *
      generalize (tokn (l.drop nx)).2 = s at *
      by_cases hk0 : kd = 0
      · have HEQ : Hid (lex l = .error (nx, 6)) := Lib.hid (by rw [HE.out, HST.out, if_pos hk0]; rfl)
        have HP := Lib.hid (HPe.out _ HEQ.out)
        rw [HP.out]
        have hk1 : (((kd : Nat) : Int) == 0) = true := by rw [hk0]; rfl
        clear HPe HPo HP HEQ htl htz htn hno HPRE HST HE HL hk0 HNX HF
        go_wp2_with (fail)
        refine (HK.out _).mono ?_
        rintro e w3 ⟨rfl, b3⟩
        have HB3 := Lib.hid (HB.out.trans (b3.mono HB.out.size))
        clear b3
        go_wp2
        exact bodyPost_ret (v := .tuple #[.slice none 0 0, .int .i64 nx, .int .i64 6]) (by simp [results, Tryd.results12, go_sem]) rfl ⟨rfl, bt HB3.out (by go_grown)⟩
      · rw [if_neg hk0] at HST
        have hk1 : (((kd : Nat) : Int) == 0) = false := beq_eq_false_iff_ne.2 (by omega)
        by_cases hfull : ts.length = 4000
        · have HEQ : Hid (lex l = .error (nx, 3)) := Lib.hid (by rw [HE.out, HST.out, if_pos hfull]; rfl)
          have HP := Lib.hid (HPe.out _ HEQ.out)
          rw [HP.out]
          have hf1 : (((ts.length : Nat) : Int) == 4000) = true := by rw [hfull]; rfl
          clear HPe HPo HP HEQ htl htz htn hno HPRE HST HE HL hk0 hfull HNX HF
          go_wp2_with (fail)
          refine (HK.out _).mono ?_
          rintro e w3 ⟨rfl, b3⟩
          have HB3 := Lib.hid (HB.out.trans (b3.mono HB.out.size))
          clear b3
          go_wp2
          exact bodyPost_ret (v := .tuple #[.slice none 0 0, .int .i64 nx, .int .i64 3]) (by simp [results, Tryd.results12, go_sem]) rfl ⟨rfl, bt HB3.out (by go_grown)⟩
        · have hf1 : (((ts.length : Nat) : Int) == 4000) = false := beq_eq_false_iff_ne.2 (by omega)
          have hts1 : ((ts.length : Nat) : Int) ≤ 3999 := by omega
          have hs0' : (0 : Int) < s.length := by have := List.length_pos_iff.2 (htn hk0); omega
          have hs1' : (nx : Int) + s.length ≤ l.length := by omega
          rw [if_neg hfull] at HST
          have HST := Lib.hid HST.out
          have HNO := Lib.hid (hno hk0)
          clear HPe HPo htl htn hno HL hk0 hfull
          go_wp2_with (fail)
          refine (HK.out _).mono ?_
          rintro e w3 ⟨rfl, b3⟩
          have HB3 := Lib.hid (HB.out.trans (b3.mono HB.out.size))
          have HO3 : Hid (OwnT w3 w.heap.size 38 (.slice A ts.length c) ts) := Lib.hid (HO.out.below b3)
          clear b3 HO HK
          go_wp2_with (fail)
          generalize hW : w3.alloc (.cells #[.int .i64 kd, .string (sv s), .int .i64 0, .int .i64 0] 38) = W4
          go_loop [6, 7] (fun s6 s7 => ∃ j m : Nat, (fr : Int) ≤ j ∧ (j : Int) ≤ nx ∧ s7 = .int .i64 j ∧ s6 = .int .i64 m ∧ ((m : Nat) : Int) ≤ j + 1 ∧ Hid (m = line + ((l.drop fr).take (j - fr)).count 10)) (fun _ s7 => nx - (intOf s7).toNat)
          case atStart => exact ⟨fr, line, by omega, by omega, rfl, rfl, hline, Lib.hid (by simp)⟩
          case round =>
            obtain ⟨j, m, hj1, hj2, rfl, rfl, hm, HM⟩ := hrel
            by_cases hjt : j < nx
            · have hjt' : (j : Int) < nx := by omega
              have hjl : j < l.length := by omega
              obtain ⟨hbz, hcb⟩ := LexBlank.byte_at l j hjl
              cases h10 : (l[j] == 10)
              · have t1 : (((l[j].toNat : Nat) : Int) == 10) = false := (LexBlank.u8_test l[j] 10).trans h10
                have HM1 : Hid (m = line + ((l.drop fr).take (j + 1 - fr)).count 10) := Lib.hid (HM.out.trans (congrArg (line + ·) (LexCover.count_no l fr j (by omega) hjl h10).symm))
                generalize l[j] = cj at *
                clear h10 HM
                go_wp2
                go_round
                case rel => exact ⟨j + 1, m, by omega, by omega, by go_num, rfl, by omega, HM1⟩
                case measure => simp [intOf]; omega
              · have t1 : (((l[j].toNat : Nat) : Int) == 10) = true := (LexBlank.u8_test l[j] 10).trans h10
                have HM1 : Hid (m + 1 = line + ((l.drop fr).take (j + 1 - fr)).count 10) := Lib.hid ((congrArg (· + 1) HM.out).trans (congrArg (line + ·) (LexCover.count_yes l fr j (by omega) hjl h10).symm))
                generalize l[j] = cj at *
                clear h10 HM
                go_wp2
                go_round
                case rel => exact ⟨j + 1, m + 1, by omega, by omega, by go_num, by go_num, by omega, HM1⟩
                case measure => simp [intOf]; omega
            · obtain rfl : j = nx := by omega
              have HMC : Hid (m = line + ((l.drop pos).take (j - pos)).count 10) := Lib.hid (by
                rw [HM.out, count_split l fr pos j (by omega) (by omega), HF.out, Nat.zero_add])
              have HE1 : Hid (lex l = app (ts ++ [⟨kd, s, m, j⟩]) (lexAt l (j + s.length) m (ts ++ [(⟨kd, s, m, j⟩ : Tok)]).length)) := Lib.hid (by
                rw [HE.out, HST.out, app_cons, List.length_append, HMC.out]; rfl)
              have HS2 := Lib.hid (fun w1 => LexRSkip.refSkip_any l (j + s.length) w1 (by omega) (by omega))
              have hn2 := next_ge l (j + s.length) (by omega)
              have HF2 : Hid (((l.drop j).take (j + s.length - j)).count 10 = 0) := Lib.hid (by rw [Nat.add_sub_cancel_left, HPRE.out, HNO.out])
              clear HM HMC HE HST HF HPRE HNO HNX
              subst hW
              go_wp2_with (with_reducible refine stop_at (o := ⟨some 52, _, _, _, _, _⟩) ?_)
              unfold Stop
              have hown := fun k hk => (HO3.out.lt k hk).2
              have hnew : (w3.alloc (.cells #[.int .i64 kd, .string (sv s), .int .i64 m, .int .i64 j] 38)).heap[w3.heap.size]? = some (.cells #[.int .i64 kd, .string (sv s), .int .i64 m, .int .i64 j] 38) := by
                show (w3.heap.push _)[w3.heap.size]? = _
                simp
              have hsz : (w3.alloc (.cells #[.int .i64 kd, .string (sv s), .int .i64 m, .int .i64 j] 38)).heap.size = w3.heap.size + 1 := by simp
              have hal : Below w3.heap.size w3 (w3.alloc (.cells #[.int .i64 kd, .string (sv s), .int .i64 m, .int .i64 j] 38)) := (Below.refl _ _).alloc (Nat.le_refl _) _
              have HO5 := Lib.hid (HO3.out.below hal)
              have HB5 := Lib.hid (HB3.out.trans (hal.mono HB3.out.size))
              refine app_tok2 27 38 tokTR _ 40 tokInfoR rfl (by decide) rfl (.tmp 49) (.tmp 51) rfl w.heap.size _ ⟨kd, s, m, j⟩ _ _ _ rfl rfl rfl ts _ rfl (by rw [hsz]; rfl) HO5 (by omega) HB5.out.size ?_
              intro A4 c4 w4 HO4 HB4 HC4
              have hcell : w4.cell? ⟨w3.heap.size, 1, none⟩ = some (.string (sv s)) := by
                have hb := HC4.out w3.heap.size (Array.getElem?_eq_some_iff.1 hnew).1 (fun e => Nat.lt_irrefl _ (hown _ e))
                rw [hnew] at hb
                rw [cell_of_row _ _ 1 _ _ _ hb]
                rfl
              have HB6 := Lib.hid (HB5.out.trans HB4.out)
              have hl4 : (((ts ++ [(⟨kd, s, m, j⟩ : Tok)]).length : Nat) : Int) ≤ 4000 := by rw [List.length_append]; simp; omega
              clear hown hnew hal hsz HO5 HB5 HB4 HC4 HO3 HB3
              generalize ts ++ [(⟨kd, s, m, j⟩ : Tok)] = ts4 at *
              have HS3 : Hid (∀ w1, Calls Tryd.prog 32 #[.string (sv l), .int .i64 ((j : Int) + s.length)] w1 fun e w' => e = .returned (.int .i64 (next l (j + s.length))) ∧ w1 = w') := Lib.hid fun w1 => HS2.out w1
              go_wp2_with (fail)
              refine (HS3.out _).mono ?_
              rintro e w5 ⟨rfl, rfl⟩
              go_wp2
              go_roundw
              case rel => exact ⟨A4, c4, ts4, j + s.length, m, j, next l (j + s.length), rfl, rfl, rfl, rfl, Lib.hid rfl, by omega, by omega, by omega, by omega, hl4, HF2, HO4, HE1, HB6⟩
              case measure => simp [intOf]; omega

end Go.Proofs.YtanhljpmknfabaaDoor.LexRLex
