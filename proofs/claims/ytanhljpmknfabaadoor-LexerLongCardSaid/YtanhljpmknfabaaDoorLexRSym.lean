/- Symbols: the reference's walk. -/
import Derived.Test.YtanhljpmknfabaaDoorLexRSkip
namespace Go.Proofs.YtanhljpmknfabaaDoor.LexRSym
set_option linter.unusedVariables false
open Go.RowKit Go.Proofs.YtanhljpmknfabaaDoor.LexModel Go.Proofs.YtanhljpmknfabaaDoor.LexMath Go.Proofs.YtanhljpmknfabaaDoor.LexSkip Go.Proofs.YtanhljpmknfabaaDoor.LexTok Go.Proofs.YtanhljpmknfabaaDoor.LexLex Go.Proofs.YtanhljpmknfabaaDoor.LexAwake Go.Proofs.YtanhljpmknfabaaDoor.LexRef1 Go.Proofs.YtanhljpmknfabaaDoor.LexRef2

def symR (l : List UInt8) : List UInt8 := (symbols.find? (Lib.hasPrefix l)).getD []

theorem prefix_long (l s : List UInt8) (h : ¬ s.length ≤ l.length) : Lib.hasPrefix l s = false := by
  unfold Lib.hasPrefix
  cases hh : s.isPrefixOf l with
  | false => rfl
  | true => exact absurd (List.isPrefixOf_iff_prefix.1 hh).length_le h
theorem prefix_take (l s : List UInt8) (h : s.length ≤ l.length) : (l.take s.length == s) = Lib.hasPrefix l s := by
  unfold Lib.hasPrefix
  rw [Bool.eq_iff_iff, beq_iff_eq, List.isPrefixOf_iff_prefix]
  constructor
  · intro e
    have := List.take_prefix s.length l
    rwa [e] at this
  · rintro ⟨r, rfl⟩; rw [List.take_left]

theorem syms_eq : (#[Value.string ⟨#[46, 46]⟩, Value.string ⟨#[61, 61]⟩, Value.string ⟨#[33, 61]⟩, Value.string ⟨#[60, 61]⟩, Value.string ⟨#[62, 61]⟩, Value.string ⟨#[45, 62]⟩, Value.string ⟨#[38, 38]⟩, Value.string ⟨#[124, 124]⟩, Value.string ⟨#[40]⟩, Value.string ⟨#[41]⟩, Value.string ⟨#[91]⟩, Value.string ⟨#[93]⟩, Value.string ⟨#[123]⟩, Value.string ⟨#[125]⟩, Value.string ⟨#[44]⟩, Value.string ⟨#[58]⟩, Value.string ⟨#[46]⟩, Value.string ⟨#[64]⟩, Value.string ⟨#[35]⟩, Value.string ⟨#[61]⟩, Value.string ⟨#[60]⟩, Value.string ⟨#[62]⟩, Value.string ⟨#[43]⟩, Value.string ⟨#[45]⟩, Value.string ⟨#[42]⟩, Value.string ⟨#[47]⟩, Value.string ⟨#[37]⟩, Value.string ⟨#[33]⟩] : Array Value) = strs symbols := rfl

set_option maxRecDepth 100000 in
set_option maxHeartbeats 8000000 in
theorem refSymbol_any (l : List UInt8) (w : World) (hl : (l.length : Int) ≤ 1000000) :
    Calls Tryd.prog 49 #[.string (sv l)] w fun e w' => e = .returned (.string (sv (symR l))) ∧ Below w.heap.size w w' := by
  have hz := sv_size l
  generalize hX : symR l = X
  have HN : Hid ((∀ k (hk : k < 28), Lib.hasPrefix l (symbols[k]'hk) = false) → X = []) := Lib.hid fun h => by
    rw [← hX]; unfold symR; rw [find_none_step (l := symbols) (p := Lib.hasPrefix l) fun i hi => h i hi]; rfl
  have HS : Hid (∀ k (hk : k < 28), (∀ i (hi : i < k), Lib.hasPrefix l (symbols[i]'(Nat.lt_trans hi hk)) = false) → Lib.hasPrefix l (symbols[k]'hk) = true → X = symbols[k]'hk) := Lib.hid fun k hk h1 h2 => by
    rw [← hX]; unfold symR; rw [find_some_step (l := symbols) (p := Lib.hasPrefix l) hk (fun i _ hik => h1 i hik) h2]; rfl
  clear hX
  go_enter Tryd.func49, Tryd.ntmps49
  go_wp2_with (fail)
  rw [syms_eq]
  have HV : Hid (∀ k (hk : k < 28), (w.alloc (.cells (strs symbols) 9)).cell? ⟨w.heap.size, k, none⟩ = some (.string (sv (symbols[k]'hk)))) := Lib.hid fun k hk => by
    have hh : (w.alloc (.cells (strs symbols) 9)).heap[w.heap.size]? = some (.cells (strs symbols) 9) := by
      show (w.heap.push _)[w.heap.size]? = _
      simp
    rw [cell_of_row _ _ k _ _ _ hh, strs_get symbols k hk]
  have HB : Hid (Below w.heap.size w (w.alloc (.cells (strs symbols) 9))) := Lib.hid ((Below.refl _ _).alloc (Nat.le_refl _) _)
  generalize w.alloc (.cells (strs symbols) 9) = W1 at *
  go_loopw [4] (fun s4 wr => ∃ k : Nat, k ≤ 28 ∧ s4 = .int .i64 k ∧ Hid (∀ i (hi : i < 28), i < k → Lib.hasPrefix l (symbols[i]'hi) = false) ∧ Hid (Below W1.heap.size W1 wr)) (fun s4 _ => 28 - (intOf s4).toNat)
  case atStart => exact ⟨0, Nat.zero_le _, rfl, Lib.hid fun i _ h => absurd h (Nat.not_lt_zero _), Lib.hid (Below.refl _ _)⟩
  case round =>
    obtain ⟨k, hk, rfl, HK, HBr⟩ := hrel
    by_cases hlt : k < 28
    · have hlt' : (k : Int) < 28 := by omega
      have hcl := cell_lt' (HV.out k hlt)
      have hcell : wr.cell? ⟨w.heap.size, k, none⟩ = some (.string (sv (symbols[k]'hlt))) := (HBr.out.cell (p := ⟨w.heap.size, k, none⟩) hcl).trans (HV.out k hlt)
      have hzs := sv_size (symbols[k]'hlt)
      have HSk := Lib.hid (HS.out k hlt (fun i hi => HK.out i (by omega) hi))
      have HK1 : Lib.hasPrefix l (symbols[k]'hlt) = false → ∀ i (hi : i < 28), i < k + 1 → Lib.hasPrefix l (symbols[i]'hi) = false := fun hp i hi hik => by
        by_cases h : i < k
        · exact HK.out i hi h
        · obtain rfl : i = k := by omega
          exact hp
      have HBW := Lib.hid (HB.out.trans (HBr.out.mono HB.out.size))
      have hlong := prefix_long l (symbols[k]'hlt)
      have htake := prefix_take l (symbols[k]'hlt)
      by_cases hle : (symbols[k]'hlt).length ≤ l.length
      · have hle' : ((symbols[k]'hlt).length : Int) ≤ l.length := by omega
        have hx : ((sv (l.take (symbols[k]'hlt).length)).toList == (sv (symbols[k]'hlt)).toList) = Lib.hasPrefix l (symbols[k]'hlt) := (sv_beq _ _).trans (htake hle)
        have e1 : (sv l).extract 0 (symbols[k]'hlt).length = sv (l.take (symbols[k]'hlt).length) := sv_to l _
        have HK1 := Lib.hid HK1
        generalize Lib.hasPrefix l (symbols[k]'hlt) = hp at *
        generalize symbols[k]'hlt = s at *
        clear hlong htake hle HK
        cases hp
        · have HK2 := Lib.hid (HK1.out rfl)
          clear HSk HK1
          go_wp2_with (fail)
          go_quiet (fail)
          go_wp2
          go_roundw
          case rel => exact ⟨k + 1, by omega, by go_num, HK2, Lib.hid (below_drewN HBr.out _)⟩
          case measure => simp [intOf]; omega
        · have HR := Lib.hid (HSk.out rfl)
          clear HSk HK1
          go_wp2_with (fail)
          go_quiet (fail)
          go_wp2
          go_ret
          exact ⟨by rw [HR.out]; rfl, below_drewN HBW.out _⟩
      · have hle' : decide (((symbols[k]'hlt).length : Int) ≤ l.length) = false := decide_eq_false (by omega)
        have hle2 : decide ((symbols[k]'hlt).length ≤ l.length) = false := decide_eq_false hle
        have HK2 := Lib.hid (HK1 (hlong hle))
        generalize symbols[k]'hlt = s at *
        clear hlong htake hle HK HSk HK1
        go_wp2_with (fail)
        go_quiet (fail)
        go_wp2
        go_roundw
        case rel => exact ⟨k + 1, by omega, by go_num, HK2, Lib.hid (below_drewN HBr.out _)⟩
        case measure => simp [intOf]; omega
    · obtain rfl : k = 28 := by omega
      have HR := Lib.hid (HN.out fun i hi => HK.out i hi hi)
      have HBW := Lib.hid (HB.out.trans (HBr.out.mono HB.out.size))
      go_wp2
      go_ret
      exact ⟨by rw [HR.out]; rfl, HBW.out⟩

end Go.Proofs.YtanhljpmknfabaaDoor.LexRSym
