/- Single tokens that are symbols, and all: the reference's walk. -/
import Derived.Test.YtanhljpmknfabaaDoorLexRNext
namespace Go.Proofs.YtanhljpmknfabaaDoor.LexRNext2
set_option linter.unusedVariables false
open Go.RowKit Go.Proofs.YtanhljpmknfabaaDoor.LexModel Go.Proofs.YtanhljpmknfabaaDoor.LexMath Go.Proofs.YtanhljpmknfabaaDoor.LexSkip Go.Proofs.YtanhljpmknfabaaDoor.LexTok Go.Proofs.YtanhljpmknfabaaDoor.LexLex Go.Proofs.YtanhljpmknfabaaDoor.LexAwake Go.Proofs.YtanhljpmknfabaaDoor.LexRef1 Go.Proofs.YtanhljpmknfabaaDoor.LexRef2 Go.Proofs.YtanhljpmknfabaaDoor.LexVal Go.Proofs.YtanhljpmknfabaaDoor.LexRSym Go.Proofs.YtanhljpmknfabaaDoor.LexRNext

set_option maxRecDepth 100000 in
set_option maxHeartbeats 8000000 in
theorem next_symbol (l : List UInt8) (c : UInt8) (w : World) (hl : (l.length : Int) ≤ 1000000) (h0 : l.head? = some c) (hlc : letters.contains c = false) (hc : digits.contains c = false) :
    Calls Tryd.prog 33 #[.string (sv l)] w fun e w' => e = .returned (tokV (tokn l).1 (tokn l).2) ∧ Below w.heap.size w w' := by
  obtain ⟨he, hz0, hb⟩ := head_facts l c h0
  have hq := tok_s l c h0 hlc hc
  have HC := Lib.hid (fun w1 => small_any c w1)
  have HCd := Lib.hid (fun w1 => digit_any c w1)
  have HSy := Lib.hid (fun w1 => refSymbol_any l w1 hl)
  rw [hlc] at HC
  rw [hc] at HCd
  unfold symR at HSy
  have hne : ∀ s, symbols.find? (Lib.hasPrefix l) = some s → (sv s).toList.isEmpty = false := fun s hs => by
    have := symbols_ne s (List.mem_of_find?_eq_some hs)
    rw [ByteArray.toList_eq]
    cases s with
    | nil => exact absurd rfl this
    | cons a r => rfl
  generalize symbols.find? (Lib.hasPrefix l) = F at *
  generalize tokn l = T at *
  clear h0 hlc hc
  cases F with
  | none =>
    have hq : T = (0, []) := hq
    subst hq
    have HSy : Hid (∀ w1, Calls Tryd.prog 49 #[.string (sv l)] w1 fun e w' => e = .returned (.string ⟨#[]⟩) ∧ Below w1.heap.size w1 w') := HSy
    clear hne
    go_enter Tryd.func33, Tryd.ntmps33
    go_wp2_with (fail)
    refine (HC.out _).mono ?_
    rintro e w1 ⟨rfl, rfl⟩
    go_wp2_with (fail)
    refine (HCd.out _).mono ?_
    rintro e w1 ⟨rfl, rfl⟩
    go_wp2_with (fail)
    refine (HSy.out _).mono ?_
    rintro e w3 ⟨rfl, b3⟩
    have B3 := Lib.hid b3
    have hz3 := b3.size
    have e0 : w3.cell? ⟨w.heap.size, 0, none⟩ = some (.int .i64 0) := by rw [b3.cell (p := ⟨w.heap.size, 0, none⟩) (by go_size)]; go_cell
    have e1 : w3.cell? ⟨w.heap.size, 1, none⟩ = some (.string ⟨#[]⟩) := by rw [b3.cell (p := ⟨w.heap.size, 1, none⟩) (by go_size)]; go_cell
    have e2 : w3.cell? ⟨w.heap.size, 2, none⟩ = some (.int .i64 0) := by rw [b3.cell (p := ⟨w.heap.size, 2, none⟩) (by go_size)]; go_cell
    have e3 : w3.cell? ⟨w.heap.size, 3, none⟩ = some (.int .i64 0) := by rw [b3.cell (p := ⟨w.heap.size, 3, none⟩) (by go_size)]; go_cell
    have f0 : w3.frozen? ⟨w.heap.size, 0, none⟩ = false := by rw [b3.frozen (p := ⟨w.heap.size, 0, none⟩) (by go_size)]; go_cell
    have f1 : w3.frozen? ⟨w.heap.size, 1, none⟩ = false := by rw [b3.frozen (p := ⟨w.heap.size, 1, none⟩) (by go_size)]; go_cell
    have f2 : w3.frozen? ⟨w.heap.size, 2, none⟩ = false := by rw [b3.frozen (p := ⟨w.heap.size, 2, none⟩) (by go_size)]; go_cell
    have f3 : w3.frozen? ⟨w.heap.size, 3, none⟩ = false := by rw [b3.frozen (p := ⟨w.heap.size, 3, none⟩) (by go_size)]; go_cell
    have hz4 : w.heap.size < w3.heap.size := by simp at hz3; omega
    have HB : Hid (Below w.heap.size w w3) := Lib.hid (bt (by go_grown) B3.out)
    clear b3 hz3
    go_wp2
    exact bodyPost_ret (v := tokV 0 []) (by simp [results, Tryd.results33, go_sem, tokV, e0, e1, e2, e3]; rfl) rfl ⟨rfl, HB.out.trans (by go_grown)⟩
  | some s =>
    have hq : T = (4, s) := hq
    subst hq
    have HSy : Hid (∀ w1, Calls Tryd.prog 49 #[.string (sv l)] w1 fun e w' => e = .returned (.string (sv s)) ∧ Below w1.heap.size w1 w') := HSy
    have hes := hne s rfl
    clear hne
    go_enter Tryd.func33, Tryd.ntmps33
    go_wp2_with (fail)
    refine (HC.out _).mono ?_
    rintro e w1 ⟨rfl, rfl⟩
    go_wp2_with (fail)
    refine (HCd.out _).mono ?_
    rintro e w1 ⟨rfl, rfl⟩
    go_wp2_with (fail)
    refine (HSy.out _).mono ?_
    rintro e w3 ⟨rfl, b3⟩
    have B3 := Lib.hid b3
    have hz3 := b3.size
    have e0 : w3.cell? ⟨w.heap.size, 0, none⟩ = some (.int .i64 0) := by rw [b3.cell (p := ⟨w.heap.size, 0, none⟩) (by go_size)]; go_cell
    have e1 : w3.cell? ⟨w.heap.size, 1, none⟩ = some (.string ⟨#[]⟩) := by rw [b3.cell (p := ⟨w.heap.size, 1, none⟩) (by go_size)]; go_cell
    have e2 : w3.cell? ⟨w.heap.size, 2, none⟩ = some (.int .i64 0) := by rw [b3.cell (p := ⟨w.heap.size, 2, none⟩) (by go_size)]; go_cell
    have e3 : w3.cell? ⟨w.heap.size, 3, none⟩ = some (.int .i64 0) := by rw [b3.cell (p := ⟨w.heap.size, 3, none⟩) (by go_size)]; go_cell
    have f0 : w3.frozen? ⟨w.heap.size, 0, none⟩ = false := by rw [b3.frozen (p := ⟨w.heap.size, 0, none⟩) (by go_size)]; go_cell
    have f1 : w3.frozen? ⟨w.heap.size, 1, none⟩ = false := by rw [b3.frozen (p := ⟨w.heap.size, 1, none⟩) (by go_size)]; go_cell
    have f2 : w3.frozen? ⟨w.heap.size, 2, none⟩ = false := by rw [b3.frozen (p := ⟨w.heap.size, 2, none⟩) (by go_size)]; go_cell
    have f3 : w3.frozen? ⟨w.heap.size, 3, none⟩ = false := by rw [b3.frozen (p := ⟨w.heap.size, 3, none⟩) (by go_size)]; go_cell
    have hz4 : w.heap.size < w3.heap.size := by simp at hz3; omega
    have HB : Hid (Below w.heap.size w w3) := Lib.hid (bt (by go_grown) B3.out)
    clear b3 hz3
    go_wp2
    exact bodyPost_ret (v := tokV 4 s) (by simp [results, Tryd.results33, go_sem, tokV, e0, e1, e2, e3]) rfl ⟨rfl, HB.out.trans (by go_grown)⟩

/-- The token with which a string that is not empty begins, as the reference returns it. -/
theorem next_any (l : List UInt8) (w : World) (hl : (l.length : Int) ≤ 1000000) (hne : l ≠ []) :
    Calls Tryd.prog 33 #[.string (sv l)] w fun e w' => e = .returned (tokV (tokn l).1 (tokn l).2) ∧ Below w.heap.size w w' := by
  rcases hx : l.head? with _ | c
  · exact absurd (List.head?_eq_none_iff.1 hx) hne
  · cases hc : letters.contains c with
    | true => exact next_letter l c w hl hx hc
    | false =>
      cases hd : digits.contains c with
      | true => exact next_digit l c w hl hx hc hd
      | false => exact next_symbol l c w hl hx hc hd

end Go.Proofs.YtanhljpmknfabaaDoor.LexRNext2
