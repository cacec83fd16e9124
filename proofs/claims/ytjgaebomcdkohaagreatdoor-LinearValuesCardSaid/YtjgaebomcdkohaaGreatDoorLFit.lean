/- What comes in as linear expressions, bindings and values. -/
import Derived.Test.YtjgaebomcdkohaaGreatDoorEngAny
import Derived.Test.YtjgaebomcdkohaaGreatDoorL13
namespace Go.Proofs.YtjgaebomcdkohaaGreatDoor.LFit
open Go Go.Proofs.YtjgaebomcdkohaaGreatDoor.Eng Go.Proofs.YtjgaebomcdkohaaGreatDoor Go.RowKit Go.Proofs.YtjgaebomcdkohaaGreatDoor.L1 Go.Proofs.YtjgaebomcdkohaaGreatDoor.L13
set_option linter.unusedVariables false
set_option linter.unusedSectionVars false
set_option maxRecDepth 100000

abbrev Ft (n : Nat) (t : TypeId) (a : List AV) : Prop := Fits Tryz.prog n t a
theorem int_ {n : Nat} {a : List AV} (h : Ft n 3 a) : ∃ i, a = [I i] ∧ (Lit.int .i64 i).wf = true := fit_int Tryz.underlying3 h
theorem str_ {n : Nat} {a : List AV} (h : Ft n 9 a) : ∃ s, a = [S s] ∧ s.size ≤ maxLen := fit_str Tryz.underlying9 h
theorem coef_ {n : Nat} {a : List AV} (h : Ft n 42 a) : ∃ t : Tm, a = tmV t := by
  obtain ⟨m, _, h⟩ := fit_struct Tryz.underlying42 h
  obtain ⟨a0, b0, rfl, h0, a1, b1, rfl, h1, rfl⟩ := (h : FitsL _ [_, _] _)
  obtain ⟨s, rfl, _⟩ := str_ h0
  obtain ⟨i, rfl, _⟩ := int_ h1
  exact ⟨(s, i), rfl⟩
theorem tms_ {n : Nat} {a : List AV} (h : Ft n 22 a) : ∃ ts : List Tm, a = [tms ts] ∧ ts.length ≤ maxLen := by
  obtain ⟨m, es, _, rfl, hl, h⟩ := fit_slice (c := 2) Tryz.underlying22 (by kernel_rfl) rfl h
  obtain ⟨ts, rfl, h2⟩ := list_of fun a ha => coef_ (h a ha)
  exact ⟨ts, rfl, by omega⟩
theorem lin_ {n : Nat} {a : List AV} (h : Ft n 24 a) : ∃ c ts, a = [I c, tms ts] ∧ ts.length ≤ maxLen := by
  obtain ⟨m, _, h⟩ := fit_struct Tryz.underlying24 h
  obtain ⟨a0, b0, rfl, h0, a1, b1, rfl, h1, rfl⟩ := (h : FitsL _ [_, _] _)
  obtain ⟨c, rfl, _⟩ := int_ h0
  obtain ⟨ts, rfl, hl⟩ := tms_ h1
  exact ⟨c, ts, rfl, hl⟩
theorem lins_ {n : Nat} {a : List AV} (h : Ft n 45 a) : ∃ ds : List (Int × List Tm), a = [.sl false 2 (ds.map fun d => [I d.1, tms d.2])] := by
  obtain ⟨m, es, _, rfl, hl, h⟩ := fit_slice (c := 2) Tryz.underlying45 (by kernel_rfl) rfl h
  obtain ⟨ts, rfl, h2⟩ := list_of (f := fun d : Int × List Tm => [I d.1, tms d.2]) fun a ha => by
    obtain ⟨c, ts, e, _⟩ := lin_ (h a ha)
    exact ⟨(c, ts), e⟩
  exact ⟨ts, rfl⟩
theorem bind_ {n : Nat} {a : List AV} (h : Ft n 49 a) : ∃ b : Bd, a = bdV b ∧ b.ts.length ≤ maxLen := by
  obtain ⟨m, _, h⟩ := fit_struct Tryz.underlying49 h
  obtain ⟨a0, b0, rfl, h0, a1, b1, rfl, h1, a2, b2, rfl, h2, a3, b3, rfl, h3, a4, b4, rfl, h4, rfl⟩ := (h : FitsL _ [_, _, _, _, _] _)
  obtain ⟨k, rfl, _⟩ := int_ h0
  obtain ⟨v, rfl, _⟩ := str_ h1
  obtain ⟨c, ts, rfl, hl⟩ := lin_ h2
  obtain ⟨m', _, h3⟩ := fit_struct Tryz.underlying47 h3
  obtain ⟨a5, b5, rfl, h5, a6, b6, rfl, h6, rfl⟩ := (h3 : FitsL _ [_, _] _)
  obtain ⟨r, rfl, _⟩ := str_ h5
  obtain ⟨ds, rfl⟩ := lins_ h6
  obtain ⟨e, rfl, _⟩ := str_ h4
  exact ⟨⟨k, v, c, ts, r, ds, e⟩, rfl, hl⟩
theorem binds_ {n : Nat} {a : List AV} (h : Ft n 32 a) : ∃ bs : List Bd, a = [bds bs] ∧ bs.length ≤ maxLen ∧ ∀ b ∈ bs, b.ts.length ≤ maxLen := by
  obtain ⟨m, es, _, rfl, hl, h⟩ := fit_slice (c := 7) Tryz.underlying32 (by kernel_rfl) rfl h
  obtain ⟨bs, rfl, h2, h3⟩ := list_ofP fun a ha => bind_ (h a ha)
  exact ⟨bs, rfl, by omega, h3⟩
theorem value_ {n : Nat} {a : List AV} (h : Ft n 44 a) : ∃ t : Tm, a = tmV t := by
  obtain ⟨m, _, h⟩ := fit_struct Tryz.underlying44 h
  obtain ⟨a0, b0, rfl, h0, a1, b1, rfl, h1, rfl⟩ := (h : FitsL _ [_, _] _)
  obtain ⟨s, rfl, _⟩ := str_ h0
  obtain ⟨i, rfl, _⟩ := int_ h1
  exact ⟨(s, i), rfl⟩
theorem values_ {n : Nat} {a : List AV} (h : Ft n 33 a) : ∃ ts : List Tm, a = [tms ts] ∧ ts.length ≤ maxLen := by
  obtain ⟨m, es, _, rfl, hl, h⟩ := fit_slice (c := 2) Tryz.underlying33 (by kernel_rfl) rfl h
  obtain ⟨ts, rfl, h2⟩ := list_of fun a ha => value_ (h a ha)
  exact ⟨ts, rfl, by omega⟩
theorem three_ {n : Nat} {a : List AV} (h : Ft n 50 a) : ∃ (c1 : Int) (t1 : List Tm) (c2 : Int) (t2 : List Tm) (c3 : Int) (t3 : List Tm), a = [I c1, tms t1, I c2, tms t2, I c3, tms t3] ∧ t1.length ≤ maxLen ∧ t2.length ≤ maxLen ∧ t3.length ≤ maxLen := by
  obtain ⟨m, _, h⟩ := fit_array Tryz.underlying50 h
  obtain ⟨a0, b0, rfl, h0, a1, b1, rfl, h1, a2, b2, rfl, h2, rfl⟩ := (h : FitsL _ [_, _, _] _)
  obtain ⟨c1, t1, rfl, l1⟩ := lin_ h0
  obtain ⟨c2, t2, rfl, l2⟩ := lin_ h1
  obtain ⟨c3, t3, rfl, l3⟩ := lin_ h2
  exact ⟨c1, t1, c2, t2, c3, t3, rfl, l1, l2, l3⟩
end Go.Proofs.YtjgaebomcdkohaaGreatDoor.LFit
