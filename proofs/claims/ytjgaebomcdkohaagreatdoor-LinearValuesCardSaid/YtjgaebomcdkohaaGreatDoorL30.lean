/- Linear expressions: values of sums, and of what is behind substituting. -/
import Derived.Test.YtjgaebomcdkohaaGreatDoorL23
import Derived.Test.YtjgaebomcdkohaaGreatDoorL31
namespace Go.Proofs.YtjgaebomcdkohaaGreatDoor.L30
open Go Go.Proofs.YtjgaebomcdkohaaGreatDoor.Eng Go.Proofs.YtjgaebomcdkohaaGreatDoor Go.RowKit Go.Proofs.YtjgaebomcdkohaaGreatDoor.L1 Go.Proofs.YtjgaebomcdkohaaGreatDoor.L2 Go.Proofs.YtjgaebomcdkohaaGreatDoor.L3 Go.Proofs.YtjgaebomcdkohaaGreatDoor.L6 Go.Proofs.YtjgaebomcdkohaaGreatDoor.L13 Go.Proofs.YtjgaebomcdkohaaGreatDoor.L16 Go.Proofs.YtjgaebomcdkohaaGreatDoor.L19 Go.Proofs.YtjgaebomcdkohaaGreatDoor.L20 Go.Proofs.YtjgaebomcdkohaaGreatDoor.L23 Go.Proofs.YtjgaebomcdkohaaGreatDoor.L29 Go.Proofs.YtjgaebomcdkohaaGreatDoor.L31
set_option linter.unusedSimpArgs false
set_option linter.unusedVariables false
set_option linter.unusedSectionVars false
set_option maxRecDepth 100000

/-- The value that a list of values gives a variable. -/
def valOf (vs : List Tm) (v : ByteArray) : Int := match vs.find? (hitV v) with | some b => b.2 | none => 0
/-- A variable has a value within the limits. -/
def has (vs : List Tm) (v : ByteArray) : Prop := ∃ b, vs.find? (hitV v) = some b ∧ -1000000000 ≤ b.2 ∧ b.2 ≤ 1000000000
theorem has_val {vs : List Tm} {v : ByteArray} (h : has vs v) : ∃ b, vs.find? (hitV v) = some b ∧ -1000000000 ≤ b.2 ∧ b.2 ≤ 1000000000 ∧ valOf vs v = b.2 := by
  obtain ⟨b, h1, h2, h3⟩ := h
  exact ⟨b, h1, h2, h3, by unfold valOf; rw [h1]⟩
theorem evalL_V (vs : List Tm) : ∀ (ts : List Tm) (n : Int), (∀ u ∈ ts, has vs u.1) → W n = n → ∃ m, evalL vs ts n = (m, 0) ∧ W m = m ∧ cg m (n + E (valOf vs) ts)
  | [], n, _, hw => ⟨n, rfl, hw, cg.of_eq (by rw [E]; omega)⟩
  | t :: r, n, h, hw => by
    obtain ⟨b, h1, h2, h3, h4⟩ := has_val (h t List.mem_cons_self)
    obtain ⟨m, e, w, c⟩ := evalL_V vs r (W (n + W (t.2 * b.2))) (fun u hu => h u (List.mem_cons_of_mem _ hu)) (W_W _)
    refine ⟨m, ?_, w, ?_⟩
    · rw [evalL, h1]
      simp only
      rw [if_neg (by omega)]
      exact e
    · rw [E, h4]
      exact c.trans ((((cg_W _).trans ((cg.rfl' n).add (cg_W _))).add (cg.rfl' _)).trans (cg.of_eq (by omega)))
/-- The value of a valid expression whose variables have values. -/
theorem evalE_V {vs : List Tm} {l : Int × List Tm} (hv : validE l.1 l.2 = true) (h : ∀ u ∈ l.2, has vs u.1) : ∃ m, evalE l.1 l.2 vs = (m, 0) ∧ W m = m ∧ cg m (V (valOf vs) l) := by
  unfold evalE
  rw [if_pos hv]
  exact evalL_V vs l.2 l.1 h (fits_W (valid_parts hv).1)
theorem evalE_times {vs : List Tm} {a b : Int × List Tm} {k : Int} {m n : Int} (hab : validE (timesE a b k).1 (timesE a b k).2 = true) (ha : ∀ u ∈ a.2, has vs u.1) (hb : ∀ u ∈ b.2, has vs u.1) (hm : cg m (V (valOf vs) a)) (hn : cg n (V (valOf vs) b)) : evalE (timesE a b k).1 (timesE a b k).2 vs = (W (m + W (k * n)), 0) := by
  obtain ⟨x, e, w, c⟩ := evalE_V hab (times_all k b.2 ha hb)
  rw [e]
  congr 1
  refine cg_eq (c.trans ((V_times _ a b k).trans ?_)) w (W_W _)
  exact ((cg_W _).trans (hm.add ((cg_W _).trans (hn.mull k)))).symm

/-! One variable substituted. -/
theorem sub_V (vs : List Tm) (bs : List Bd) (P : ByteArray → Prop) (val' : ByteArray → Int) (hV : ∀ v, P v → cg (V (valOf vs) (byE bs v)) (val' v)) (hP : ∀ v, P v → ∀ u ∈ (byE bs v).2, has vs u.1) : ∀ (ts : List Tm) {st st' : Int × List Tm}, (∀ u ∈ ts, P u.1) → (∀ u ∈ st.2, has vs u.1) → subR bs ts st = some st' → (∀ u ∈ st'.2, has vs u.1) ∧ cg (V (valOf vs) st') (V (valOf vs) st + E val' ts)
  | [], st, st', _, h, e => by
    cases e
    exact ⟨h, cg.of_eq (by rw [E]; omega)⟩
  | t :: r, st, st', ht, h, e => by
    unfold subR at e
    split at e
    · have hp := ht t List.mem_cons_self
      obtain ⟨h1, h2⟩ := sub_V vs bs P val' hV hP r (fun u hu => ht u (List.mem_cons_of_mem _ hu)) (times_all t.2 (byE bs t.1).2 h (hP t.1 hp)) e
      refine ⟨h1, h2.trans ?_⟩
      rw [E]
      exact (((V_times _ st (byE bs t.1) t.2).trans ((cg.rfl' _).add ((hV t.1 hp).mull t.2))).add (cg.rfl' _)).trans (cg.of_eq (by omega))
    · cases e

end Go.Proofs.YtjgaebomcdkohaaGreatDoor.L30
