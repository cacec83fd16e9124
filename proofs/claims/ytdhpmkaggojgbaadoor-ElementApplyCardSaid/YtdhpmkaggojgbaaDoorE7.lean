/- What Apply returns is an element of the type of the result. -/
import Derived.Test.YtdhpmkaggojgbaaDoorE6
namespace Go.Proofs.YtdhpmkaggojgbaaDoor.E7
open Go Go.Proofs.YtdhpmkaggojgbaaDoor.Eng Go.Proofs.YtdhpmkaggojgbaaDoor Go.RowKit Go.Proofs.YtdhpmkaggojgbaaDoor.E0 Go.Proofs.YtdhpmkaggojgbaaDoor.E1 Go.Proofs.YtdhpmkaggojgbaaDoor.E3 Go.Proofs.YtdhpmkaggojgbaaDoor.E5 Go.Proofs.YtdhpmkaggojgbaaDoor.D17 Go.Proofs.YtdhpmkaggojgbaaDoor.E6
set_option linter.unusedSimpArgs false
set_option linter.unusedVariables false
set_option linter.unusedSectionVars false
set_option maxRecDepth 100000

theorem vI {n : Int} : validE cI n = true ↔ -2147483648 ≤ n ∧ n ≤ 2147483647 := by
  unfold validE
  rw [eqB_is, show eqB cI (⟨#[105, 110, 116]⟩ : ByteArray) = true from rfl]
  simp
theorem vB {n : Int} : validE cB n = true ↔ n = 0 ∨ n = 1 := by
  unfold validE
  rw [eqB_is, eqB_is, show eqB cB (⟨#[105, 110, 116]⟩ : ByteArray) = false from rfl, show eqB cB (⟨#[98, 111, 111, 108]⟩ : ByteArray) = true from rfl]
  simp
def fine (t : ByteArray) (v : Int) : Prop := validE cI v = true ∧ (eqB t cB = true → validE cB v = true)
theorem fine_i {v : Int} (h : -2147483648 ≤ v ∧ v ≤ 2147483647) : fine cI v := ⟨vI.2 h, fun e => by cases e⟩
theorem fine_b {v : Int} (h : v = 0 ∨ v = 1) : fine cB v := ⟨vI.2 (by omega), fun _ => vB.2 h⟩
theorem w32 (n : Int) : -2147483648 ≤ IntKind.i64.wrap (IntKind.i32.wrap n) ∧ IntKind.i64.wrap (IntKind.i32.wrap n) ≤ 2147483647 := by
  rw [IntKind.wrap_i64, IntKind.wrap_i32]
  omega
theorem bit (b : Bool) : ((element_number b).bind fun y => some y).getD 0 = 0 ∨ ((element_number b).bind fun y => some y).getD 0 = 1 := by cases b <;> simp [element_number]
theorem mod_fine (x y q : Int) (hx : -2147483648 ≤ x ∧ x ≤ 2147483647) (hy : -2147483648 ≤ y ∧ y ≤ 2147483647) (h0 : ¬ y = 0) (hq : element_quotient x y = some q) : -2147483648 ≤ IntKind.i64.wrap (x - IntKind.i64.wrap (y * q)) ∧ IntKind.i64.wrap (x - IntKind.i64.wrap (y * q)) ≤ 2147483647 := by
  have e := Int.mul_tdiv_add_tmod x y
  have b1 : -2147483648 ≤ x.tdiv y ∧ x.tdiv y ≤ 2147483648 := by
    have := Int.natAbs_tdiv_le_natAbs x y
    omega
  have b2 : (x.tmod y).natAbs < y.natAbs := by rw [Int.natAbs_tmod]; exact Nat.mod_lt _ (by omega)
  have b3 : (0 ≤ x → 0 ≤ x.tmod y) ∧ (x ≤ 0 → x.tmod y ≤ 0) := ⟨fun h => Int.tmod_nonneg y h, fun h => by
    have := Int.tmod_nonneg y (a := -x) (by omega)
    rw [Int.neg_tmod] at this
    omega⟩
  unfold element_quotient iffO at hq
  simp only [beq_eq_false_iff_ne.2 h0, Bool.false_eq_true, if_false, decide_eq_true_eq, ne_eq, h0, not_false_eq_true, if_true] at hq
  have w1 : IntKind.i64.wrap (x.tdiv y) = x.tdiv y := wrap_in (by omega) (by omega)
  have w2 : IntKind.i64.wrap (x.tdiv y - 1) = x.tdiv y - 1 := wrap_in (by omega) (by omega)
  rw [w1, w2] at hq
  have hm : q = x.tdiv y ∨ (q = x.tdiv y - 1 ∧ ((x < 0) ≠ (y < 0))) := by
    split at hq
    · split at hq
      · exact Or.inl (Option.some.inj hq).symm
      · rename_i hs
        refine Or.inr ⟨(Option.some.inj hq).symm, fun e => hs ?_⟩
        rw [beq_iff_eq, decide_eq_decide]
        exact iff_of_eq e
    · exact Or.inl (Option.some.inj hq).symm
  rcases hm with rfl | ⟨rfl, hs⟩
  · rw [wrap_in (x := y * x.tdiv y) (by omega) (by omega), wrap_in (by omega) (by omega)]
    omega
  · have e2 : y * (x.tdiv y - 1) = y * x.tdiv y - y := by rw [Int.mul_sub, Int.mul_one]
    have hs' : (x < 0 ∧ ¬ y < 0) ∨ (¬ x < 0 ∧ y < 0) := by
      rcases Decidable.em (x < 0) with h | h <;> rcases Decidable.em (y < 0) with h' | h'
      · exact absurd (propext ⟨fun _ => h', fun _ => h⟩) hs
      · exact Or.inl ⟨h, h'⟩
      · exact Or.inr ⟨h, h'⟩
      · exact absurd (propext ⟨fun a => absurd a h, fun a => absurd a h'⟩) hs
    rw [e2]
    rw [wrap_in (x := y * x.tdiv y - y) (by omega) (by omega), wrap_in (by omega) (by omega)]
    omega
theorem f_add (x y : Int) (h0 : validE (E5.elemOf cI) x = true) (h1 : validE (E5.elemOf cI) y = true) : fine cI (valF (⟨#[97, 100, 100]⟩ : ByteArray) x y 0) := by
  rw [show E5.elemOf cI = cI by kernel_rfl] at h0
  have g0 := vI.1 h0
  rw [show E5.elemOf cI = cI by kernel_rfl] at h1
  have g1 := vI.1 h1
  exact fine_i (w32 _)
theorem k_add (zs : List Int) (v : Int) (h : pApply (⟨#[97, 100, 100]⟩ : ByteArray) zs = some (v, true)) : ∃ ts t, ref17_Types (⟨#[97, 100, 100]⟩ : ByteArray) = some (ts, t, true) ∧ fine t v := by
  refine ⟨_, _, (show ref17_Types (⟨#[97, 100, 100]⟩ : ByteArray) = some ([cI, cI], cI, true) by kernel_rfl), ?_⟩
  unfold pApply at h
  rw [show (findR (⟨#[97, 100, 100]⟩ : ByteArray)).isSome = true by kernel_rfl, if_pos rfl, show rowF (⟨#[97, 100, 100]⟩ : ByteArray) = ⟨(⟨#[97, 100, 100]⟩ : ByteArray), cI, cI, cE, cI⟩ by kernel_rfl, show cntE ⟨(⟨#[97, 100, 100]⟩ : ByteArray), cI, cI, cE, cI⟩ = 2 by kernel_rfl] at h
  by_cases hn : zs.length = 2
  · obtain ⟨x, y, rfl⟩ : ∃ x y, zs = [x, y] := by
      match zs, hn with
      | [x, y], _ => exact ⟨x, y, rfl⟩
    rw [if_pos (show [x, y].length = 2 from rfl)] at h
    simp only [List.zip_cons_cons, List.zip_nil_right, okA, List.all_cons, List.all_nil, Bool.and_true, List.getD_cons_zero, List.getD_cons_succ, List.getD_nil] at h
    split at h
    · rename_i hk
      simp only [Bool.and_eq_true] at hk
      cases h
      exact f_add x y hk.1 hk.2
    · cases h
  · rw [if_neg hn] at h
    cases h
theorem f_sub (x y : Int) (h0 : validE (E5.elemOf cI) x = true) (h1 : validE (E5.elemOf cI) y = true) : fine cI (valF (⟨#[115, 117, 98]⟩ : ByteArray) x y 0) := by
  rw [show E5.elemOf cI = cI by kernel_rfl] at h0
  have g0 := vI.1 h0
  rw [show E5.elemOf cI = cI by kernel_rfl] at h1
  have g1 := vI.1 h1
  exact fine_i (w32 _)
theorem k_sub (zs : List Int) (v : Int) (h : pApply (⟨#[115, 117, 98]⟩ : ByteArray) zs = some (v, true)) : ∃ ts t, ref17_Types (⟨#[115, 117, 98]⟩ : ByteArray) = some (ts, t, true) ∧ fine t v := by
  refine ⟨_, _, (show ref17_Types (⟨#[115, 117, 98]⟩ : ByteArray) = some ([cI, cI], cI, true) by kernel_rfl), ?_⟩
  unfold pApply at h
  rw [show (findR (⟨#[115, 117, 98]⟩ : ByteArray)).isSome = true by kernel_rfl, if_pos rfl, show rowF (⟨#[115, 117, 98]⟩ : ByteArray) = ⟨(⟨#[115, 117, 98]⟩ : ByteArray), cI, cI, cE, cI⟩ by kernel_rfl, show cntE ⟨(⟨#[115, 117, 98]⟩ : ByteArray), cI, cI, cE, cI⟩ = 2 by kernel_rfl] at h
  by_cases hn : zs.length = 2
  · obtain ⟨x, y, rfl⟩ : ∃ x y, zs = [x, y] := by
      match zs, hn with
      | [x, y], _ => exact ⟨x, y, rfl⟩
    rw [if_pos (show [x, y].length = 2 from rfl)] at h
    simp only [List.zip_cons_cons, List.zip_nil_right, okA, List.all_cons, List.all_nil, Bool.and_true, List.getD_cons_zero, List.getD_cons_succ, List.getD_nil] at h
    split at h
    · rename_i hk
      simp only [Bool.and_eq_true] at hk
      cases h
      exact f_sub x y hk.1 hk.2
    · cases h
  · rw [if_neg hn] at h
    cases h
theorem f_mul (x y : Int) (h0 : validE (E5.elemOf cI) x = true) (h1 : validE (E5.elemOf cI) y = true) : fine cI (valF (⟨#[109, 117, 108]⟩ : ByteArray) x y 0) := by
  rw [show E5.elemOf cI = cI by kernel_rfl] at h0
  have g0 := vI.1 h0
  rw [show E5.elemOf cI = cI by kernel_rfl] at h1
  have g1 := vI.1 h1
  exact fine_i (w32 _)
theorem k_mul (zs : List Int) (v : Int) (h : pApply (⟨#[109, 117, 108]⟩ : ByteArray) zs = some (v, true)) : ∃ ts t, ref17_Types (⟨#[109, 117, 108]⟩ : ByteArray) = some (ts, t, true) ∧ fine t v := by
  refine ⟨_, _, (show ref17_Types (⟨#[109, 117, 108]⟩ : ByteArray) = some ([cI, cI], cI, true) by kernel_rfl), ?_⟩
  unfold pApply at h
  rw [show (findR (⟨#[109, 117, 108]⟩ : ByteArray)).isSome = true by kernel_rfl, if_pos rfl, show rowF (⟨#[109, 117, 108]⟩ : ByteArray) = ⟨(⟨#[109, 117, 108]⟩ : ByteArray), cI, cI, cE, cI⟩ by kernel_rfl, show cntE ⟨(⟨#[109, 117, 108]⟩ : ByteArray), cI, cI, cE, cI⟩ = 2 by kernel_rfl] at h
  by_cases hn : zs.length = 2
  · obtain ⟨x, y, rfl⟩ : ∃ x y, zs = [x, y] := by
      match zs, hn with
      | [x, y], _ => exact ⟨x, y, rfl⟩
    rw [if_pos (show [x, y].length = 2 from rfl)] at h
    simp only [List.zip_cons_cons, List.zip_nil_right, okA, List.all_cons, List.all_nil, Bool.and_true, List.getD_cons_zero, List.getD_cons_succ, List.getD_nil] at h
    split at h
    · rename_i hk
      simp only [Bool.and_eq_true] at hk
      cases h
      exact f_mul x y hk.1 hk.2
    · cases h
  · rw [if_neg hn] at h
    cases h
theorem f_div (x y : Int) (h0 : validE (E5.elemOf cI) x = true) (h1 : validE (E5.elemOf cI) y = true) : fine cI (valF (⟨#[100, 105, 118]⟩ : ByteArray) x y 0) := by
  rw [show E5.elemOf cI = cI by kernel_rfl] at h0
  have g0 := vI.1 h0
  rw [show E5.elemOf cI = cI by kernel_rfl] at h1
  have g1 := vI.1 h1
  obtain ⟨q, hq⟩ := quo_some x y
  have e : valF (⟨#[100, 105, 118]⟩ : ByteArray) x y 0 = IntKind.i64.wrap (IntKind.i32.wrap q) := by
    show (((element_quotient x y).bind fun y21 => (element_Wrap y21).bind fun y24 => some y24)).getD 0 = _
    rw [hq]; rfl
  rw [e]
  exact fine_i (w32 _)
theorem k_div (zs : List Int) (v : Int) (h : pApply (⟨#[100, 105, 118]⟩ : ByteArray) zs = some (v, true)) : ∃ ts t, ref17_Types (⟨#[100, 105, 118]⟩ : ByteArray) = some (ts, t, true) ∧ fine t v := by
  refine ⟨_, _, (show ref17_Types (⟨#[100, 105, 118]⟩ : ByteArray) = some ([cI, cI], cI, true) by kernel_rfl), ?_⟩
  unfold pApply at h
  rw [show (findR (⟨#[100, 105, 118]⟩ : ByteArray)).isSome = true by kernel_rfl, if_pos rfl, show rowF (⟨#[100, 105, 118]⟩ : ByteArray) = ⟨(⟨#[100, 105, 118]⟩ : ByteArray), cI, cI, cE, cI⟩ by kernel_rfl, show cntE ⟨(⟨#[100, 105, 118]⟩ : ByteArray), cI, cI, cE, cI⟩ = 2 by kernel_rfl] at h
  by_cases hn : zs.length = 2
  · obtain ⟨x, y, rfl⟩ : ∃ x y, zs = [x, y] := by
      match zs, hn with
      | [x, y], _ => exact ⟨x, y, rfl⟩
    rw [if_pos (show [x, y].length = 2 from rfl)] at h
    simp only [List.zip_cons_cons, List.zip_nil_right, okA, List.all_cons, List.all_nil, Bool.and_true, List.getD_cons_zero, List.getD_cons_succ, List.getD_nil] at h
    split at h
    · rename_i hk
      simp only [Bool.and_eq_true] at hk
      cases h
      exact f_div x y hk.1 hk.2
    · cases h
  · rw [if_neg hn] at h
    cases h
theorem f_mod (x y : Int) (h0 : validE (E5.elemOf cI) x = true) (h1 : validE (E5.elemOf cI) y = true) : fine cI (valF (⟨#[109, 111, 100]⟩ : ByteArray) x y 0) := by
  rw [show E5.elemOf cI = cI by kernel_rfl] at h0
  have g0 := vI.1 h0
  rw [show E5.elemOf cI = cI by kernel_rfl] at h1
  have g1 := vI.1 h1
  obtain ⟨q, hq⟩ := quo_some x y
  have e : valF (⟨#[109, 111, 100]⟩ : ByteArray) x y 0 = if (y == 0) = true then 0 else IntKind.i64.wrap (x - IntKind.i64.wrap (y * q)) := by
    show (if (y == 0) = true then some 0 else (element_quotient x y).bind fun y29 => some (IntKind.i64.wrap (x - (IntKind.i64.wrap (y * y29))))).getD 0 = _
    rw [hq]
    split <;> rfl
  rw [e]
  split
  · exact fine_i (by omega)
  · rename_i h
    exact fine_i (mod_fine x y q g0 g1 (by simpa using h) hq)
theorem k_mod (zs : List Int) (v : Int) (h : pApply (⟨#[109, 111, 100]⟩ : ByteArray) zs = some (v, true)) : ∃ ts t, ref17_Types (⟨#[109, 111, 100]⟩ : ByteArray) = some (ts, t, true) ∧ fine t v := by
  refine ⟨_, _, (show ref17_Types (⟨#[109, 111, 100]⟩ : ByteArray) = some ([cI, cI], cI, true) by kernel_rfl), ?_⟩
  unfold pApply at h
  rw [show (findR (⟨#[109, 111, 100]⟩ : ByteArray)).isSome = true by kernel_rfl, if_pos rfl, show rowF (⟨#[109, 111, 100]⟩ : ByteArray) = ⟨(⟨#[109, 111, 100]⟩ : ByteArray), cI, cI, cE, cI⟩ by kernel_rfl, show cntE ⟨(⟨#[109, 111, 100]⟩ : ByteArray), cI, cI, cE, cI⟩ = 2 by kernel_rfl] at h
  by_cases hn : zs.length = 2
  · obtain ⟨x, y, rfl⟩ : ∃ x y, zs = [x, y] := by
      match zs, hn with
      | [x, y], _ => exact ⟨x, y, rfl⟩
    rw [if_pos (show [x, y].length = 2 from rfl)] at h
    simp only [List.zip_cons_cons, List.zip_nil_right, okA, List.all_cons, List.all_nil, Bool.and_true, List.getD_cons_zero, List.getD_cons_succ, List.getD_nil] at h
    split at h
    · rename_i hk
      simp only [Bool.and_eq_true] at hk
      cases h
      exact f_mod x y hk.1 hk.2
    · cases h
  · rw [if_neg hn] at h
    cases h
theorem f_min (x y : Int) (h0 : validE (E5.elemOf cI) x = true) (h1 : validE (E5.elemOf cI) y = true) : fine cI (valF (⟨#[109, 105, 110]⟩ : ByteArray) x y 0) := by
  rw [show E5.elemOf cI = cI by kernel_rfl] at h0
  have g0 := vI.1 h0
  rw [show E5.elemOf cI = cI by kernel_rfl] at h1
  have g1 := vI.1 h1
  refine fine_i ?_
  show -2147483648 ≤ min x y ∧ min x y ≤ 2147483647
  omega
theorem k_min (zs : List Int) (v : Int) (h : pApply (⟨#[109, 105, 110]⟩ : ByteArray) zs = some (v, true)) : ∃ ts t, ref17_Types (⟨#[109, 105, 110]⟩ : ByteArray) = some (ts, t, true) ∧ fine t v := by
  refine ⟨_, _, (show ref17_Types (⟨#[109, 105, 110]⟩ : ByteArray) = some ([cI, cI], cI, true) by kernel_rfl), ?_⟩
  unfold pApply at h
  rw [show (findR (⟨#[109, 105, 110]⟩ : ByteArray)).isSome = true by kernel_rfl, if_pos rfl, show rowF (⟨#[109, 105, 110]⟩ : ByteArray) = ⟨(⟨#[109, 105, 110]⟩ : ByteArray), cI, cI, cE, cI⟩ by kernel_rfl, show cntE ⟨(⟨#[109, 105, 110]⟩ : ByteArray), cI, cI, cE, cI⟩ = 2 by kernel_rfl] at h
  by_cases hn : zs.length = 2
  · obtain ⟨x, y, rfl⟩ : ∃ x y, zs = [x, y] := by
      match zs, hn with
      | [x, y], _ => exact ⟨x, y, rfl⟩
    rw [if_pos (show [x, y].length = 2 from rfl)] at h
    simp only [List.zip_cons_cons, List.zip_nil_right, okA, List.all_cons, List.all_nil, Bool.and_true, List.getD_cons_zero, List.getD_cons_succ, List.getD_nil] at h
    split at h
    · rename_i hk
      simp only [Bool.and_eq_true] at hk
      cases h
      exact f_min x y hk.1 hk.2
    · cases h
  · rw [if_neg hn] at h
    cases h
theorem f_max (x y : Int) (h0 : validE (E5.elemOf cI) x = true) (h1 : validE (E5.elemOf cI) y = true) : fine cI (valF (⟨#[109, 97, 120]⟩ : ByteArray) x y 0) := by
  rw [show E5.elemOf cI = cI by kernel_rfl] at h0
  have g0 := vI.1 h0
  rw [show E5.elemOf cI = cI by kernel_rfl] at h1
  have g1 := vI.1 h1
  refine fine_i ?_
  show -2147483648 ≤ max x y ∧ max x y ≤ 2147483647
  omega
theorem k_max (zs : List Int) (v : Int) (h : pApply (⟨#[109, 97, 120]⟩ : ByteArray) zs = some (v, true)) : ∃ ts t, ref17_Types (⟨#[109, 97, 120]⟩ : ByteArray) = some (ts, t, true) ∧ fine t v := by
  refine ⟨_, _, (show ref17_Types (⟨#[109, 97, 120]⟩ : ByteArray) = some ([cI, cI], cI, true) by kernel_rfl), ?_⟩
  unfold pApply at h
  rw [show (findR (⟨#[109, 97, 120]⟩ : ByteArray)).isSome = true by kernel_rfl, if_pos rfl, show rowF (⟨#[109, 97, 120]⟩ : ByteArray) = ⟨(⟨#[109, 97, 120]⟩ : ByteArray), cI, cI, cE, cI⟩ by kernel_rfl, show cntE ⟨(⟨#[109, 97, 120]⟩ : ByteArray), cI, cI, cE, cI⟩ = 2 by kernel_rfl] at h
  by_cases hn : zs.length = 2
  · obtain ⟨x, y, rfl⟩ : ∃ x y, zs = [x, y] := by
      match zs, hn with
      | [x, y], _ => exact ⟨x, y, rfl⟩
    rw [if_pos (show [x, y].length = 2 from rfl)] at h
    simp only [List.zip_cons_cons, List.zip_nil_right, okA, List.all_cons, List.all_nil, Bool.and_true, List.getD_cons_zero, List.getD_cons_succ, List.getD_nil] at h
    split at h
    · rename_i hk
      simp only [Bool.and_eq_true] at hk
      cases h
      exact f_max x y hk.1 hk.2
    · cases h
  · rw [if_neg hn] at h
    cases h
theorem f_neg (x : Int) (h0 : validE (E5.elemOf cI) x = true) : fine cI (valF (⟨#[110, 101, 103]⟩ : ByteArray) x 0 0) := by
  rw [show E5.elemOf cI = cI by kernel_rfl] at h0
  have g0 := vI.1 h0
  exact fine_i (w32 _)
theorem k_neg (zs : List Int) (v : Int) (h : pApply (⟨#[110, 101, 103]⟩ : ByteArray) zs = some (v, true)) : ∃ ts t, ref17_Types (⟨#[110, 101, 103]⟩ : ByteArray) = some (ts, t, true) ∧ fine t v := by
  refine ⟨_, _, (show ref17_Types (⟨#[110, 101, 103]⟩ : ByteArray) = some ([cI], cI, true) by kernel_rfl), ?_⟩
  unfold pApply at h
  rw [show (findR (⟨#[110, 101, 103]⟩ : ByteArray)).isSome = true by kernel_rfl, if_pos rfl, show rowF (⟨#[110, 101, 103]⟩ : ByteArray) = ⟨(⟨#[110, 101, 103]⟩ : ByteArray), cI, cE, cE, cI⟩ by kernel_rfl, show cntE ⟨(⟨#[110, 101, 103]⟩ : ByteArray), cI, cE, cE, cI⟩ = 1 by kernel_rfl] at h
  by_cases hn : zs.length = 1
  · obtain ⟨x, rfl⟩ : ∃ x, zs = [x] := by
      match zs, hn with
      | [x], _ => exact ⟨x, rfl⟩
    rw [if_pos (show [x].length = 1 from rfl)] at h
    simp only [List.zip_cons_cons, List.zip_nil_right, okA, List.all_cons, List.all_nil, Bool.and_true, List.getD_cons_zero, List.getD_cons_succ, List.getD_nil] at h
    split at h
    · rename_i hk
      cases h
      exact f_neg x hk
    · cases h
  · rw [if_neg hn] at h
    cases h
theorem f_abs (x : Int) (h0 : validE (E5.elemOf cI) x = true) : fine cI (valF (⟨#[97, 98, 115]⟩ : ByteArray) x 0 0) := by
  rw [show E5.elemOf cI = cI by kernel_rfl] at h0
  have g0 := vI.1 h0
  exact fine_i (w32 _)
theorem k_abs (zs : List Int) (v : Int) (h : pApply (⟨#[97, 98, 115]⟩ : ByteArray) zs = some (v, true)) : ∃ ts t, ref17_Types (⟨#[97, 98, 115]⟩ : ByteArray) = some (ts, t, true) ∧ fine t v := by
  refine ⟨_, _, (show ref17_Types (⟨#[97, 98, 115]⟩ : ByteArray) = some ([cI], cI, true) by kernel_rfl), ?_⟩
  unfold pApply at h
  rw [show (findR (⟨#[97, 98, 115]⟩ : ByteArray)).isSome = true by kernel_rfl, if_pos rfl, show rowF (⟨#[97, 98, 115]⟩ : ByteArray) = ⟨(⟨#[97, 98, 115]⟩ : ByteArray), cI, cE, cE, cI⟩ by kernel_rfl, show cntE ⟨(⟨#[97, 98, 115]⟩ : ByteArray), cI, cE, cE, cI⟩ = 1 by kernel_rfl] at h
  by_cases hn : zs.length = 1
  · obtain ⟨x, rfl⟩ : ∃ x, zs = [x] := by
      match zs, hn with
      | [x], _ => exact ⟨x, rfl⟩
    rw [if_pos (show [x].length = 1 from rfl)] at h
    simp only [List.zip_cons_cons, List.zip_nil_right, okA, List.all_cons, List.all_nil, Bool.and_true, List.getD_cons_zero, List.getD_cons_succ, List.getD_nil] at h
    split at h
    · rename_i hk
      cases h
      exact f_abs x hk
    · cases h
  · rw [if_neg hn] at h
    cases h
theorem f_sign (x : Int) (h0 : validE (E5.elemOf cI) x = true) : fine cI (valF (⟨#[115, 105, 103, 110]⟩ : ByteArray) x 0 0) := by
  rw [show E5.elemOf cI = cI by kernel_rfl] at h0
  have g0 := vI.1 h0
  refine fine_i ?_
  show -2147483648 ≤ ((element_number (decide ((0 : Int) < x))).bind fun a => (element_number (decide (x < 0))).bind fun b => some (IntKind.i64.wrap (a - b))).getD 0 ∧ ((element_number (decide ((0 : Int) < x))).bind fun a => (element_number (decide (x < 0))).bind fun b => some (IntKind.i64.wrap (a - b))).getD 0 ≤ 2147483647
  cases decide ((0 : Int) < x) <;> cases decide (x < 0) <;> decide
theorem k_sign (zs : List Int) (v : Int) (h : pApply (⟨#[115, 105, 103, 110]⟩ : ByteArray) zs = some (v, true)) : ∃ ts t, ref17_Types (⟨#[115, 105, 103, 110]⟩ : ByteArray) = some (ts, t, true) ∧ fine t v := by
  refine ⟨_, _, (show ref17_Types (⟨#[115, 105, 103, 110]⟩ : ByteArray) = some ([cI], cI, true) by kernel_rfl), ?_⟩
  unfold pApply at h
  rw [show (findR (⟨#[115, 105, 103, 110]⟩ : ByteArray)).isSome = true by kernel_rfl, if_pos rfl, show rowF (⟨#[115, 105, 103, 110]⟩ : ByteArray) = ⟨(⟨#[115, 105, 103, 110]⟩ : ByteArray), cI, cE, cE, cI⟩ by kernel_rfl, show cntE ⟨(⟨#[115, 105, 103, 110]⟩ : ByteArray), cI, cE, cE, cI⟩ = 1 by kernel_rfl] at h
  by_cases hn : zs.length = 1
  · obtain ⟨x, rfl⟩ : ∃ x, zs = [x] := by
      match zs, hn with
      | [x], _ => exact ⟨x, rfl⟩
    rw [if_pos (show [x].length = 1 from rfl)] at h
    simp only [List.zip_cons_cons, List.zip_nil_right, okA, List.all_cons, List.all_nil, Bool.and_true, List.getD_cons_zero, List.getD_cons_succ, List.getD_nil] at h
    split at h
    · rename_i hk
      cases h
      exact f_sign x hk
    · cases h
  · rw [if_neg hn] at h
    cases h
theorem f_lt (x y : Int) (h0 : validE (E5.elemOf cI) x = true) (h1 : validE (E5.elemOf cI) y = true) : fine cB (valF (⟨#[108, 116]⟩ : ByteArray) x y 0) := by
  rw [show E5.elemOf cI = cI by kernel_rfl] at h0
  have g0 := vI.1 h0
  rw [show E5.elemOf cI = cI by kernel_rfl] at h1
  have g1 := vI.1 h1
  refine fine_b ?_
  exact bit (decide (x < y))
theorem k_lt (zs : List Int) (v : Int) (h : pApply (⟨#[108, 116]⟩ : ByteArray) zs = some (v, true)) : ∃ ts t, ref17_Types (⟨#[108, 116]⟩ : ByteArray) = some (ts, t, true) ∧ fine t v := by
  refine ⟨_, _, (show ref17_Types (⟨#[108, 116]⟩ : ByteArray) = some ([cI, cI], cB, true) by kernel_rfl), ?_⟩
  unfold pApply at h
  rw [show (findR (⟨#[108, 116]⟩ : ByteArray)).isSome = true by kernel_rfl, if_pos rfl, show rowF (⟨#[108, 116]⟩ : ByteArray) = ⟨(⟨#[108, 116]⟩ : ByteArray), cI, cI, cE, cB⟩ by kernel_rfl, show cntE ⟨(⟨#[108, 116]⟩ : ByteArray), cI, cI, cE, cB⟩ = 2 by kernel_rfl] at h
  by_cases hn : zs.length = 2
  · obtain ⟨x, y, rfl⟩ : ∃ x y, zs = [x, y] := by
      match zs, hn with
      | [x, y], _ => exact ⟨x, y, rfl⟩
    rw [if_pos (show [x, y].length = 2 from rfl)] at h
    simp only [List.zip_cons_cons, List.zip_nil_right, okA, List.all_cons, List.all_nil, Bool.and_true, List.getD_cons_zero, List.getD_cons_succ, List.getD_nil] at h
    split at h
    · rename_i hk
      simp only [Bool.and_eq_true] at hk
      cases h
      exact f_lt x y hk.1 hk.2
    · cases h
  · rw [if_neg hn] at h
    cases h
theorem f_le (x y : Int) (h0 : validE (E5.elemOf cI) x = true) (h1 : validE (E5.elemOf cI) y = true) : fine cB (valF (⟨#[108, 101]⟩ : ByteArray) x y 0) := by
  rw [show E5.elemOf cI = cI by kernel_rfl] at h0
  have g0 := vI.1 h0
  rw [show E5.elemOf cI = cI by kernel_rfl] at h1
  have g1 := vI.1 h1
  refine fine_b ?_
  exact bit (decide (x ≤ y))
theorem k_le (zs : List Int) (v : Int) (h : pApply (⟨#[108, 101]⟩ : ByteArray) zs = some (v, true)) : ∃ ts t, ref17_Types (⟨#[108, 101]⟩ : ByteArray) = some (ts, t, true) ∧ fine t v := by
  refine ⟨_, _, (show ref17_Types (⟨#[108, 101]⟩ : ByteArray) = some ([cI, cI], cB, true) by kernel_rfl), ?_⟩
  unfold pApply at h
  rw [show (findR (⟨#[108, 101]⟩ : ByteArray)).isSome = true by kernel_rfl, if_pos rfl, show rowF (⟨#[108, 101]⟩ : ByteArray) = ⟨(⟨#[108, 101]⟩ : ByteArray), cI, cI, cE, cB⟩ by kernel_rfl, show cntE ⟨(⟨#[108, 101]⟩ : ByteArray), cI, cI, cE, cB⟩ = 2 by kernel_rfl] at h
  by_cases hn : zs.length = 2
  · obtain ⟨x, y, rfl⟩ : ∃ x y, zs = [x, y] := by
      match zs, hn with
      | [x, y], _ => exact ⟨x, y, rfl⟩
    rw [if_pos (show [x, y].length = 2 from rfl)] at h
    simp only [List.zip_cons_cons, List.zip_nil_right, okA, List.all_cons, List.all_nil, Bool.and_true, List.getD_cons_zero, List.getD_cons_succ, List.getD_nil] at h
    split at h
    · rename_i hk
      simp only [Bool.and_eq_true] at hk
      cases h
      exact f_le x y hk.1 hk.2
    · cases h
  · rw [if_neg hn] at h
    cases h
theorem f_gt (x y : Int) (h0 : validE (E5.elemOf cI) x = true) (h1 : validE (E5.elemOf cI) y = true) : fine cB (valF (⟨#[103, 116]⟩ : ByteArray) x y 0) := by
  rw [show E5.elemOf cI = cI by kernel_rfl] at h0
  have g0 := vI.1 h0
  rw [show E5.elemOf cI = cI by kernel_rfl] at h1
  have g1 := vI.1 h1
  refine fine_b ?_
  exact bit (decide (y < x))
theorem k_gt (zs : List Int) (v : Int) (h : pApply (⟨#[103, 116]⟩ : ByteArray) zs = some (v, true)) : ∃ ts t, ref17_Types (⟨#[103, 116]⟩ : ByteArray) = some (ts, t, true) ∧ fine t v := by
  refine ⟨_, _, (show ref17_Types (⟨#[103, 116]⟩ : ByteArray) = some ([cI, cI], cB, true) by kernel_rfl), ?_⟩
  unfold pApply at h
  rw [show (findR (⟨#[103, 116]⟩ : ByteArray)).isSome = true by kernel_rfl, if_pos rfl, show rowF (⟨#[103, 116]⟩ : ByteArray) = ⟨(⟨#[103, 116]⟩ : ByteArray), cI, cI, cE, cB⟩ by kernel_rfl, show cntE ⟨(⟨#[103, 116]⟩ : ByteArray), cI, cI, cE, cB⟩ = 2 by kernel_rfl] at h
  by_cases hn : zs.length = 2
  · obtain ⟨x, y, rfl⟩ : ∃ x y, zs = [x, y] := by
      match zs, hn with
      | [x, y], _ => exact ⟨x, y, rfl⟩
    rw [if_pos (show [x, y].length = 2 from rfl)] at h
    simp only [List.zip_cons_cons, List.zip_nil_right, okA, List.all_cons, List.all_nil, Bool.and_true, List.getD_cons_zero, List.getD_cons_succ, List.getD_nil] at h
    split at h
    · rename_i hk
      simp only [Bool.and_eq_true] at hk
      cases h
      exact f_gt x y hk.1 hk.2
    · cases h
  · rw [if_neg hn] at h
    cases h
theorem f_ge (x y : Int) (h0 : validE (E5.elemOf cI) x = true) (h1 : validE (E5.elemOf cI) y = true) : fine cB (valF (⟨#[103, 101]⟩ : ByteArray) x y 0) := by
  rw [show E5.elemOf cI = cI by kernel_rfl] at h0
  have g0 := vI.1 h0
  rw [show E5.elemOf cI = cI by kernel_rfl] at h1
  have g1 := vI.1 h1
  refine fine_b ?_
  exact bit (decide (y ≤ x))
theorem k_ge (zs : List Int) (v : Int) (h : pApply (⟨#[103, 101]⟩ : ByteArray) zs = some (v, true)) : ∃ ts t, ref17_Types (⟨#[103, 101]⟩ : ByteArray) = some (ts, t, true) ∧ fine t v := by
  refine ⟨_, _, (show ref17_Types (⟨#[103, 101]⟩ : ByteArray) = some ([cI, cI], cB, true) by kernel_rfl), ?_⟩
  unfold pApply at h
  rw [show (findR (⟨#[103, 101]⟩ : ByteArray)).isSome = true by kernel_rfl, if_pos rfl, show rowF (⟨#[103, 101]⟩ : ByteArray) = ⟨(⟨#[103, 101]⟩ : ByteArray), cI, cI, cE, cB⟩ by kernel_rfl, show cntE ⟨(⟨#[103, 101]⟩ : ByteArray), cI, cI, cE, cB⟩ = 2 by kernel_rfl] at h
  by_cases hn : zs.length = 2
  · obtain ⟨x, y, rfl⟩ : ∃ x y, zs = [x, y] := by
      match zs, hn with
      | [x, y], _ => exact ⟨x, y, rfl⟩
    rw [if_pos (show [x, y].length = 2 from rfl)] at h
    simp only [List.zip_cons_cons, List.zip_nil_right, okA, List.all_cons, List.all_nil, Bool.and_true, List.getD_cons_zero, List.getD_cons_succ, List.getD_nil] at h
    split at h
    · rename_i hk
      simp only [Bool.and_eq_true] at hk
      cases h
      exact f_ge x y hk.1 hk.2
    · cases h
  · rw [if_neg hn] at h
    cases h
theorem f_eq (x y : Int) (h0 : validE (E5.elemOf cA) x = true) (h1 : validE (E5.elemOf cA) y = true) : fine cB (valF (⟨#[101, 113]⟩ : ByteArray) x y 0) := by
  rw [show E5.elemOf cA = cI by kernel_rfl] at h0
  have g0 := vI.1 h0
  rw [show E5.elemOf cA = cI by kernel_rfl] at h1
  have g1 := vI.1 h1
  refine fine_b ?_
  exact bit ((x == y))
theorem k_eq (zs : List Int) (v : Int) (h : pApply (⟨#[101, 113]⟩ : ByteArray) zs = some (v, true)) : ∃ ts t, ref17_Types (⟨#[101, 113]⟩ : ByteArray) = some (ts, t, true) ∧ fine t v := by
  refine ⟨_, _, (show ref17_Types (⟨#[101, 113]⟩ : ByteArray) = some ([cA, cA], cB, true) by kernel_rfl), ?_⟩
  unfold pApply at h
  rw [show (findR (⟨#[101, 113]⟩ : ByteArray)).isSome = true by kernel_rfl, if_pos rfl, show rowF (⟨#[101, 113]⟩ : ByteArray) = ⟨(⟨#[101, 113]⟩ : ByteArray), cA, cA, cE, cB⟩ by kernel_rfl, show cntE ⟨(⟨#[101, 113]⟩ : ByteArray), cA, cA, cE, cB⟩ = 2 by kernel_rfl] at h
  by_cases hn : zs.length = 2
  · obtain ⟨x, y, rfl⟩ : ∃ x y, zs = [x, y] := by
      match zs, hn with
      | [x, y], _ => exact ⟨x, y, rfl⟩
    rw [if_pos (show [x, y].length = 2 from rfl)] at h
    simp only [List.zip_cons_cons, List.zip_nil_right, okA, List.all_cons, List.all_nil, Bool.and_true, List.getD_cons_zero, List.getD_cons_succ, List.getD_nil] at h
    split at h
    · rename_i hk
      simp only [Bool.and_eq_true] at hk
      cases h
      exact f_eq x y hk.1 hk.2
    · cases h
  · rw [if_neg hn] at h
    cases h
theorem f_ne (x y : Int) (h0 : validE (E5.elemOf cA) x = true) (h1 : validE (E5.elemOf cA) y = true) : fine cB (valF (⟨#[110, 101]⟩ : ByteArray) x y 0) := by
  rw [show E5.elemOf cA = cI by kernel_rfl] at h0
  have g0 := vI.1 h0
  rw [show E5.elemOf cA = cI by kernel_rfl] at h1
  have g1 := vI.1 h1
  refine fine_b ?_
  exact bit ((x != y))
theorem k_ne (zs : List Int) (v : Int) (h : pApply (⟨#[110, 101]⟩ : ByteArray) zs = some (v, true)) : ∃ ts t, ref17_Types (⟨#[110, 101]⟩ : ByteArray) = some (ts, t, true) ∧ fine t v := by
  refine ⟨_, _, (show ref17_Types (⟨#[110, 101]⟩ : ByteArray) = some ([cA, cA], cB, true) by kernel_rfl), ?_⟩
  unfold pApply at h
  rw [show (findR (⟨#[110, 101]⟩ : ByteArray)).isSome = true by kernel_rfl, if_pos rfl, show rowF (⟨#[110, 101]⟩ : ByteArray) = ⟨(⟨#[110, 101]⟩ : ByteArray), cA, cA, cE, cB⟩ by kernel_rfl, show cntE ⟨(⟨#[110, 101]⟩ : ByteArray), cA, cA, cE, cB⟩ = 2 by kernel_rfl] at h
  by_cases hn : zs.length = 2
  · obtain ⟨x, y, rfl⟩ : ∃ x y, zs = [x, y] := by
      match zs, hn with
      | [x, y], _ => exact ⟨x, y, rfl⟩
    rw [if_pos (show [x, y].length = 2 from rfl)] at h
    simp only [List.zip_cons_cons, List.zip_nil_right, okA, List.all_cons, List.all_nil, Bool.and_true, List.getD_cons_zero, List.getD_cons_succ, List.getD_nil] at h
    split at h
    · rename_i hk
      simp only [Bool.and_eq_true] at hk
      cases h
      exact f_ne x y hk.1 hk.2
    · cases h
  · rw [if_neg hn] at h
    cases h
theorem f_and (x y : Int) (h0 : validE (E5.elemOf cB) x = true) (h1 : validE (E5.elemOf cB) y = true) : fine cB (valF (⟨#[97, 110, 100]⟩ : ByteArray) x y 0) := by
  rw [show E5.elemOf cB = cB by kernel_rfl] at h0
  have g0 := vB.1 h0
  rw [show E5.elemOf cB = cB by kernel_rfl] at h1
  have g1 := vB.1 h1
  refine fine_b ?_
  rcases g0 with rfl | rfl <;> rcases g1 with rfl | rfl <;> decide
theorem k_and (zs : List Int) (v : Int) (h : pApply (⟨#[97, 110, 100]⟩ : ByteArray) zs = some (v, true)) : ∃ ts t, ref17_Types (⟨#[97, 110, 100]⟩ : ByteArray) = some (ts, t, true) ∧ fine t v := by
  refine ⟨_, _, (show ref17_Types (⟨#[97, 110, 100]⟩ : ByteArray) = some ([cB, cB], cB, true) by kernel_rfl), ?_⟩
  unfold pApply at h
  rw [show (findR (⟨#[97, 110, 100]⟩ : ByteArray)).isSome = true by kernel_rfl, if_pos rfl, show rowF (⟨#[97, 110, 100]⟩ : ByteArray) = ⟨(⟨#[97, 110, 100]⟩ : ByteArray), cB, cB, cE, cB⟩ by kernel_rfl, show cntE ⟨(⟨#[97, 110, 100]⟩ : ByteArray), cB, cB, cE, cB⟩ = 2 by kernel_rfl] at h
  by_cases hn : zs.length = 2
  · obtain ⟨x, y, rfl⟩ : ∃ x y, zs = [x, y] := by
      match zs, hn with
      | [x, y], _ => exact ⟨x, y, rfl⟩
    rw [if_pos (show [x, y].length = 2 from rfl)] at h
    simp only [List.zip_cons_cons, List.zip_nil_right, okA, List.all_cons, List.all_nil, Bool.and_true, List.getD_cons_zero, List.getD_cons_succ, List.getD_nil] at h
    split at h
    · rename_i hk
      simp only [Bool.and_eq_true] at hk
      cases h
      exact f_and x y hk.1 hk.2
    · cases h
  · rw [if_neg hn] at h
    cases h
theorem f_or (x y : Int) (h0 : validE (E5.elemOf cB) x = true) (h1 : validE (E5.elemOf cB) y = true) : fine cB (valF (⟨#[111, 114]⟩ : ByteArray) x y 0) := by
  rw [show E5.elemOf cB = cB by kernel_rfl] at h0
  have g0 := vB.1 h0
  rw [show E5.elemOf cB = cB by kernel_rfl] at h1
  have g1 := vB.1 h1
  refine fine_b ?_
  rcases g0 with rfl | rfl <;> rcases g1 with rfl | rfl <;> decide
theorem k_or (zs : List Int) (v : Int) (h : pApply (⟨#[111, 114]⟩ : ByteArray) zs = some (v, true)) : ∃ ts t, ref17_Types (⟨#[111, 114]⟩ : ByteArray) = some (ts, t, true) ∧ fine t v := by
  refine ⟨_, _, (show ref17_Types (⟨#[111, 114]⟩ : ByteArray) = some ([cB, cB], cB, true) by kernel_rfl), ?_⟩
  unfold pApply at h
  rw [show (findR (⟨#[111, 114]⟩ : ByteArray)).isSome = true by kernel_rfl, if_pos rfl, show rowF (⟨#[111, 114]⟩ : ByteArray) = ⟨(⟨#[111, 114]⟩ : ByteArray), cB, cB, cE, cB⟩ by kernel_rfl, show cntE ⟨(⟨#[111, 114]⟩ : ByteArray), cB, cB, cE, cB⟩ = 2 by kernel_rfl] at h
  by_cases hn : zs.length = 2
  · obtain ⟨x, y, rfl⟩ : ∃ x y, zs = [x, y] := by
      match zs, hn with
      | [x, y], _ => exact ⟨x, y, rfl⟩
    rw [if_pos (show [x, y].length = 2 from rfl)] at h
    simp only [List.zip_cons_cons, List.zip_nil_right, okA, List.all_cons, List.all_nil, Bool.and_true, List.getD_cons_zero, List.getD_cons_succ, List.getD_nil] at h
    split at h
    · rename_i hk
      simp only [Bool.and_eq_true] at hk
      cases h
      exact f_or x y hk.1 hk.2
    · cases h
  · rw [if_neg hn] at h
    cases h
theorem f_xor (x y : Int) (h0 : validE (E5.elemOf cB) x = true) (h1 : validE (E5.elemOf cB) y = true) : fine cB (valF (⟨#[120, 111, 114]⟩ : ByteArray) x y 0) := by
  rw [show E5.elemOf cB = cB by kernel_rfl] at h0
  have g0 := vB.1 h0
  rw [show E5.elemOf cB = cB by kernel_rfl] at h1
  have g1 := vB.1 h1
  refine fine_b ?_
  exact bit ((x != y))
theorem k_xor (zs : List Int) (v : Int) (h : pApply (⟨#[120, 111, 114]⟩ : ByteArray) zs = some (v, true)) : ∃ ts t, ref17_Types (⟨#[120, 111, 114]⟩ : ByteArray) = some (ts, t, true) ∧ fine t v := by
  refine ⟨_, _, (show ref17_Types (⟨#[120, 111, 114]⟩ : ByteArray) = some ([cB, cB], cB, true) by kernel_rfl), ?_⟩
  unfold pApply at h
  rw [show (findR (⟨#[120, 111, 114]⟩ : ByteArray)).isSome = true by kernel_rfl, if_pos rfl, show rowF (⟨#[120, 111, 114]⟩ : ByteArray) = ⟨(⟨#[120, 111, 114]⟩ : ByteArray), cB, cB, cE, cB⟩ by kernel_rfl, show cntE ⟨(⟨#[120, 111, 114]⟩ : ByteArray), cB, cB, cE, cB⟩ = 2 by kernel_rfl] at h
  by_cases hn : zs.length = 2
  · obtain ⟨x, y, rfl⟩ : ∃ x y, zs = [x, y] := by
      match zs, hn with
      | [x, y], _ => exact ⟨x, y, rfl⟩
    rw [if_pos (show [x, y].length = 2 from rfl)] at h
    simp only [List.zip_cons_cons, List.zip_nil_right, okA, List.all_cons, List.all_nil, Bool.and_true, List.getD_cons_zero, List.getD_cons_succ, List.getD_nil] at h
    split at h
    · rename_i hk
      simp only [Bool.and_eq_true] at hk
      cases h
      exact f_xor x y hk.1 hk.2
    · cases h
  · rw [if_neg hn] at h
    cases h
theorem f_not (x : Int) (h0 : validE (E5.elemOf cB) x = true) : fine cB (valF (⟨#[110, 111, 116]⟩ : ByteArray) x 0 0) := by
  rw [show E5.elemOf cB = cB by kernel_rfl] at h0
  have g0 := vB.1 h0
  refine fine_b ?_
  exact bit ((x == 0))
theorem k_not (zs : List Int) (v : Int) (h : pApply (⟨#[110, 111, 116]⟩ : ByteArray) zs = some (v, true)) : ∃ ts t, ref17_Types (⟨#[110, 111, 116]⟩ : ByteArray) = some (ts, t, true) ∧ fine t v := by
  refine ⟨_, _, (show ref17_Types (⟨#[110, 111, 116]⟩ : ByteArray) = some ([cB], cB, true) by kernel_rfl), ?_⟩
  unfold pApply at h
  rw [show (findR (⟨#[110, 111, 116]⟩ : ByteArray)).isSome = true by kernel_rfl, if_pos rfl, show rowF (⟨#[110, 111, 116]⟩ : ByteArray) = ⟨(⟨#[110, 111, 116]⟩ : ByteArray), cB, cE, cE, cB⟩ by kernel_rfl, show cntE ⟨(⟨#[110, 111, 116]⟩ : ByteArray), cB, cE, cE, cB⟩ = 1 by kernel_rfl] at h
  by_cases hn : zs.length = 1
  · obtain ⟨x, rfl⟩ : ∃ x, zs = [x] := by
      match zs, hn with
      | [x], _ => exact ⟨x, rfl⟩
    rw [if_pos (show [x].length = 1 from rfl)] at h
    simp only [List.zip_cons_cons, List.zip_nil_right, okA, List.all_cons, List.all_nil, Bool.and_true, List.getD_cons_zero, List.getD_cons_succ, List.getD_nil] at h
    split at h
    · rename_i hk
      cases h
      exact f_not x hk
    · cases h
  · rw [if_neg hn] at h
    cases h
theorem f_select (x y z : Int) (h0 : validE (E5.elemOf cB) x = true) (h1 : validE (E5.elemOf cA) y = true) (h2 : validE (E5.elemOf cA) z = true) : fine cA (valF (⟨#[115, 101, 108, 101, 99, 116]⟩ : ByteArray) x y z) := by
  rw [show E5.elemOf cB = cB by kernel_rfl] at h0
  have g0 := vB.1 h0
  rw [show E5.elemOf cA = cI by kernel_rfl] at h1
  have g1 := vI.1 h1
  rw [show E5.elemOf cA = cI by kernel_rfl] at h2
  have g2 := vI.1 h2
  have e : valF (⟨#[115, 101, 108, 101, 99, 116]⟩ : ByteArray) x y z = if (x == 1) = true then y else z := by
    show (if (x == 1) = true then some y else some z : Option Int).getD 0 = _
    split <;> rfl
  rw [e]
  refine ⟨vI.2 ?_, fun e => by cases e⟩
  split
  · exact g1
  · exact g2
theorem k_select (zs : List Int) (v : Int) (h : pApply (⟨#[115, 101, 108, 101, 99, 116]⟩ : ByteArray) zs = some (v, true)) : ∃ ts t, ref17_Types (⟨#[115, 101, 108, 101, 99, 116]⟩ : ByteArray) = some (ts, t, true) ∧ fine t v := by
  refine ⟨_, _, (show ref17_Types (⟨#[115, 101, 108, 101, 99, 116]⟩ : ByteArray) = some ([cB, cA, cA], cA, true) by kernel_rfl), ?_⟩
  unfold pApply at h
  rw [show (findR (⟨#[115, 101, 108, 101, 99, 116]⟩ : ByteArray)).isSome = true by kernel_rfl, if_pos rfl, show rowF (⟨#[115, 101, 108, 101, 99, 116]⟩ : ByteArray) = ⟨(⟨#[115, 101, 108, 101, 99, 116]⟩ : ByteArray), cB, cA, cA, cA⟩ by kernel_rfl, show cntE ⟨(⟨#[115, 101, 108, 101, 99, 116]⟩ : ByteArray), cB, cA, cA, cA⟩ = 3 by kernel_rfl] at h
  by_cases hn : zs.length = 3
  · obtain ⟨x, y, z, rfl⟩ : ∃ x y z, zs = [x, y, z] := by
      match zs, hn with
      | [x, y, z], _ => exact ⟨x, y, z, rfl⟩
    rw [if_pos (show [x, y, z].length = 3 from rfl)] at h
    simp only [List.zip_cons_cons, List.zip_nil_right, okA, List.all_cons, List.all_nil, Bool.and_true, List.getD_cons_zero, List.getD_cons_succ, List.getD_nil] at h
    split at h
    · rename_i hk
      simp only [Bool.and_eq_true] at hk
      cases h
      exact f_select x y z hk.1 hk.2.1 hk.2.2
    · cases h
  · rw [if_neg hn] at h
    cases h
theorem f_toint (x : Int) (h0 : validE (E5.elemOf cB) x = true) : fine cI (valF (⟨#[116, 111, 105, 110, 116]⟩ : ByteArray) x 0 0) := by
  rw [show E5.elemOf cB = cB by kernel_rfl] at h0
  have g0 := vB.1 h0
  refine fine_i ?_
  show -2147483648 ≤ x ∧ x ≤ 2147483647
  omega
theorem k_toint (zs : List Int) (v : Int) (h : pApply (⟨#[116, 111, 105, 110, 116]⟩ : ByteArray) zs = some (v, true)) : ∃ ts t, ref17_Types (⟨#[116, 111, 105, 110, 116]⟩ : ByteArray) = some (ts, t, true) ∧ fine t v := by
  refine ⟨_, _, (show ref17_Types (⟨#[116, 111, 105, 110, 116]⟩ : ByteArray) = some ([cB], cI, true) by kernel_rfl), ?_⟩
  unfold pApply at h
  rw [show (findR (⟨#[116, 111, 105, 110, 116]⟩ : ByteArray)).isSome = true by kernel_rfl, if_pos rfl, show rowF (⟨#[116, 111, 105, 110, 116]⟩ : ByteArray) = ⟨(⟨#[116, 111, 105, 110, 116]⟩ : ByteArray), cB, cE, cE, cI⟩ by kernel_rfl, show cntE ⟨(⟨#[116, 111, 105, 110, 116]⟩ : ByteArray), cB, cE, cE, cI⟩ = 1 by kernel_rfl] at h
  by_cases hn : zs.length = 1
  · obtain ⟨x, rfl⟩ : ∃ x, zs = [x] := by
      match zs, hn with
      | [x], _ => exact ⟨x, rfl⟩
    rw [if_pos (show [x].length = 1 from rfl)] at h
    simp only [List.zip_cons_cons, List.zip_nil_right, okA, List.all_cons, List.all_nil, Bool.and_true, List.getD_cons_zero, List.getD_cons_succ, List.getD_nil] at h
    split at h
    · rename_i hk
      cases h
      exact f_toint x hk
    · cases h
  · rw [if_neg hn] at h
    cases h
theorem keep (op : ByteArray) (zs : List Int) (v : Int) (h : pApply op zs = some (v, true)) : ∃ ts t, ref17_Types op = some (ts, t, true) ∧ fine t v := by
  rcases op_cases op with h' | rfl | rfl | rfl | rfl | rfl | rfl | rfl | rfl | rfl | rfl | rfl | rfl | rfl | rfl | rfl | rfl | rfl | rfl | rfl | rfl | rfl | rfl
  · have e : findR op = none := List.find?_eq_none.2 fun r hr => by rw [h' r hr]; simp
    unfold pApply at h
    rw [e] at h
    cases h
  · exact k_add zs v h
  · exact k_sub zs v h
  · exact k_mul zs v h
  · exact k_div zs v h
  · exact k_mod zs v h
  · exact k_min zs v h
  · exact k_max zs v h
  · exact k_neg zs v h
  · exact k_abs zs v h
  · exact k_sign zs v h
  · exact k_lt zs v h
  · exact k_le zs v h
  · exact k_gt zs v h
  · exact k_ge zs v h
  · exact k_eq zs v h
  · exact k_ne zs v h
  · exact k_and zs v h
  · exact k_or zs v h
  · exact k_xor zs v h
  · exact k_not zs v h
  · exact k_select zs v h
  · exact k_toint zs v h
theorem pApply_some (op : ByteArray) (zs : List Int) : ∃ r, pApply op zs = some r := by
  unfold pApply
  split
  · split
    · exact ⟨_, rfl⟩
    · exact ⟨_, rfl⟩
  · exact ⟨_, rfl⟩
theorem types_some (op : ByteArray) : ∃ r, ref17_Types op = some r := by
  refine Option.isSome_iff_exists.1 ?_
  unfold ref17_Types
  repeat' (first | rfl | refine ite_some ?_ ?_)
theorem evalid_is (e : ByteArray) (n : Int) : element_Valid e n = some (validE e n) := by
  unfold element_Valid validE
  rw [eqB_is, eqB_is]
  cases h1 : eqB e (⟨#[105, 110, 116]⟩ : ByteArray) with
  | true => cases decide (-2147483648 ≤ n) <;> simp
  | false =>
    cases h2 : eqB e (⟨#[98, 111, 111, 108]⟩ : ByteArray) with
    | true => cases h3 : n == 0 <;> simp
    | false => simp
def awakeO : Option Bool := some true
theorem awakeO_ok {r : Bool} (hr : awakeO = some r) : Meets Tryd.prog 10 [] (.c (.bool r)) := by
  cases hr
  exact awake

end Go.Proofs.YtdhpmkaggojgbaaDoor.E7
