/- The walks of the laws ElementWrap and ElementDivision. -/
import Derived.Test.YtdhpmkaggojgbaaDoorElemAwake
namespace Go.Proofs.YtdhpmkaggojgbaaDoor.ElemLaws
set_option linter.unusedVariables false
open Go.RowKit Go.Proofs.YtdhpmkaggojgbaaDoor.ElemTable Go.Proofs.YtdhpmkaggojgbaaDoor.ElemFind Go.Proofs.YtdhpmkaggojgbaaDoor.ElemApply Go.Proofs.YtdhpmkaggojgbaaDoor.ElemValue Go.Proofs.YtdhpmkaggojgbaaDoor.ElemGives Go.Proofs.YtdhpmkaggojgbaaDoor.ElemOps Go.Proofs.YtdhpmkaggojgbaaDoor.ElemAwake

theorem refWrap_any (n : Int) (w : World) : Calls Tryd.prog 25 #[.int .i64 n] w fun e w' => e = .returned (.int .i64 (wrap32 n)) ∧ w = w' := by
  have hw : wrap64 (wrap32 n) = wrap32 n := by unfold wrap64 wrap32; omega
  go_enter Tryd.func25, Tryd.ntmps25
  go_wp2
  go_ret
  refine ⟨?_, rfl⟩
  show Ending.returned (.int .i64 (wrap64 (wrap32 n))) = _
  rw [hw]

theorem refValid_int (n : Int) (w : World) (t : Bool) (h : (n < -2147483648 ∧ t = false) ∨ (2147483647 < n ∧ t = false) ∨ (-2147483648 ≤ n ∧ n ≤ 2147483647 ∧ t = true)) : Calls Tryd.prog 19 #[.string ⟨#[105, 110, 116]⟩, .int .i64 n] w fun e w' => e = .returned (.bool t) ∧ w = w' := by
  rcases h with ⟨h, rfl⟩ | ⟨h, rfl⟩ | ⟨h1, h2, rfl⟩
  all_goals
    go_enter Tryd.func19, Tryd.ntmps19
    go_wp2
    go_ret
    refine ⟨?_, rfl⟩
    first | rfl | (simp; omega) | go_goals

theorem wrap_twice (n : Int) : wrap32 (wrap32 n) = wrap32 n := by unfold wrap32; omega
theorem wrap_in (n : Int) : isI (wrap32 n) := by unfold wrap32 isI; omega
theorem wrap_id {n : Int} (h : isI n) : wrap32 n = n := by unfold isI at h; unfold wrap32; omega

set_option maxHeartbeats 2000000 in
theorem law_wrap_main (n k m : Int) (w : World) (t : Bool) (ht : Tab w) (hm : m = wrap32 n) (hk : -32768 ≤ k ∧ k ≤ 32767) (h : (n < -2147483648 ∧ t = false) ∨ (2147483647 < n ∧ t = false) ∨ (-2147483648 ≤ n ∧ n ≤ 2147483647 ∧ t = true)) (hn : t = false ∨ (t = true ∧ n = m)) :
    Calls Tryd.prog 9 #[.int .i64 n, .int .i16 k] w fun e w' => e = .returned (.bool true) ∧ Below w.heap.size w w' := by
  have HM := Lib.hid hm
  have h1 := wrap_twice n
  have h2 : isI m := hm ▸ wrap_in n
  have h3 : wrap32 (m + k * 4294967296) = m := by rw [hm]; unfold wrap32; omega
  rw [← hm] at h1
  have HV := Lib.hid (refValid_int n · t h)
  have H1 := Lib.hid (wrap_any n)
  have H2 := Lib.hid (refWrap_any n)
  have H3 := Lib.hid (wrap_any m)
  have H4 := Lib.hid (wrap_any (m + k * 4294967296))
  have H5 := Lib.hid (valid_int m · h2)
  rw [← hm] at H1 H2
  rw [h1] at H3
  rw [h3] at H4
  obtain ⟨i1, i2⟩ := h2
  obtain ⟨k1, k2⟩ := hk
  clear h1 h3 h hm
  rcases hn with rfl | ⟨rfl, rfl⟩
  all_goals
    go_enter Tryd.func9, Tryd.ntmps9
    go_wp2_with (fail)
    refine (awake_any _ ht).mono ?_
    rintro e w1 ⟨rfl, b1⟩
    have B1 := Lib.hid b1
    clear b1 ht
    go_wp2_with (fail)
    refine (H1.out _).mono ?_
    rintro e w' ⟨rfl, rfl⟩
    go_wp2_with (fail)
    refine (H2.out _).mono ?_
    rintro e w' ⟨rfl, rfl⟩
    go_wp2_with (fail)
    refine (H5.out _).mono ?_
    rintro e w' ⟨rfl, rfl⟩
    go_wp2_with (fail)
    refine (H3.out _).mono ?_
    rintro e w' ⟨rfl, rfl⟩
    go_wp2_with (fail)
    refine (HV.out _).mono ?_
    rintro e w' ⟨rfl, rfl⟩
    go_wp2_with (fail)
    refine (H4.out _).mono ?_
    rintro e w' ⟨rfl, rfl⟩
    go_wp2
    go_ret
    exact ⟨rfl, B1.out⟩

theorem law_wrap (w : World) (ht : Tab w) (n : Int) (hn : (Lit.int .i64 n).wf = true) (k : Int) (hk : (Lit.int .i16 k).wf = true) :
    Calls Tryd.prog 9 #[.int .i64 n, .int .i16 k] w fun e w' => e = .returned (.bool true) ∧ Below w.heap.size w w' := by
  have hk' : -32768 ≤ k ∧ k ≤ 32767 := by simpa [Lit.wf, IntKind.min, IntKind.max, IntKind.signed, IntKind.bits] using hk
  by_cases h1 : n < -2147483648
  · exact law_wrap_main n k _ w false ht rfl hk' (Or.inl ⟨h1, rfl⟩) (Or.inl rfl)
  · by_cases h2 : 2147483647 < n
    · exact law_wrap_main n k _ w false ht rfl hk' (Or.inr (Or.inl ⟨h2, rfl⟩)) (Or.inl rfl)
    · exact law_wrap_main n k _ w true ht rfl hk' (Or.inr (Or.inr ⟨by omega, by omega, rfl⟩)) (Or.inr ⟨rfl, (wrap_id ⟨by omega, by omega⟩).symm⟩)

end Go.Proofs.YtdhpmkaggojgbaaDoor.ElemLaws
