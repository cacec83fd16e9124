/- The texts of digests: the walk of 'Parse' at the document's example. -/
import Derived.Test.YtpgkgagmdjhojaaDigPrint
import Derived.Test.YtpgkgagmdjhojaaLib
namespace Go.Proofs.Ytpgkgagmdjhojaa.DigParse
set_option linter.unusedVariables false
open Go.RowKit Go.Proofs.Ytpgkgagmdjhojaa.DigMul Go.Proofs.Ytpgkgagmdjhojaa.DigExt

theorem index_of (c i : Int) (w : World) (h : (Lib.indexByte [48, 49, 50, 51, 52, 53, 54, 55, 56, 57, 97, 98, 99, 100, 101, 102] c.toNat.toUInt8 : Int) = i) :
    Calls Try.prog 36 #[.string ⟨#[48, 49, 50, 51, 52, 53, 54, 55, 56, 57, 97, 98, 99, 100, 101, 102]⟩, .int .u8 c] w fun e w' => e = .returned (.int .i64 i) ∧ w = w' :=
  (strings_IndexByte _ c w).mono fun e w' ⟨he, hw⟩ => ⟨by rw [he, ← h], hw.symm⟩

set_option maxRecDepth 100000 in
set_option maxHeartbeats 4000000 in
theorem parse_ex (w : World) :
    Calls Try.prog 26 #[.string ⟨#[48, 48, 48, 48, 48, 48, 48, 48, 48, 48, 48, 102, 52, 50, 52, 53]⟩] w fun e w' => e = .returned (.tuple #[.int .i64 1000005, .int .i64 0]) ∧ Below w.heap.size w w' := by
  have h0 := fun w => index_of 48 0 w (by decide)
  have h2 := fun w => index_of 50 2 w (by decide)
  have h4 := fun w => index_of 52 4 w (by decide)
  have h5 := fun w => index_of 53 5 w (by decide)
  have hf := fun w => index_of 102 15 w (by decide)
  have H0 := Lib.hid h0
  have H2 := Lib.hid h2
  have H4 := Lib.hid h4
  have H5 := Lib.hid h5
  have HF := Lib.hid hf
  clear h0 h2 h4 h5 hf
  have o1 : bits .or .u64 0 0 = 0 := by decide
  have o2 : bits .or .u64 0 15 = 15 := by decide
  have o3 : bits .or .u64 240 4 = 244 := by decide
  have o4 : bits .or .u64 3904 2 = 3906 := by decide
  have o5 : bits .or .u64 62496 4 = 62500 := by decide
  have o6 : bits .or .u64 1000000 5 = 1000005 := by decide
  go_enter Try.func26, Try.ntmps26
  go_wp2_with (fail)
  refine wp_loop_rounds 17 ?_
  iterate 11
    rw [rounds_succ]
    go_wp2_with (fail)
    refine (H0.out _).mono ?_
    rintro e w' ⟨rfl, rfl⟩
    go_wp2_with (fail)
  rw [rounds_succ]
  go_wp2_with (fail)
  refine (HF.out _).mono ?_
  rintro e w' ⟨rfl, rfl⟩
  go_wp2_with (fail)
  rw [rounds_succ]
  go_wp2_with (fail)
  refine (H4.out _).mono ?_
  rintro e w' ⟨rfl, rfl⟩
  go_wp2_with (fail)
  rw [rounds_succ]
  go_wp2_with (fail)
  refine (H2.out _).mono ?_
  rintro e w' ⟨rfl, rfl⟩
  go_wp2_with (fail)
  rw [rounds_succ]
  go_wp2_with (fail)
  refine (H4.out _).mono ?_
  rintro e w' ⟨rfl, rfl⟩
  go_wp2_with (fail)
  rw [rounds_succ]
  go_wp2_with (fail)
  refine (H5.out _).mono ?_
  rintro e w' ⟨rfl, rfl⟩
  go_wp2_with (fail)
  rw [rounds_succ]
  go_wp2
  go_ret2
  exact ⟨rfl, Below.refl _ _⟩

end Go.Proofs.Ytpgkgagmdjhojaa.DigParse
