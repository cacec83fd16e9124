/- The texts of digests: the walk of 'Print'. -/
import Derived.Test.YtpgkgagmdjhojaaDigExt
import Derived.Laws.BytesArg
namespace Go.Proofs.Ytpgkgagmdjhojaa.DigPrint
set_option linter.unusedVariables false
open Go.RowKit Go.Proofs.Ytpgkgagmdjhojaa.DigMul Go.Proofs.Ytpgkgagmdjhojaa.DigExt

theorem mask15 (n : Int) : bits .and .i64 n 15 = n % 16 := Bits.i64_mask 4 (by omega) n

set_option maxRecDepth 100000 in
set_option maxHeartbeats 4000000 in
theorem print_ex (w : World) :
    Calls Try.prog 24 #[.int .i64 1000005] w fun e w' => e = .returned (.tuple #[.string ⟨#[48, 48, 48, 48, 48, 48, 48, 48, 48, 48, 48, 102, 52, 50, 52, 53]⟩, .int .i64 0]) ∧ Below w.heap.size w w' := by
  have HV : Hid (∀ w, Calls Try.prog 28 #[.int .i64 1000005] w fun e w' => e = .returned (.bool true) ∧ w = w') := Lib.hid fun w => valid_any 1000005 w
  have hmask := mask15
  have HCV : Hid (∀ W : World, (∀ i, i < 16 → W.cell? ⟨w.heap.size, 0 + i, none⟩ = some (.int .u8 (([48, 48, 48, 48, 48, 48, 48, 48, 48, 48, 48, 102, 52, 50, 52, 53] : List Int).getD i 0))) → (convert 22 9 (.slice (some ⟨w.heap.size, 0, none⟩) 16 16)).run Try.prog W = .ok (.string ⟨#[48, 48, 48, 48, 48, 48, 48, 48, 48, 48, 48, 102, 52, 50, 52, 53]⟩) W) :=
    Lib.hid fun W hc => run_convert_bytes_arg W 22 5 Try.underlying22 Try.underlying5 w.heap.size 0 16 16 [48, 48, 48, 48, 48, 48, 48, 48, 48, 48, 48, 102, 52, 50, 52, 53] rfl hc 9 Try.underlying9
  go_enter Try.func24, Try.ntmps24
  go_wp2_with (fail)
  refine (HV.out _).mono ?_
  rintro e w' ⟨rfl, rfl⟩
  go_wp2_with (fail)
  refine wp_loop_rounds 17 ?_
  iterate 16
    rw [rounds_succ]
    go_wp2
  rw [rounds_succ]
  go_wp2
  rw [HCV.out _ ?hcells]
  case hcells =>
    intro i hi
    obtain rfl | rfl | rfl | rfl | rfl | rfl | rfl | rfl | rfl | rfl | rfl | rfl | rfl | rfl | rfl | rfl : i = 0 ∨ i = 1 ∨ i = 2 ∨ i = 3 ∨ i = 4 ∨ i = 5 ∨ i = 6 ∨ i = 7 ∨ i = 8 ∨ i = 9 ∨ i = 10 ∨ i = 11 ∨ i = 12 ∨ i = 13 ∨ i = 14 ∨ i = 15 := by omega
    all_goals (simp [go_sem]; rfl)
  go_wp2
  go_ret2
  exact ⟨rfl, by go_grown⟩

end Go.Proofs.Ytpgkgagmdjhojaa.DigPrint
