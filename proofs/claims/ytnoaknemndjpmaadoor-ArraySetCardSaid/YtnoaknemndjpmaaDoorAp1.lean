/- internal/strconv.small on one digit. -/
import Derived.Test.YtnoaknemndjpmaaDoorA1
namespace Go.Proofs.YtnoaknemndjpmaaDoor.Ap1
open Go Go.Proofs.YtnoaknemndjpmaaDoor.Eng Go.Proofs.YtnoaknemndjpmaaDoor Go.RowKit Go.Proofs.YtnoaknemndjpmaaDoor.A1
set_option linter.unusedSimpArgs false
set_option linter.unusedVariables false
set_option maxRecDepth 100000

/-- The digit of a small number. -/
theorem small (n : Int) (h0 : 0 ≤ n) (h1 : n < 10) : Meets Tryd.prog 74 [I n] (.c (.string (ByteArray.extract ⟨#[48, 49, 50, 51, 52, 53, 54, 55, 56, 57, 97, 98, 99, 100, 101, 102, 103, 104, 105, 106, 107, 108, 109, 110, 111, 112, 113, 114, 115, 116, 117, 118, 119, 120, 121, 122]⟩ n.toNat (n + 1).toNat))) := by
  refine meets_of (X := false) Ty.mixed Tryd.func74 (by kernel_rfl) rfl (by kernel_rfl) (by simp) ?_; rw [Tryd.ntmps74, Tryd.results74]
  simp only [awp_reg, awp_seq, awp_cond, awp_ret, seqQ_n, seqQ_r, awpOps_nil, awpOps_one, awpOp_is, putK_is, put_s, slot_is, retA_is, pureOp, apureO, sliceA_s, aev, cv, cvc, binK, elO_s, condA_t, toD_c, notExit, resA_nil, resA_tmp, oneA_1, argT, ↓reduceIte, Option.map_some, Option.map_none, Bool.and_true, Bool.true_and, Bool.and_self, true_and, and_true, and_self, reduceCtorEq, Nat.reduceEqDiff, decide_true, Ty.td9, h0, h1, wrap_in (x := n + 1) (by omega) (by omega)]
  refine ⟨by omega, ?_⟩
  show n + 1 ≤ (36 : Int)
  omega
end Go.Proofs.YtnoaknemndjpmaaDoor.Ap1
