/- What the walk asks of the types of this translation. -/
import Derived.Test.YtgjamefpphhobaaEng
import Derived.Test.YtgjamefpphhobaaBase
namespace Go.Proofs.Ytgjamefpphhobaa.Ty
open Go Go.Proofs.Ytgjamefpphhobaa.Eng
theorem td3 : td Try.prog 3 = some ⟨false, 1, none, [], none, (some [.int .i64 (0)]), 8, false, false, (some .i64), none, (some (.int .i64 (0))), false, false⟩ := by kernel_rfl
theorem td4 : td Try.prog 4 = some ⟨false, 1, none, [], none, (some [.bool false]), 1, true, false, none, none, (some (.bool false)), false, false⟩ := by kernel_rfl
theorem td9 : td Try.prog 9 = some ⟨false, 1, none, [], none, (some [.string ⟨#[]⟩]), 16, false, true, none, none, (some (.string ⟨#[]⟩)), false, false⟩ := by kernel_rfl
theorem td22 : td Try.prog 22 = some ⟨false, 1, (some 51), [], none, (some [.slice none 0 0]), 24, false, false, none, none, (some (.slice none 0 0)), false, false⟩ := by kernel_rfl
theorem td23 : td Try.prog 23 = some ⟨false, 1, (some 3), [], none, (some [.slice none 0 0]), 24, false, false, none, none, (some (.slice none 0 0)), false, false⟩ := by kernel_rfl
theorem td24 : td Try.prog 24 = some ⟨false, 1, (some 71), [], none, (some [.slice none 0 0]), 24, false, false, none, none, (some (.slice none 0 0)), false, false⟩ := by kernel_rfl
theorem td26 : td Try.prog 26 = some ⟨true, 2, none, [(0, 3), (1, 24)], none, (some [.int .i64 (0), .slice none 0 0]), 32, false, false, none, none, (some (.agg #[.int .i64 (0), .slice none 0 0])), false, true⟩ := by kernel_rfl
theorem td27 : td Try.prog 27 = some ⟨false, 1, (some 29), [], none, (some [.slice none 0 0]), 24, false, false, none, none, (some (.slice none 0 0)), false, false⟩ := by kernel_rfl
theorem td29 : td Try.prog 29 = some ⟨true, 5, none, [(0, 3), (1, 23), (2, 26), (4, 27)], none, (some [.int .i64 (0), .slice none 0 0, .int .i64 (0), .slice none 0 0, .slice none 0 0]), 88, false, false, none, none, (some (.agg #[.int .i64 (0), .slice none 0 0, .int .i64 (0), .slice none 0 0, .slice none 0 0])), false, true⟩ := by kernel_rfl
theorem td37 : td Try.prog 37 = some ⟨false, 1, (some 79), [], none, (some [.slice none 0 0]), 24, false, false, none, none, (some (.slice none 0 0)), false, false⟩ := by kernel_rfl
theorem td44 : td Try.prog 44 = some ⟨false, 1, (some 26), [], none, (some [.slice none 0 0]), 24, false, false, none, none, (some (.slice none 0 0)), false, false⟩ := by kernel_rfl
theorem td51 : td Try.prog 51 = some ⟨true, 3, none, [(0, 4), (1, 26)], none, (some [.bool false, .int .i64 (0), .slice none 0 0]), 40, false, false, none, none, (some (.agg #[.bool false, .int .i64 (0), .slice none 0 0])), false, true⟩ := by kernel_rfl
theorem td60 : td Try.prog 60 = some ⟨true, 10, none, [], (some (2, 29)), (some [.int .i64 (0), .slice none 0 0, .int .i64 (0), .slice none 0 0, .slice none 0 0, .int .i64 (0), .slice none 0 0, .int .i64 (0), .slice none 0 0, .slice none 0 0]), 176, false, false, none, none, (some (.agg #[.int .i64 (0), .slice none 0 0, .int .i64 (0), .slice none 0 0, .slice none 0 0, .int .i64 (0), .slice none 0 0, .int .i64 (0), .slice none 0 0, .slice none 0 0])), false, false⟩ := by kernel_rfl
theorem td71 : td Try.prog 71 = some ⟨true, 2, none, [(0, 9), (1, 3)], none, (some [.string ⟨#[]⟩, .int .i64 (0)]), 24, false, false, none, none, (some (.agg #[.string ⟨#[]⟩, .int .i64 (0)])), false, true⟩ := by kernel_rfl
theorem td79 : td Try.prog 79 = some ⟨true, 2, none, [(0, 9), (1, 3)], none, (some [.string ⟨#[]⟩, .int .i64 (0)]), 24, false, false, none, none, (some (.agg #[.string ⟨#[]⟩, .int .i64 (0)])), false, true⟩ := by kernel_rfl
theorem td100 : td Try.prog 100 = some ⟨true, 2, none, [(0, 3), (1, 3)], none, (some [.int .i64 (0), .int .i64 (0)]), 16, false, false, none, none, (some (.agg #[.int .i64 (0), .int .i64 (0)])), false, true⟩ := by kernel_rfl
theorem td101 : td Try.prog 101 = some ⟨false, 1, none, [], none, (some [.map none]), 8, false, false, none, (some (9, 100)), (some (.map none)), false, false⟩ := by kernel_rfl
theorem td105 : td Try.prog 105 = some ⟨false, 1, (some 9), [], none, (some [.slice none 0 0]), 24, false, false, none, none, (some (.slice none 0 0)), false, false⟩ := by kernel_rfl
theorem td123 : td Try.prog 123 = some ⟨false, 1, none, [], none, (some [.map none]), 8, false, false, none, (some (9, 3)), (some (.map none)), false, false⟩ := by kernel_rfl
theorem td125 : td Try.prog 125 = some ⟨true, 2, none, [(0, 3), (1, 123)], none, (some [.int .i64 (0), .map none]), 16, false, false, none, none, (some (.agg #[.int .i64 (0), .map none])), false, true⟩ := by kernel_rfl
theorem mixed : Try.prog.follows .mixedOrders = true := by kernel_rfl
end Go.Proofs.Ytgjamefpphhobaa.Ty
