/- What the walk asks of the types of this translation. -/
import Derived.Test.YtbmmemglkjeogaaEng
import Derived.Test.YtbmmemglkjeogaaBase
namespace Go.Proofs.Ytbmmemglkjeogaa.Ty
open Go Go.Proofs.Ytbmmemglkjeogaa.Eng
theorem td1 : td Try.prog 1 = some ⟨false, 1, none, [], none, (some [.nilFunc]), 8, false, false, none⟩ := by kernel_rfl
theorem td2 : td Try.prog 2 = some ⟨false, 1, none, [], none, (some [.int .i64 (0)]), 8, false, false, (some .i64)⟩ := by kernel_rfl
theorem td3 : td Try.prog 3 = some ⟨false, 1, none, [], none, (some [.int .i64 (0)]), 8, false, false, (some .i64)⟩ := by kernel_rfl
theorem td4 : td Try.prog 4 = some ⟨false, 1, none, [], none, (some [.bool false]), 1, true, false, none⟩ := by kernel_rfl
theorem td5 : td Try.prog 5 = some ⟨false, 1, none, [], none, (some [.int .u8 (0)]), 1, false, false, (some .u8)⟩ := by kernel_rfl
theorem td6 : td Try.prog 6 = some ⟨false, 1, none, [], none, (some [.int .u8 (0)]), 1, false, false, (some .u8)⟩ := by kernel_rfl
theorem td7 : td Try.prog 7 = some ⟨true, 4, none, [(0, 2), (1, 3), (2, 4), (3, 6)], none, (some [.int .i64 (0), .int .i64 (0), .bool false, .int .u8 (0)]), 24, false, false, none⟩ := by kernel_rfl
theorem td8 : td Try.prog 8 = some ⟨true, 4, none, [(0, 2), (1, 3), (2, 4), (3, 6)], none, (some [.int .i64 (0), .int .i64 (0), .bool false, .int .u8 (0)]), 24, false, false, none⟩ := by kernel_rfl
theorem td9 : td Try.prog 9 = some ⟨false, 1, none, [], none, (some [.string ⟨#[]⟩]), 16, false, true, none⟩ := by kernel_rfl
theorem td10 : td Try.prog 10 = some ⟨false, 1, none, [], none, (some [.string ⟨#[]⟩]), 16, false, true, none⟩ := by kernel_rfl
theorem td11 : td Try.prog 11 = some ⟨false, 1, none, [], none, (some [.string ⟨#[]⟩]), 16, false, true, none⟩ := by kernel_rfl
theorem td12 : td Try.prog 12 = some ⟨false, 1, none, [], none, (some [.int .u64 (0)]), 8, false, false, (some .u64)⟩ := by kernel_rfl
theorem td13 : td Try.prog 13 = some ⟨true, 2, none, [(0, 9), (1, 12)], none, (some [.string ⟨#[]⟩, .int .u64 (0)]), 24, false, false, none⟩ := by kernel_rfl
theorem td14 : td Try.prog 14 = some ⟨true, 2, none, [(0, 9), (1, 12)], none, (some [.string ⟨#[]⟩, .int .u64 (0)]), 24, false, false, none⟩ := by kernel_rfl
theorem td15 : td Try.prog 15 = some ⟨false, 1, none, [], none, (some [.pointer none]), 8, false, false, none⟩ := by kernel_rfl
theorem td16 : td Try.prog 16 = some ⟨false, 1, none, [], none, (some [.pointer none]), 8, false, false, none⟩ := by kernel_rfl
theorem td17 : td Try.prog 17 = some ⟨false, 1, none, [], none, (some [.pointer none]), 8, false, false, none⟩ := by kernel_rfl
theorem td18 : td Try.prog 18 = some ⟨true, 1, none, [(0, 17)], none, (some [.pointer none]), 8, false, false, none⟩ := by kernel_rfl
theorem td19 : td Try.prog 19 = some ⟨true, 1, none, [(0, 17)], none, (some [.pointer none]), 8, false, false, none⟩ := by kernel_rfl
theorem td20 : td Try.prog 20 = some ⟨false, 1, none, [], none, (some [.nilIface]), 16, false, false, none⟩ := by kernel_rfl
theorem td21 : td Try.prog 21 = some ⟨false, 1, none, [], none, (some [.int .i32 (0)]), 4, false, false, (some .i32)⟩ := by kernel_rfl
theorem td22 : td Try.prog 22 = some ⟨false, 1, (some 3), [], none, (some [.slice none 0 0]), 24, false, false, none⟩ := by kernel_rfl
theorem td23 : td Try.prog 23 = some ⟨true, 2, none, [(0, 22), (1, 3)], none, (some [.slice none 0 0, .int .i64 (0)]), 32, false, false, none⟩ := by kernel_rfl
theorem td24 : td Try.prog 24 = some ⟨true, 2, none, [(0, 22), (1, 3)], none, (some [.slice none 0 0, .int .i64 (0)]), 32, false, false, none⟩ := by kernel_rfl
theorem td25 : td Try.prog 25 = some ⟨false, 1, (some 29), [], none, (some [.slice none 0 0]), 24, false, false, none⟩ := by kernel_rfl
theorem td26 : td Try.prog 26 = some ⟨false, 1, none, [], none, (some [.nilFunc]), 8, false, false, none⟩ := by kernel_rfl
theorem td27 : td Try.prog 27 = some ⟨false, 1, none, [], none, (some [.nilFunc]), 8, false, false, none⟩ := by kernel_rfl
theorem td28 : td Try.prog 28 = some ⟨true, 3, none, [(0, 9), (1, 22), (2, 22)], none, (some [.string ⟨#[]⟩, .slice none 0 0, .slice none 0 0]), 64, false, false, none⟩ := by kernel_rfl
theorem td29 : td Try.prog 29 = some ⟨true, 3, none, [(0, 9), (1, 22), (2, 22)], none, (some [.string ⟨#[]⟩, .slice none 0 0, .slice none 0 0]), 64, false, false, none⟩ := by kernel_rfl
theorem td30 : td Try.prog 30 = some ⟨false, 1, none, [], none, (some [.int .i64 (0)]), 8, false, false, (some .i64)⟩ := by kernel_rfl
theorem td32 : td Try.prog 32 = some ⟨false, 1, none, [], none, (some [.nilFunc]), 8, false, false, none⟩ := by kernel_rfl
theorem td33 : td Try.prog 33 = some ⟨false, 1, none, [], none, (some [.nilFunc]), 8, false, false, none⟩ := by kernel_rfl
theorem td34 : td Try.prog 34 = some ⟨false, 1, (some 9), [], none, (some [.slice none 0 0]), 24, false, false, none⟩ := by kernel_rfl
theorem td35 : td Try.prog 35 = some ⟨false, 1, (some 22), [], none, (some [.slice none 0 0]), 24, false, false, none⟩ := by kernel_rfl
theorem td37 : td Try.prog 37 = some ⟨false, 1, none, [], none, (some [.nilFunc]), 8, false, false, none⟩ := by kernel_rfl
theorem td39 : td Try.prog 39 = some ⟨false, 1, none, [], none, (some [.nilFunc]), 8, false, false, none⟩ := by kernel_rfl
theorem td40 : td Try.prog 40 = some ⟨false, 1, none, [], none, (some [.nilFunc]), 8, false, false, none⟩ := by kernel_rfl
theorem td41 : td Try.prog 41 = some ⟨false, 1, none, [], none, (some [.nilFunc]), 8, false, false, none⟩ := by kernel_rfl
theorem td43 : td Try.prog 43 = some ⟨false, 1, none, [], none, (some [.nilFunc]), 8, false, false, none⟩ := by kernel_rfl
theorem td44 : td Try.prog 44 = some ⟨false, 1, none, [], none, (some [.nilFunc]), 8, false, false, none⟩ := by kernel_rfl
theorem td45 : td Try.prog 45 = some ⟨false, 1, none, [], none, (some [.nilFunc]), 8, false, false, none⟩ := by kernel_rfl
theorem td46 : td Try.prog 46 = some ⟨false, 1, none, [], none, (some [.nilFunc]), 8, false, false, none⟩ := by kernel_rfl
theorem td47 : td Try.prog 47 = some ⟨false, 1, none, [], none, (some [.nilFunc]), 8, false, false, none⟩ := by kernel_rfl
theorem td48 : td Try.prog 48 = some ⟨false, 1, none, [], none, (some [.nilFunc]), 8, false, false, none⟩ := by kernel_rfl
theorem td49 : td Try.prog 49 = some ⟨false, 1, none, [], none, (some [.nilFunc]), 8, false, false, none⟩ := by kernel_rfl
theorem td50 : td Try.prog 50 = some ⟨false, 1, none, [], none, (some [.nilFunc]), 8, false, false, none⟩ := by kernel_rfl
theorem td51 : td Try.prog 51 = some ⟨false, 1, none, [], none, (some [.nilFunc]), 8, false, false, none⟩ := by kernel_rfl
theorem td52 : td Try.prog 52 = some ⟨true, 2, none, [], (some (2, 21)), (some [.int .i32 (0), .int .i32 (0)]), 8, false, false, none⟩ := by kernel_rfl
theorem td53 : td Try.prog 53 = some ⟨false, 1, none, [], none, (some [.nilFunc]), 8, false, false, none⟩ := by kernel_rfl
theorem td54 : td Try.prog 54 = some ⟨false, 1, none, [], none, (some [.nilFunc]), 8, false, false, none⟩ := by kernel_rfl
theorem td55 : td Try.prog 55 = some ⟨false, 1, none, [], none, (some [.nilFunc]), 8, false, false, none⟩ := by kernel_rfl
theorem td56 : td Try.prog 56 = some ⟨false, 1, none, [], none, (some [.nilFunc]), 8, false, false, none⟩ := by kernel_rfl
theorem td57 : td Try.prog 57 = some ⟨false, 1, none, [], none, (some [.nilFunc]), 8, false, false, none⟩ := by kernel_rfl
theorem td58 : td Try.prog 58 = some ⟨true, 2, none, [(0, 3), (1, 25)], none, (some [.int .i64 (0), .slice none 0 0]), 32, false, false, none⟩ := by kernel_rfl
theorem td59 : td Try.prog 59 = some ⟨true, 2, none, [(0, 3), (1, 25)], none, (some [.int .i64 (0), .slice none 0 0]), 32, false, false, none⟩ := by kernel_rfl
theorem td60 : td Try.prog 60 = some ⟨false, 1, none, [], none, (some [.nilFunc]), 8, false, false, none⟩ := by kernel_rfl
theorem td61 : td Try.prog 61 = some ⟨false, 1, none, [], none, (some [.nilFunc]), 8, false, false, none⟩ := by kernel_rfl
theorem td62 : td Try.prog 62 = some ⟨true, 4, none, [(0, 22), (1, 3), (2, 60), (3, 61)], none, (some [.slice none 0 0, .int .i64 (0), .nilFunc, .nilFunc]), 48, false, false, none⟩ := by kernel_rfl
theorem td63 : td Try.prog 63 = some ⟨true, 4, none, [(0, 22), (1, 3), (2, 60), (3, 61)], none, (some [.slice none 0 0, .int .i64 (0), .nilFunc, .nilFunc]), 48, false, false, none⟩ := by kernel_rfl
theorem td65 : td Try.prog 65 = some ⟨false, 1, none, [], none, (some [.nilFunc]), 8, false, false, none⟩ := by kernel_rfl
theorem td67 : td Try.prog 67 = some ⟨false, 1, none, [], none, (some [.nilFunc]), 8, false, false, none⟩ := by kernel_rfl
theorem td68 : td Try.prog 68 = some ⟨false, 1, none, [], none, (some [.nilFunc]), 8, false, false, none⟩ := by kernel_rfl
theorem td69 : td Try.prog 69 = some ⟨false, 1, none, [], none, (some [.nilFunc]), 8, false, false, none⟩ := by kernel_rfl
theorem td71 : td Try.prog 71 = some ⟨false, 1, none, [], none, (some [.nilFunc]), 8, false, false, none⟩ := by kernel_rfl
theorem td72 : td Try.prog 72 = some ⟨false, 1, none, [], none, (some [.nilFunc]), 8, false, false, none⟩ := by kernel_rfl
theorem td73 : td Try.prog 73 = some ⟨false, 1, none, [], none, (some [.nilFunc]), 8, false, false, none⟩ := by kernel_rfl
theorem td74 : td Try.prog 74 = some ⟨false, 1, none, [], none, (some [.nilFunc]), 8, false, false, none⟩ := by kernel_rfl
theorem td75 : td Try.prog 75 = some ⟨false, 1, none, [], none, (some [.nilFunc]), 8, false, false, none⟩ := by kernel_rfl
theorem td76 : td Try.prog 76 = some ⟨false, 1, none, [], none, (some [.nilFunc]), 8, false, false, none⟩ := by kernel_rfl
theorem td78 : td Try.prog 78 = some ⟨false, 1, none, [], none, (some [.nilFunc]), 8, false, false, none⟩ := by kernel_rfl
theorem td79 : td Try.prog 79 = some ⟨false, 1, none, [], none, (some [.nilFunc]), 8, false, false, none⟩ := by kernel_rfl
theorem td80 : td Try.prog 80 = some ⟨false, 1, none, [], none, (some [.nilFunc]), 8, false, false, none⟩ := by kernel_rfl
theorem td81 : td Try.prog 81 = some ⟨false, 1, none, [], none, (some [.nilFunc]), 8, false, false, none⟩ := by kernel_rfl
theorem td82 : td Try.prog 82 = some ⟨false, 1, none, [], none, (some [.nilFunc]), 8, false, false, none⟩ := by kernel_rfl
theorem td83 : td Try.prog 83 = some ⟨false, 1, none, [], none, (some [.nilFunc]), 8, false, false, none⟩ := by kernel_rfl
theorem td84 : td Try.prog 84 = some ⟨false, 1, none, [], none, (some [.nilFunc]), 8, false, false, none⟩ := by kernel_rfl
theorem td85 : td Try.prog 85 = some ⟨false, 1, none, [], none, (some [.nilFunc]), 8, false, false, none⟩ := by kernel_rfl
theorem td86 : td Try.prog 86 = some ⟨false, 1, none, [], none, (some [.nilFunc]), 8, false, false, none⟩ := by kernel_rfl
theorem td88 : td Try.prog 88 = some ⟨false, 1, none, [], none, (some [.nilFunc]), 8, false, false, none⟩ := by kernel_rfl
theorem td89 : td Try.prog 89 = some ⟨false, 1, none, [], none, (some [.nilFunc]), 8, false, false, none⟩ := by kernel_rfl
theorem td90 : td Try.prog 90 = some ⟨false, 1, none, [], none, (some [.nilFunc]), 8, false, false, none⟩ := by kernel_rfl
theorem td91 : td Try.prog 91 = some ⟨false, 1, none, [], none, (some [.nilFunc]), 8, false, false, none⟩ := by kernel_rfl
theorem td92 : td Try.prog 92 = some ⟨false, 1, none, [], none, (some [.nilFunc]), 8, false, false, none⟩ := by kernel_rfl
theorem td93 : td Try.prog 93 = some ⟨false, 1, none, [], none, (some [.nilFunc]), 8, false, false, none⟩ := by kernel_rfl
theorem td94 : td Try.prog 94 = some ⟨false, 1, none, [], none, (some [.nilFunc]), 8, false, false, none⟩ := by kernel_rfl
theorem td95 : td Try.prog 95 = some ⟨false, 1, none, [], none, (some [.nilFunc]), 8, false, false, none⟩ := by kernel_rfl
theorem td96 : td Try.prog 96 = some ⟨false, 1, none, [], none, (some [.nilFunc]), 8, false, false, none⟩ := by kernel_rfl
theorem td97 : td Try.prog 97 = some ⟨false, 1, none, [], none, (some [.nilFunc]), 8, false, false, none⟩ := by kernel_rfl
theorem td98 : td Try.prog 98 = some ⟨true, 4, none, [(0, 17), (1, 17), (2, 17), (3, 9)], none, (some [.pointer none, .pointer none, .pointer none, .string ⟨#[]⟩]), 40, false, false, none⟩ := by kernel_rfl
theorem td99 : td Try.prog 99 = some ⟨true, 4, none, [(0, 17), (1, 17), (2, 17), (3, 9)], none, (some [.pointer none, .pointer none, .pointer none, .string ⟨#[]⟩]), 40, false, false, none⟩ := by kernel_rfl
theorem td100 : td Try.prog 100 = some ⟨true, 0, none, [], (some (0, 16)), (some []), 0, false, false, none⟩ := by kernel_rfl
theorem td101 : td Try.prog 101 = some ⟨true, 0, none, [(0, 100)], none, (some []), 0, false, false, none⟩ := by kernel_rfl
theorem td102 : td Try.prog 102 = some ⟨true, 0, none, [(0, 100)], none, (some []), 0, false, false, none⟩ := by kernel_rfl
theorem td103 : td Try.prog 103 = some ⟨false, 1, none, [], none, (some [.nilFunc]), 8, false, false, none⟩ := by kernel_rfl
theorem td104 : td Try.prog 104 = some ⟨false, 1, none, [], none, (some [.int .u32 (0)]), 4, false, false, (some .u32)⟩ := by kernel_rfl
theorem td105 : td Try.prog 105 = some ⟨false, 1, none, [], none, (some [.int .u8 (0)]), 1, false, false, (some .u8)⟩ := by kernel_rfl
theorem td106 : td Try.prog 106 = some ⟨false, 1, none, [], none, (some [.int .u8 (0)]), 1, false, false, (some .u8)⟩ := by kernel_rfl
theorem td107 : td Try.prog 107 = some ⟨false, 1, none, [], none, (some [.nilFunc]), 8, false, false, none⟩ := by kernel_rfl
theorem td108 : td Try.prog 108 = some ⟨false, 1, none, [], none, (some [.pointer none]), 8, false, false, none⟩ := by kernel_rfl
theorem td109 : td Try.prog 109 = some ⟨false, 1, none, [], none, (some [.int .i32 (0)]), 4, false, false, (some .i32)⟩ := by kernel_rfl
theorem td110 : td Try.prog 110 = some ⟨false, 1, none, [], none, (some [.int .i32 (0)]), 4, false, false, (some .i32)⟩ := by kernel_rfl
theorem td111 : td Try.prog 111 = some ⟨true, 11, none, [(0, 12), (1, 12), (2, 104), (3, 105), (4, 5), (5, 5), (6, 106), (7, 107), (8, 108), (9, 109), (10, 110)], none, (some [.int .u64 (0), .int .u64 (0), .int .u32 (0), .int .u8 (0), .int .u8 (0), .int .u8 (0), .int .u8 (0), .nilFunc, .pointer none, .int .i32 (0), .int .i32 (0)]), 48, false, false, none⟩ := by kernel_rfl
theorem td112 : td Try.prog 112 = some ⟨true, 11, none, [(0, 12), (1, 12), (2, 104), (3, 105), (4, 5), (5, 5), (6, 106), (7, 107), (8, 108), (9, 109), (10, 110)], none, (some [.int .u64 (0), .int .u64 (0), .int .u32 (0), .int .u8 (0), .int .u8 (0), .int .u8 (0), .int .u8 (0), .nilFunc, .pointer none, .int .i32 (0), .int .i32 (0)]), 48, false, false, none⟩ := by kernel_rfl
theorem td113 : td Try.prog 113 = some ⟨false, 1, none, [], none, (some [.pointer none]), 8, false, false, none⟩ := by kernel_rfl
theorem mixed : Try.prog.follows .mixedOrders = true := by kernel_rfl
end Go.Proofs.Ytbmmemglkjeogaa.Ty
