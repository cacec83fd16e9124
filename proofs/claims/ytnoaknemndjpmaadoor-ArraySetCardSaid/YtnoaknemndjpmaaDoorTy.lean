/- What the walk asks of the types of this translation. -/
import Derived.Test.YtnoaknemndjpmaaDoorEng
import Derived.Test.YtnoaknemndjpmaaDoorBase
namespace Go.Proofs.YtnoaknemndjpmaaDoor.Ty
open Go Go.Proofs.YtnoaknemndjpmaaDoor.Eng
theorem td1 : td Tryd.prog 1 = some ⟨false, 1, none, [], none, (some [.nilFunc]), 8, false, false, none⟩ := by kernel_rfl
theorem td2 : td Tryd.prog 2 = some ⟨false, 1, none, [], none, (some [.int .i64 (0)]), 8, false, false, (some .i64)⟩ := by kernel_rfl
theorem td3 : td Tryd.prog 3 = some ⟨false, 1, none, [], none, (some [.int .i64 (0)]), 8, false, false, (some .i64)⟩ := by kernel_rfl
theorem td4 : td Tryd.prog 4 = some ⟨false, 1, none, [], none, (some [.bool false]), 1, true, false, none⟩ := by kernel_rfl
theorem td5 : td Tryd.prog 5 = some ⟨false, 1, none, [], none, (some [.int .u8 (0)]), 1, false, false, (some .u8)⟩ := by kernel_rfl
theorem td6 : td Tryd.prog 6 = some ⟨false, 1, none, [], none, (some [.int .u8 (0)]), 1, false, false, (some .u8)⟩ := by kernel_rfl
theorem td7 : td Tryd.prog 7 = some ⟨true, 4, none, [(0, 2), (1, 3), (2, 4), (3, 6)], none, (some [.int .i64 (0), .int .i64 (0), .bool false, .int .u8 (0)]), 24, false, false, none⟩ := by kernel_rfl
theorem td8 : td Tryd.prog 8 = some ⟨true, 4, none, [(0, 2), (1, 3), (2, 4), (3, 6)], none, (some [.int .i64 (0), .int .i64 (0), .bool false, .int .u8 (0)]), 24, false, false, none⟩ := by kernel_rfl
theorem td9 : td Tryd.prog 9 = some ⟨false, 1, none, [], none, (some [.string ⟨#[]⟩]), 16, false, true, none⟩ := by kernel_rfl
theorem td10 : td Tryd.prog 10 = some ⟨false, 1, none, [], none, (some [.string ⟨#[]⟩]), 16, false, true, none⟩ := by kernel_rfl
theorem td11 : td Tryd.prog 11 = some ⟨false, 1, none, [], none, (some [.string ⟨#[]⟩]), 16, false, true, none⟩ := by kernel_rfl
theorem td12 : td Tryd.prog 12 = some ⟨false, 1, none, [], none, (some [.int .u64 (0)]), 8, false, false, (some .u64)⟩ := by kernel_rfl
theorem td13 : td Tryd.prog 13 = some ⟨true, 2, none, [(0, 9), (1, 12)], none, (some [.string ⟨#[]⟩, .int .u64 (0)]), 24, false, false, none⟩ := by kernel_rfl
theorem td14 : td Tryd.prog 14 = some ⟨true, 2, none, [(0, 9), (1, 12)], none, (some [.string ⟨#[]⟩, .int .u64 (0)]), 24, false, false, none⟩ := by kernel_rfl
theorem td15 : td Tryd.prog 15 = some ⟨false, 1, none, [], none, (some [.pointer none]), 8, false, false, none⟩ := by kernel_rfl
theorem td16 : td Tryd.prog 16 = some ⟨false, 1, none, [], none, (some [.pointer none]), 8, false, false, none⟩ := by kernel_rfl
theorem td17 : td Tryd.prog 17 = some ⟨false, 1, none, [], none, (some [.pointer none]), 8, false, false, none⟩ := by kernel_rfl
theorem td18 : td Tryd.prog 18 = some ⟨true, 1, none, [(0, 17)], none, (some [.pointer none]), 8, false, false, none⟩ := by kernel_rfl
theorem td19 : td Tryd.prog 19 = some ⟨true, 1, none, [(0, 17)], none, (some [.pointer none]), 8, false, false, none⟩ := by kernel_rfl
theorem td20 : td Tryd.prog 20 = some ⟨false, 1, none, [], none, (some [.nilIface]), 16, false, false, none⟩ := by kernel_rfl
theorem td21 : td Tryd.prog 21 = some ⟨false, 1, none, [], none, (some [.int .i32 (0)]), 4, false, false, (some .i32)⟩ := by kernel_rfl
theorem td22 : td Tryd.prog 22 = some ⟨false, 1, (some 3), [], none, (some [.slice none 0 0]), 24, false, false, none⟩ := by kernel_rfl
theorem td23 : td Tryd.prog 23 = some ⟨false, 1, none, [], none, (some [.nilFunc]), 8, false, false, none⟩ := by kernel_rfl
theorem td24 : td Tryd.prog 24 = some ⟨false, 1, none, [], none, (some [.int .i64 (0)]), 8, false, false, (some .i64)⟩ := by kernel_rfl
theorem td26 : td Tryd.prog 26 = some ⟨false, 1, none, [], none, (some [.nilFunc]), 8, false, false, none⟩ := by kernel_rfl
theorem td27 : td Tryd.prog 27 = some ⟨false, 1, none, [], none, (some [.nilFunc]), 8, false, false, none⟩ := by kernel_rfl
theorem td29 : td Tryd.prog 29 = some ⟨false, 1, none, [], none, (some [.nilFunc]), 8, false, false, none⟩ := by kernel_rfl
theorem td30 : td Tryd.prog 30 = some ⟨false, 1, none, [], none, (some [.nilFunc]), 8, false, false, none⟩ := by kernel_rfl
theorem td31 : td Tryd.prog 31 = some ⟨false, 1, none, [], none, (some [.nilFunc]), 8, false, false, none⟩ := by kernel_rfl
theorem td32 : td Tryd.prog 32 = some ⟨true, 3, none, [(0, 9), (1, 22), (2, 22)], none, (some [.string ⟨#[]⟩, .slice none 0 0, .slice none 0 0]), 64, false, false, none⟩ := by kernel_rfl
theorem td33 : td Tryd.prog 33 = some ⟨true, 3, none, [(0, 9), (1, 22), (2, 22)], none, (some [.string ⟨#[]⟩, .slice none 0 0, .slice none 0 0]), 64, false, false, none⟩ := by kernel_rfl
theorem td34 : td Tryd.prog 34 = some ⟨false, 1, none, [], none, (some [.nilFunc]), 8, false, false, none⟩ := by kernel_rfl
theorem td36 : td Tryd.prog 36 = some ⟨false, 1, none, [], none, (some [.nilFunc]), 8, false, false, none⟩ := by kernel_rfl
theorem td37 : td Tryd.prog 37 = some ⟨false, 1, none, [], none, (some [.nilFunc]), 8, false, false, none⟩ := by kernel_rfl
theorem td38 : td Tryd.prog 38 = some ⟨false, 1, none, [], none, (some [.nilFunc]), 8, false, false, none⟩ := by kernel_rfl
theorem td39 : td Tryd.prog 39 = some ⟨false, 1, none, [], none, (some [.nilFunc]), 8, false, false, none⟩ := by kernel_rfl
theorem td40 : td Tryd.prog 40 = some ⟨false, 1, none, [], none, (some [.nilFunc]), 8, false, false, none⟩ := by kernel_rfl
theorem td41 : td Tryd.prog 41 = some ⟨false, 1, none, [], none, (some [.nilFunc]), 8, false, false, none⟩ := by kernel_rfl
theorem td42 : td Tryd.prog 42 = some ⟨false, 1, none, [], none, (some [.nilFunc]), 8, false, false, none⟩ := by kernel_rfl
theorem td44 : td Tryd.prog 44 = some ⟨false, 1, none, [], none, (some [.nilFunc]), 8, false, false, none⟩ := by kernel_rfl
theorem td45 : td Tryd.prog 45 = some ⟨false, 1, none, [], none, (some [.nilFunc]), 8, false, false, none⟩ := by kernel_rfl
theorem td46 : td Tryd.prog 46 = some ⟨false, 1, none, [], none, (some [.nilFunc]), 8, false, false, none⟩ := by kernel_rfl
theorem td47 : td Tryd.prog 47 = some ⟨false, 1, none, [], none, (some [.int .u16 (0)]), 2, false, false, (some .u16)⟩ := by kernel_rfl
theorem td48 : td Tryd.prog 48 = some ⟨false, 1, none, [], none, (some [.nilFunc]), 8, false, false, none⟩ := by kernel_rfl
theorem td49 : td Tryd.prog 49 = some ⟨true, 2, none, [], (some (2, 47)), (some [.int .u16 (0), .int .u16 (0)]), 4, false, false, none⟩ := by kernel_rfl
theorem td50 : td Tryd.prog 50 = some ⟨false, 1, none, [], none, (some [.nilFunc]), 8, false, false, none⟩ := by kernel_rfl
theorem td51 : td Tryd.prog 51 = some ⟨false, 1, none, [], none, (some [.nilFunc]), 8, false, false, none⟩ := by kernel_rfl
theorem td52 : td Tryd.prog 52 = some ⟨false, 1, none, [], none, (some [.nilFunc]), 8, false, false, none⟩ := by kernel_rfl
theorem td53 : td Tryd.prog 53 = some ⟨false, 1, none, [], none, (some [.nilFunc]), 8, false, false, none⟩ := by kernel_rfl
theorem td54 : td Tryd.prog 54 = some ⟨false, 1, none, [], none, (some [.nilFunc]), 8, false, false, none⟩ := by kernel_rfl
theorem td55 : td Tryd.prog 55 = some ⟨false, 1, none, [], none, (some [.nilFunc]), 8, false, false, none⟩ := by kernel_rfl
theorem td56 : td Tryd.prog 56 = some ⟨false, 1, none, [], none, (some [.nilFunc]), 8, false, false, none⟩ := by kernel_rfl
theorem td57 : td Tryd.prog 57 = some ⟨false, 1, none, [], none, (some [.nilFunc]), 8, false, false, none⟩ := by kernel_rfl
theorem td58 : td Tryd.prog 58 = some ⟨false, 1, none, [], none, (some [.nilFunc]), 8, false, false, none⟩ := by kernel_rfl
theorem td59 : td Tryd.prog 59 = some ⟨false, 1, none, [], none, (some [.nilFunc]), 8, false, false, none⟩ := by kernel_rfl
theorem td60 : td Tryd.prog 60 = some ⟨false, 1, none, [], none, (some [.nilFunc]), 8, false, false, none⟩ := by kernel_rfl
theorem td61 : td Tryd.prog 61 = some ⟨false, 1, (some 5), [], none, (some [.slice none 0 0]), 24, false, false, none⟩ := by kernel_rfl
theorem td62 : td Tryd.prog 62 = some ⟨false, 1, none, [], none, (some [.nilFunc]), 8, false, false, none⟩ := by kernel_rfl
theorem td63 : td Tryd.prog 63 = some ⟨false, 1, none, [], none, (some [.nilFunc]), 8, false, false, none⟩ := by kernel_rfl
theorem td64 : td Tryd.prog 64 = some ⟨false, 1, none, [], none, (some [.nilFunc]), 8, false, false, none⟩ := by kernel_rfl
theorem td66 : td Tryd.prog 66 = some ⟨false, 1, none, [], none, (some [.nilFunc]), 8, false, false, none⟩ := by kernel_rfl
theorem td67 : td Tryd.prog 67 = some ⟨false, 1, none, [], none, (some [.nilFunc]), 8, false, false, none⟩ := by kernel_rfl
theorem td69 : td Tryd.prog 69 = some ⟨false, 1, none, [], none, (some [.nilFunc]), 8, false, false, none⟩ := by kernel_rfl
theorem td70 : td Tryd.prog 70 = some ⟨false, 1, none, [], none, (some [.nilFunc]), 8, false, false, none⟩ := by kernel_rfl
theorem td71 : td Tryd.prog 71 = some ⟨true, 2, none, [], (some (2, 22)), (some [.slice none 0 0, .slice none 0 0]), 48, false, false, none⟩ := by kernel_rfl
theorem td73 : td Tryd.prog 73 = some ⟨false, 1, none, [], none, (some [.nilFunc]), 8, false, false, none⟩ := by kernel_rfl
theorem td74 : td Tryd.prog 74 = some ⟨false, 1, none, [], none, (some [.nilFunc]), 8, false, false, none⟩ := by kernel_rfl
theorem td75 : td Tryd.prog 75 = some ⟨false, 1, none, [], none, (some [.nilFunc]), 8, false, false, none⟩ := by kernel_rfl
theorem td76 : td Tryd.prog 76 = some ⟨false, 1, none, [], none, (some [.nilFunc]), 8, false, false, none⟩ := by kernel_rfl
theorem td77 : td Tryd.prog 77 = some ⟨false, 1, none, [], none, (some [.nilFunc]), 8, false, false, none⟩ := by kernel_rfl
theorem td78 : td Tryd.prog 78 = some ⟨false, 1, none, [], none, (some [.nilFunc]), 8, false, false, none⟩ := by kernel_rfl
theorem td79 : td Tryd.prog 79 = some ⟨false, 1, none, [], none, (some [.nilFunc]), 8, false, false, none⟩ := by kernel_rfl
theorem td80 : td Tryd.prog 80 = some ⟨false, 1, none, [], none, (some [.nilIface]), 16, false, false, none⟩ := by kernel_rfl
theorem td81 : td Tryd.prog 81 = some ⟨false, 1, none, [], none, (some [.nilIface]), 16, false, false, none⟩ := by kernel_rfl
theorem td83 : td Tryd.prog 83 = some ⟨false, 1, none, [], none, (some [.nilFunc]), 8, false, false, none⟩ := by kernel_rfl
theorem td84 : td Tryd.prog 84 = some ⟨false, 1, none, [], none, (some [.int .u64 (0)]), 8, false, false, (some .u64)⟩ := by kernel_rfl
theorem td85 : td Tryd.prog 85 = some ⟨false, 1, none, [], none, (some [.nilFunc]), 8, false, false, none⟩ := by kernel_rfl
theorem td86 : td Tryd.prog 86 = some ⟨false, 1, none, [], none, (some [.nilFunc]), 8, false, false, none⟩ := by kernel_rfl
theorem td87 : td Tryd.prog 87 = some ⟨false, 1, none, [], none, (some [.nilFunc]), 8, false, false, none⟩ := by kernel_rfl
theorem td88 : td Tryd.prog 88 = some ⟨false, 1, none, [], none, (some [.nilFunc]), 8, false, false, none⟩ := by kernel_rfl
theorem td91 : td Tryd.prog 91 = some ⟨false, 1, none, [], none, (some [.nilFunc]), 8, false, false, none⟩ := by kernel_rfl
theorem td92 : td Tryd.prog 92 = some ⟨false, 1, none, [], none, (some [.nilFunc]), 8, false, false, none⟩ := by kernel_rfl
theorem td93 : td Tryd.prog 93 = some ⟨false, 1, none, [], none, (some [.nilFunc]), 8, false, false, none⟩ := by kernel_rfl
theorem td94 : td Tryd.prog 94 = some ⟨true, 24, none, [], (some (24, 5)), (some [.int .u8 (0), .int .u8 (0), .int .u8 (0), .int .u8 (0), .int .u8 (0), .int .u8 (0), .int .u8 (0), .int .u8 (0), .int .u8 (0), .int .u8 (0), .int .u8 (0), .int .u8 (0), .int .u8 (0), .int .u8 (0), .int .u8 (0), .int .u8 (0), .int .u8 (0), .int .u8 (0), .int .u8 (0), .int .u8 (0), .int .u8 (0), .int .u8 (0), .int .u8 (0), .int .u8 (0)]), 24, false, false, none⟩ := by kernel_rfl
theorem td95 : td Tryd.prog 95 = some ⟨false, 1, none, [], none, (some [.nilFunc]), 8, false, false, none⟩ := by kernel_rfl
theorem td96 : td Tryd.prog 96 = some ⟨false, 1, none, [], none, (some [.nilFunc]), 8, false, false, none⟩ := by kernel_rfl
theorem td98 : td Tryd.prog 98 = some ⟨false, 1, none, [], none, (some [.nilFunc]), 8, false, false, none⟩ := by kernel_rfl
theorem td99 : td Tryd.prog 99 = some ⟨false, 1, none, [], none, (some [.nilFunc]), 8, false, false, none⟩ := by kernel_rfl
theorem td100 : td Tryd.prog 100 = some ⟨false, 1, none, [], none, (some [.nilFunc]), 8, false, false, none⟩ := by kernel_rfl
theorem td101 : td Tryd.prog 101 = some ⟨false, 1, none, [], none, (some [.int .u64 (0)]), 8, false, false, (some .u64)⟩ := by kernel_rfl
theorem td102 : td Tryd.prog 102 = some ⟨false, 1, none, [], none, (some [.int .u32 (0)]), 4, false, false, (some .u32)⟩ := by kernel_rfl
theorem td103 : td Tryd.prog 103 = some ⟨false, 1, none, [], none, (some [.nilFunc]), 8, false, false, none⟩ := by kernel_rfl
theorem td104 : td Tryd.prog 104 = some ⟨false, 1, none, [], none, (some [.pointer none]), 8, false, false, none⟩ := by kernel_rfl
theorem td105 : td Tryd.prog 105 = some ⟨false, 1, none, [], none, (some [.int .i64 (0)]), 8, false, false, (some .i64)⟩ := by kernel_rfl
theorem td107 : td Tryd.prog 107 = some ⟨false, 1, none, [], none, (some [.nilFunc]), 8, false, false, none⟩ := by kernel_rfl
theorem td108 : td Tryd.prog 108 = some ⟨false, 1, none, [], none, (some [.pointer none]), 8, false, false, none⟩ := by kernel_rfl
theorem td109 : td Tryd.prog 109 = some ⟨false, 1, none, [], none, (some [.nilFunc]), 8, false, false, none⟩ := by kernel_rfl
theorem td110 : td Tryd.prog 110 = some ⟨false, 1, none, [], none, (some [.nilFunc]), 8, false, false, none⟩ := by kernel_rfl
theorem td111 : td Tryd.prog 111 = some ⟨false, 1, none, [], none, (some [.nilFunc]), 8, false, false, none⟩ := by kernel_rfl
theorem td112 : td Tryd.prog 112 = some ⟨true, 20, none, [], (some (20, 84)), (some [.int .u64 (0), .int .u64 (0), .int .u64 (0), .int .u64 (0), .int .u64 (0), .int .u64 (0), .int .u64 (0), .int .u64 (0), .int .u64 (0), .int .u64 (0), .int .u64 (0), .int .u64 (0), .int .u64 (0), .int .u64 (0), .int .u64 (0), .int .u64 (0), .int .u64 (0), .int .u64 (0), .int .u64 (0), .int .u64 (0)]), 160, false, false, none⟩ := by kernel_rfl
theorem td113 : td Tryd.prog 113 = some ⟨true, 65, none, [], (some (65, 5)), (some [.int .u8 (0), .int .u8 (0), .int .u8 (0), .int .u8 (0), .int .u8 (0), .int .u8 (0), .int .u8 (0), .int .u8 (0), .int .u8 (0), .int .u8 (0), .int .u8 (0), .int .u8 (0), .int .u8 (0), .int .u8 (0), .int .u8 (0), .int .u8 (0), .int .u8 (0), .int .u8 (0), .int .u8 (0), .int .u8 (0), .int .u8 (0), .int .u8 (0), .int .u8 (0), .int .u8 (0), .int .u8 (0), .int .u8 (0), .int .u8 (0), .int .u8 (0), .int .u8 (0), .int .u8 (0), .int .u8 (0), .int .u8 (0), .int .u8 (0), .int .u8 (0), .int .u8 (0), .int .u8 (0), .int .u8 (0), .int .u8 (0), .int .u8 (0), .int .u8 (0), .int .u8 (0), .int .u8 (0), .int .u8 (0), .int .u8 (0), .int .u8 (0), .int .u8 (0), .int .u8 (0), .int .u8 (0), .int .u8 (0), .int .u8 (0), .int .u8 (0), .int .u8 (0), .int .u8 (0), .int .u8 (0), .int .u8 (0), .int .u8 (0), .int .u8 (0), .int .u8 (0), .int .u8 (0), .int .u8 (0), .int .u8 (0), .int .u8 (0), .int .u8 (0), .int .u8 (0), .int .u8 (0)]), 65, false, false, none⟩ := by kernel_rfl
theorem td114 : td Tryd.prog 114 = some ⟨false, 1, none, [], none, (some [.nilFunc]), 8, false, false, none⟩ := by kernel_rfl
theorem td116 : td Tryd.prog 116 = some ⟨false, 1, none, [], none, (some [.nilFunc]), 8, false, false, none⟩ := by kernel_rfl
theorem td117 : td Tryd.prog 117 = some ⟨true, 2, none, [(0, 5), (1, 5)], none, (some [.int .u8 (0), .int .u8 (0)]), 2, false, false, none⟩ := by kernel_rfl
theorem td118 : td Tryd.prog 118 = some ⟨true, 2, none, [(0, 5), (1, 5)], none, (some [.int .u8 (0), .int .u8 (0)]), 2, false, false, none⟩ := by kernel_rfl
theorem td119 : td Tryd.prog 119 = some ⟨true, 32, none, [], (some (16, 118)), (some [.int .u8 (0), .int .u8 (0), .int .u8 (0), .int .u8 (0), .int .u8 (0), .int .u8 (0), .int .u8 (0), .int .u8 (0), .int .u8 (0), .int .u8 (0), .int .u8 (0), .int .u8 (0), .int .u8 (0), .int .u8 (0), .int .u8 (0), .int .u8 (0), .int .u8 (0), .int .u8 (0), .int .u8 (0), .int .u8 (0), .int .u8 (0), .int .u8 (0), .int .u8 (0), .int .u8 (0), .int .u8 (0), .int .u8 (0), .int .u8 (0), .int .u8 (0), .int .u8 (0), .int .u8 (0), .int .u8 (0), .int .u8 (0)]), 32, false, false, none⟩ := by kernel_rfl
theorem td120 : td Tryd.prog 120 = some ⟨false, 1, (some 125), [], none, (some [.slice none 0 0]), 24, false, false, none⟩ := by kernel_rfl
theorem td121 : td Tryd.prog 121 = some ⟨false, 1, (some 128), [], none, (some [.slice none 0 0]), 24, false, false, none⟩ := by kernel_rfl
theorem td122 : td Tryd.prog 122 = some ⟨true, 3, none, [(0, 120), (1, 121), (2, 3)], none, (some [.slice none 0 0, .slice none 0 0, .int .i64 (0)]), 56, false, false, none⟩ := by kernel_rfl
theorem td123 : td Tryd.prog 123 = some ⟨true, 3, none, [(0, 120), (1, 121), (2, 3)], none, (some [.slice none 0 0, .slice none 0 0, .int .i64 (0)]), 56, false, false, none⟩ := by kernel_rfl
theorem td124 : td Tryd.prog 124 = some ⟨true, 3, none, [(0, 47), (1, 47), (2, 47)], none, (some [.int .u16 (0), .int .u16 (0), .int .u16 (0)]), 6, false, false, none⟩ := by kernel_rfl
theorem td125 : td Tryd.prog 125 = some ⟨true, 3, none, [(0, 47), (1, 47), (2, 47)], none, (some [.int .u16 (0), .int .u16 (0), .int .u16 (0)]), 6, false, false, none⟩ := by kernel_rfl
theorem td126 : td Tryd.prog 126 = some ⟨false, 1, none, [], none, (some [.nilFunc]), 8, false, false, none⟩ := by kernel_rfl
theorem td127 : td Tryd.prog 127 = some ⟨true, 3, none, [(0, 102), (1, 102), (2, 102)], none, (some [.int .u32 (0), .int .u32 (0), .int .u32 (0)]), 12, false, false, none⟩ := by kernel_rfl
theorem td128 : td Tryd.prog 128 = some ⟨true, 3, none, [(0, 102), (1, 102), (2, 102)], none, (some [.int .u32 (0), .int .u32 (0), .int .u32 (0)]), 12, false, false, none⟩ := by kernel_rfl
theorem td129 : td Tryd.prog 129 = some ⟨false, 1, none, [], none, (some [.nilFunc]), 8, false, false, none⟩ := by kernel_rfl
theorem td131 : td Tryd.prog 131 = some ⟨false, 1, none, [], none, (some [.nilFunc]), 8, false, false, none⟩ := by kernel_rfl
theorem td132 : td Tryd.prog 132 = some ⟨false, 1, none, [], none, (some [.nilFunc]), 8, false, false, none⟩ := by kernel_rfl
theorem td133 : td Tryd.prog 133 = some ⟨true, 3, none, [(0, 9), (1, 9), (2, 81)], none, (some [.string ⟨#[]⟩, .string ⟨#[]⟩, .nilIface]), 48, false, false, none⟩ := by kernel_rfl
theorem td134 : td Tryd.prog 134 = some ⟨true, 3, none, [(0, 9), (1, 9), (2, 81)], none, (some [.string ⟨#[]⟩, .string ⟨#[]⟩, .nilIface]), 48, false, false, none⟩ := by kernel_rfl
theorem td135 : td Tryd.prog 135 = some ⟨false, 1, none, [], none, (some [.nilFunc]), 8, false, false, none⟩ := by kernel_rfl
theorem td136 : td Tryd.prog 136 = some ⟨false, 1, none, [], none, (some [.nilFunc]), 8, false, false, none⟩ := by kernel_rfl
theorem td137 : td Tryd.prog 137 = some ⟨false, 1, none, [], none, (some [.pointer none]), 8, false, false, none⟩ := by kernel_rfl
theorem td138 : td Tryd.prog 138 = some ⟨false, 1, none, [], none, (some [.pointer none]), 8, false, false, none⟩ := by kernel_rfl
theorem td139 : td Tryd.prog 139 = some ⟨false, 1, none, [], none, (some [.nilFunc]), 8, false, false, none⟩ := by kernel_rfl
theorem td140 : td Tryd.prog 140 = some ⟨false, 1, none, [], none, (some [.pointer none]), 8, false, false, none⟩ := by kernel_rfl
theorem td141 : td Tryd.prog 141 = some ⟨false, 1, none, [], none, (some [.pointer none]), 8, false, false, none⟩ := by kernel_rfl
theorem td142 : td Tryd.prog 142 = some ⟨true, 1, none, [(0, 9)], none, (some [.string ⟨#[]⟩]), 16, false, false, none⟩ := by kernel_rfl
theorem td143 : td Tryd.prog 143 = some ⟨true, 1, none, [(0, 9)], none, (some [.string ⟨#[]⟩]), 16, false, false, none⟩ := by kernel_rfl
theorem td144 : td Tryd.prog 144 = some ⟨true, 32, none, [], (some (32, 5)), (some [.int .u8 (0), .int .u8 (0), .int .u8 (0), .int .u8 (0), .int .u8 (0), .int .u8 (0), .int .u8 (0), .int .u8 (0), .int .u8 (0), .int .u8 (0), .int .u8 (0), .int .u8 (0), .int .u8 (0), .int .u8 (0), .int .u8 (0), .int .u8 (0), .int .u8 (0), .int .u8 (0), .int .u8 (0), .int .u8 (0), .int .u8 (0), .int .u8 (0), .int .u8 (0), .int .u8 (0), .int .u8 (0), .int .u8 (0), .int .u8 (0), .int .u8 (0), .int .u8 (0), .int .u8 (0), .int .u8 (0), .int .u8 (0)]), 32, false, false, none⟩ := by kernel_rfl
theorem td145 : td Tryd.prog 145 = some ⟨true, 64, none, [], (some (64, 5)), (some [.int .u8 (0), .int .u8 (0), .int .u8 (0), .int .u8 (0), .int .u8 (0), .int .u8 (0), .int .u8 (0), .int .u8 (0), .int .u8 (0), .int .u8 (0), .int .u8 (0), .int .u8 (0), .int .u8 (0), .int .u8 (0), .int .u8 (0), .int .u8 (0), .int .u8 (0), .int .u8 (0), .int .u8 (0), .int .u8 (0), .int .u8 (0), .int .u8 (0), .int .u8 (0), .int .u8 (0), .int .u8 (0), .int .u8 (0), .int .u8 (0), .int .u8 (0), .int .u8 (0), .int .u8 (0), .int .u8 (0), .int .u8 (0), .int .u8 (0), .int .u8 (0), .int .u8 (0), .int .u8 (0), .int .u8 (0), .int .u8 (0), .int .u8 (0), .int .u8 (0), .int .u8 (0), .int .u8 (0), .int .u8 (0), .int .u8 (0), .int .u8 (0), .int .u8 (0), .int .u8 (0), .int .u8 (0), .int .u8 (0), .int .u8 (0), .int .u8 (0), .int .u8 (0), .int .u8 (0), .int .u8 (0), .int .u8 (0), .int .u8 (0), .int .u8 (0), .int .u8 (0), .int .u8 (0), .int .u8 (0), .int .u8 (0), .int .u8 (0), .int .u8 (0), .int .u8 (0)]), 64, false, false, none⟩ := by kernel_rfl
theorem td146 : td Tryd.prog 146 = some ⟨false, 1, none, [], none, (some [.nilFunc]), 8, false, false, none⟩ := by kernel_rfl
theorem td147 : td Tryd.prog 147 = some ⟨false, 1, none, [], none, (some [.nilFunc]), 8, false, false, none⟩ := by kernel_rfl
theorem td148 : td Tryd.prog 148 = some ⟨true, 4, none, [(0, 17), (1, 17), (2, 17), (3, 9)], none, (some [.pointer none, .pointer none, .pointer none, .string ⟨#[]⟩]), 40, false, false, none⟩ := by kernel_rfl
theorem td149 : td Tryd.prog 149 = some ⟨true, 4, none, [(0, 17), (1, 17), (2, 17), (3, 9)], none, (some [.pointer none, .pointer none, .pointer none, .string ⟨#[]⟩]), 40, false, false, none⟩ := by kernel_rfl
theorem td150 : td Tryd.prog 150 = some ⟨true, 0, none, [], (some (0, 16)), (some []), 0, false, false, none⟩ := by kernel_rfl
theorem td151 : td Tryd.prog 151 = some ⟨true, 0, none, [(0, 150)], none, (some []), 0, false, false, none⟩ := by kernel_rfl
theorem td152 : td Tryd.prog 152 = some ⟨true, 0, none, [(0, 150)], none, (some []), 0, false, false, none⟩ := by kernel_rfl
theorem td153 : td Tryd.prog 153 = some ⟨false, 1, none, [], none, (some [.nilFunc]), 8, false, false, none⟩ := by kernel_rfl
theorem td154 : td Tryd.prog 154 = some ⟨false, 1, none, [], none, (some [.int .u8 (0)]), 1, false, false, (some .u8)⟩ := by kernel_rfl
theorem td155 : td Tryd.prog 155 = some ⟨false, 1, none, [], none, (some [.int .u8 (0)]), 1, false, false, (some .u8)⟩ := by kernel_rfl
theorem td156 : td Tryd.prog 156 = some ⟨false, 1, none, [], none, (some [.nilFunc]), 8, false, false, none⟩ := by kernel_rfl
theorem td157 : td Tryd.prog 157 = some ⟨false, 1, none, [], none, (some [.int .i32 (0)]), 4, false, false, (some .i32)⟩ := by kernel_rfl
theorem td158 : td Tryd.prog 158 = some ⟨false, 1, none, [], none, (some [.int .i32 (0)]), 4, false, false, (some .i32)⟩ := by kernel_rfl
theorem td159 : td Tryd.prog 159 = some ⟨true, 11, none, [(0, 12), (1, 12), (2, 102), (3, 154), (4, 5), (5, 5), (6, 155), (7, 156), (8, 140), (9, 157), (10, 158)], none, (some [.int .u64 (0), .int .u64 (0), .int .u32 (0), .int .u8 (0), .int .u8 (0), .int .u8 (0), .int .u8 (0), .nilFunc, .pointer none, .int .i32 (0), .int .i32 (0)]), 48, false, false, none⟩ := by kernel_rfl
theorem td160 : td Tryd.prog 160 = some ⟨true, 11, none, [(0, 12), (1, 12), (2, 102), (3, 154), (4, 5), (5, 5), (6, 155), (7, 156), (8, 140), (9, 157), (10, 158)], none, (some [.int .u64 (0), .int .u64 (0), .int .u32 (0), .int .u8 (0), .int .u8 (0), .int .u8 (0), .int .u8 (0), .nilFunc, .pointer none, .int .i32 (0), .int .i32 (0)]), 48, false, false, none⟩ := by kernel_rfl
theorem td161 : td Tryd.prog 161 = some ⟨false, 1, none, [], none, (some [.pointer none]), 8, false, false, none⟩ := by kernel_rfl
theorem mixed : Tryd.prog.follows .mixedOrders = true := by kernel_rfl
end Go.Proofs.YtnoaknemndjpmaaDoor.Ty
