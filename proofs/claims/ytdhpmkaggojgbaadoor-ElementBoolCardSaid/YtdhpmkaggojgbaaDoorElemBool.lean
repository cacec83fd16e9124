/- The walk of the law ElementBool. -/
import Derived.Test.YtdhpmkaggojgbaaDoorElemDivision
import Derived.Deep.RegionHeld3
namespace Go.Proofs.YtdhpmkaggojgbaaDoor.ElemBool
set_option linter.unusedVariables false
open Go.RowKit Go.Proofs.YtdhpmkaggojgbaaDoor.ElemTable Go.Proofs.YtdhpmkaggojgbaaDoor.ElemFind Go.Proofs.YtdhpmkaggojgbaaDoor.ElemApply Go.Proofs.YtdhpmkaggojgbaaDoor.ElemValue Go.Proofs.YtdhpmkaggojgbaaDoor.ElemGives Go.Proofs.YtdhpmkaggojgbaaDoor.ElemOps Go.Proofs.YtdhpmkaggojgbaaDoor.ElemAwake Go.Proofs.YtdhpmkaggojgbaaDoor.ElemLaws Go.Proofs.YtdhpmkaggojgbaaDoor.ElemDivision

def Bit (b : Bool) (n : Int) : Prop := ∀ w, Calls Tryd.prog 24 #[.bool b] w fun e w' => e = .returned (.int .i64 n) ∧ w = w'
theorem bit_any (b : Bool) : Bit b (if b then 1 else 0) := by
  intro w
  cases b
  all_goals
    go_enter Tryd.func24, Tryd.ntmps24
    go_wp2
    go_ret
    exact ⟨rfl, rfl⟩

theorem at1 {s : ByteArray} {x v : Int} {wk : World} {T : TypeId} (h : Hid (Op1 s x v)) (HT : Hid (Tab wk)) : Calls Tryd.prog 22 #[.string s, .slice (some ⟨wk.heap.size, 0, none⟩) 1 1] (wk.alloc (.cells #[.int .i64 x] T)) fun e w' => e = .returned (.int .i64 v) ∧ Below wk.heap.size wk w' := by
  have hb : Below wk.heap.size wk (wk.alloc (.cells #[.int .i64 x] T)) := by go_grown
  refine (h.out _ _ (tab_below HT.out hb) (by go_size) (by go_cell)).mono ?_
  rintro e w' ⟨rfl, b⟩
  exact ⟨rfl, bt hb b⟩
theorem at1dd {s : ByteArray} {x v : Int} {wk : World} {T : TypeId} (h : Hid (Op1 s x v)) (HT : Hid (Tab wk)) : Calls Tryd.prog 22 #[.string s, .slice (some ⟨wk.heap.size, 0, none⟩) 1 1] (wk.alloc (.cells #[.int .i64 x] T)).drew.drew fun e w' => e = .returned (.int .i64 v) ∧ Below wk.heap.size wk w' := by
  have hb : Below wk.heap.size wk (wk.alloc (.cells #[.int .i64 x] T)).drew.drew := by go_grown
  refine (h.out _ _ (tab_below HT.out hb) (by go_size) (by go_cell)).mono ?_
  rintro e w' ⟨rfl, b⟩
  exact ⟨rfl, bt hb b⟩

set_option maxRecDepth 100000 in
set_option maxHeartbeats 4000000 in
theorem bool_true_true (c : Bool) (z p q o2 r m2 : Int) (w : World) (ht : Tab w) (ha : Hid (Bit true 1)) (hb : Hid (Bit true 1)) (hcc : Hid (Bit c z)) (hp : -2147483648 ≤ p ∧ p ≤ 2147483647) (hq : -2147483648 ≤ q ∧ q ≤ 2147483647) (h1 : Hid (Op1 ⟨#[116, 111, 105, 110, 116]⟩ 1 1)) (h2 : Hid (Op1 ⟨#[116, 111, 105, 110, 116]⟩ 1 1)) (h3 : Hid (Op1 ⟨#[116, 111, 105, 110, 116]⟩ z z)) (h4 : Hid (Op3 ⟨#[115, 101, 108, 101, 99, 116]⟩ 1 p q p)) (h5 : Hid (Op2 ⟨#[97, 110, 100]⟩ 1 1 1)) (h6 : Hid (Op1 ⟨#[110, 111, 116]⟩ 1 0)) (h7 : Hid (Op1 ⟨#[110, 111, 116]⟩ 1 0)) (h8 : Hid (Op1 ⟨#[110, 111, 116]⟩ 1 0)) (h9 : Hid (Op2 ⟨#[111, 114]⟩ 0 0 0)) (h10 : Hid (Op2 ⟨#[111, 114]⟩ 1 1 1)) (h11 : Hid (Op1 ⟨#[110, 111, 116]⟩ 1 0)) (h12 : Hid (Op2 ⟨#[97, 110, 100]⟩ 0 0 0)) (h13 : Hid (Op2 ⟨#[111, 114]⟩ 1 z o2)) (h14 : Hid (Op2 ⟨#[97, 110, 100]⟩ 1 o2 r)) (h15 : Hid (Op2 ⟨#[97, 110, 100]⟩ 1 z m2)) (h16 : Hid (Op2 ⟨#[111, 114]⟩ 1 m2 r)) (h17 : Hid (Op2 ⟨#[120, 111, 114]⟩ 1 1 0)) (h18 : Hid (Op2 ⟨#[110, 101]⟩ 1 1 0)) (h19 : Hid (Op3 ⟨#[115, 101, 108, 101, 99, 116]⟩ 0 q p p)) :
    Calls Tryd.prog 8 #[.agg #[.bool true, .bool true, .bool c], .agg #[.int .i32 p, .int .i32 q]] w fun e w' => e = .returned (.bool true) ∧ Below w.heap.size w w' := by
  have HT0 := Lib.hid ht
  obtain ⟨x1, x2⟩ := hp
  obtain ⟨y1, y2⟩ := hq
  go_enter Tryd.func8, Tryd.ntmps8
  go_wp2_with (fail)
  refine (awake_any _ (tab_below ht (by go_grown))).mono ?_
  rintro en w1 ⟨rfl, b1⟩
  have HB1 := Lib.hid (bt (by go_grown : Below w.heap.size w _) b1)
  have HT1 := Lib.hid (tab_below HT0.out HB1.out)
  have q0 : w1.cell? ⟨w.heap.size, 0, none⟩ = some (.bool true) := by rw [b1.cell (p := ⟨w.heap.size, 0, none⟩) (by go_size)]; go_cell
  have q1 : w1.cell? ⟨w.heap.size, 1, none⟩ = some (.bool true) := by rw [b1.cell (p := ⟨w.heap.size, 1, none⟩) (by go_size)]; go_cell
  have q2 : w1.cell? ⟨w.heap.size, 2, none⟩ = some (.bool c) := by rw [b1.cell (p := ⟨w.heap.size, 2, none⟩) (by go_size)]; go_cell
  have n0 : w1.cell? ⟨w.heap.size + 1, 0, none⟩ = some (.int .i32 p) := by rw [b1.cell (p := ⟨w.heap.size + 1, 0, none⟩) (by go_size)]; go_cell
  have n1 : w1.cell? ⟨w.heap.size + 1, 1, none⟩ = some (.int .i32 q) := by rw [b1.cell (p := ⟨w.heap.size + 1, 1, none⟩) (by go_size)]; go_cell
  have hz1 : w.heap.size + 2 ≤ w1.heap.size := by have := b1.size; simp at this; omega
  have KC := Lib.hid (And.intro q2 (And.intro n0 n1))
  have HD1 := Lib.hid (Below.refl w1.heap.size w1)
  clear b1 ht
  go_wp2_with (fail)
  go_region
  go_wp2_with (fail)
  have CQ : Hid (∀ w', Below w1.heap.size w1 w' → w'.cell? ⟨w.heap.size, 2, none⟩ = some (.bool c)) := Lib.hid fun w' hb => (hb.cell (p := ⟨w.heap.size, 2, none⟩) (by show w.heap.size < _; omega)).trans KC.out.1
  go_region_held3 (fun w' => w'.cell? ⟨w.heap.size, 2, none⟩ = some (.bool c))
    ((refine CQ.out _ ?_; first | exact HD4.out | exact HD4.out.alloc HD4.out.size _ | exact HD3.out | exact HD3.out.alloc HD3.out.size _ | exact HD2.out | exact HD2.out.alloc HD2.out.size _ | go_grown))
    (first
      | (go_at_call_of 24 c; ((refine (hcc.out _).mono ?_); rintro en w' ⟨rfl, rfl⟩))
      | (go_at_call 24; ((refine (ha.out _).mono ?_); rintro en w' ⟨rfl, rfl⟩))
      | (go_at_call 24; ((refine (hb.out _).mono ?_); rintro en w' ⟨rfl, rfl⟩))
      | (go_at_call 22; ((with_reducible refine (at1 h3 HT3).mono ?_); rintro en w4 ⟨rfl, b⟩; have HB4 := Lib.hid (bt HB3.out b); have HT4 := Lib.hid (tab_below HT0.out HB4.out); have HD4 := Lib.hid (bt HD3.out b); have q2' : w4.cell? ⟨w.heap.size, 2, none⟩ = some (.bool c) := (HD4.out.cell (p := ⟨w.heap.size, 2, none⟩) (by show w.heap.size < _; omega)).trans KC.out.1; have n0' : w4.cell? ⟨w.heap.size + 1, 0, none⟩ = some (.int .i32 p) := (HD4.out.cell (p := ⟨w.heap.size + 1, 0, none⟩) (by show w.heap.size + 1 < _; omega)).trans KC.out.2.1; have n1' : w4.cell? ⟨w.heap.size + 1, 1, none⟩ = some (.int .i32 q) := (HD4.out.cell (p := ⟨w.heap.size + 1, 1, none⟩) (by show w.heap.size + 1 < _; omega)).trans KC.out.2.2; clear b))
      | (go_at_call 22; ((with_reducible refine (at1dd h3 HT3).mono ?_); rintro en w4 ⟨rfl, b⟩; have HB4 := Lib.hid (bt HB3.out b); have HT4 := Lib.hid (tab_below HT0.out HB4.out); have HD4 := Lib.hid (bt HD3.out b); have q2' : w4.cell? ⟨w.heap.size, 2, none⟩ = some (.bool c) := (HD4.out.cell (p := ⟨w.heap.size, 2, none⟩) (by show w.heap.size < _; omega)).trans KC.out.1; have n0' : w4.cell? ⟨w.heap.size + 1, 0, none⟩ = some (.int .i32 p) := (HD4.out.cell (p := ⟨w.heap.size + 1, 0, none⟩) (by show w.heap.size + 1 < _; omega)).trans KC.out.2.1; have n1' : w4.cell? ⟨w.heap.size + 1, 1, none⟩ = some (.int .i32 q) := (HD4.out.cell (p := ⟨w.heap.size + 1, 1, none⟩) (by show w.heap.size + 1 < _; omega)).trans KC.out.2.2; clear b))
      | (go_at_call 22; ((with_reducible refine (at1 h2 HT2).mono ?_); rintro en w3 ⟨rfl, b⟩; have HB3 := Lib.hid (bt HB2.out b); have HT3 := Lib.hid (tab_below HT0.out HB3.out); have HD3 := Lib.hid (bt HD2.out b); have q2' : w3.cell? ⟨w.heap.size, 2, none⟩ = some (.bool c) := (HD3.out.cell (p := ⟨w.heap.size, 2, none⟩) (by show w.heap.size < _; omega)).trans KC.out.1; have n0' : w3.cell? ⟨w.heap.size + 1, 0, none⟩ = some (.int .i32 p) := (HD3.out.cell (p := ⟨w.heap.size + 1, 0, none⟩) (by show w.heap.size + 1 < _; omega)).trans KC.out.2.1; have n1' : w3.cell? ⟨w.heap.size + 1, 1, none⟩ = some (.int .i32 q) := (HD3.out.cell (p := ⟨w.heap.size + 1, 1, none⟩) (by show w.heap.size + 1 < _; omega)).trans KC.out.2.2; clear b))
      | (go_at_call 22; ((with_reducible refine (at1dd h2 HT2).mono ?_); rintro en w3 ⟨rfl, b⟩; have HB3 := Lib.hid (bt HB2.out b); have HT3 := Lib.hid (tab_below HT0.out HB3.out); have HD3 := Lib.hid (bt HD2.out b); have q2' : w3.cell? ⟨w.heap.size, 2, none⟩ = some (.bool c) := (HD3.out.cell (p := ⟨w.heap.size, 2, none⟩) (by show w.heap.size < _; omega)).trans KC.out.1; have n0' : w3.cell? ⟨w.heap.size + 1, 0, none⟩ = some (.int .i32 p) := (HD3.out.cell (p := ⟨w.heap.size + 1, 0, none⟩) (by show w.heap.size + 1 < _; omega)).trans KC.out.2.1; have n1' : w3.cell? ⟨w.heap.size + 1, 1, none⟩ = some (.int .i32 q) := (HD3.out.cell (p := ⟨w.heap.size + 1, 1, none⟩) (by show w.heap.size + 1 < _; omega)).trans KC.out.2.2; clear b))
      | (go_at_call 22; ((with_reducible refine (at1 h1 HT1).mono ?_); rintro en w2 ⟨rfl, b⟩; have HB2 := Lib.hid (bt HB1.out b); have HT2 := Lib.hid (tab_below HT0.out HB2.out); have HD2 := Lib.hid (bt HD1.out b); have q2' : w2.cell? ⟨w.heap.size, 2, none⟩ = some (.bool c) := (HD2.out.cell (p := ⟨w.heap.size, 2, none⟩) (by show w.heap.size < _; omega)).trans KC.out.1; have n0' : w2.cell? ⟨w.heap.size + 1, 0, none⟩ = some (.int .i32 p) := (HD2.out.cell (p := ⟨w.heap.size + 1, 0, none⟩) (by show w.heap.size + 1 < _; omega)).trans KC.out.2.1; have n1' : w2.cell? ⟨w.heap.size + 1, 1, none⟩ = some (.int .i32 q) := (HD2.out.cell (p := ⟨w.heap.size + 1, 1, none⟩) (by show w.heap.size + 1 < _; omega)).trans KC.out.2.2; clear b))
      | (go_at_call 22; ((with_reducible refine (at1dd h1 HT1).mono ?_); rintro en w2 ⟨rfl, b⟩; have HB2 := Lib.hid (bt HB1.out b); have HT2 := Lib.hid (tab_below HT0.out HB2.out); have HD2 := Lib.hid (bt HD1.out b); have q2' : w2.cell? ⟨w.heap.size, 2, none⟩ = some (.bool c) := (HD2.out.cell (p := ⟨w.heap.size, 2, none⟩) (by show w.heap.size < _; omega)).trans KC.out.1; have n0' : w2.cell? ⟨w.heap.size + 1, 0, none⟩ = some (.int .i32 p) := (HD2.out.cell (p := ⟨w.heap.size + 1, 0, none⟩) (by show w.heap.size + 1 < _; omega)).trans KC.out.2.1; have n1' : w2.cell? ⟨w.heap.size + 1, 1, none⟩ = some (.int .i32 q) := (HD2.out.cell (p := ⟨w.heap.size + 1, 1, none⟩) (by show w.heap.size + 1 < _; omega)).trans KC.out.2.2; clear b)))
  go_wp2_with (fail)
  go_region
  go_wp2_with (fail)
  refine (h4.out _ _ (tab_below HT4.out (by go_grown)) (by go_size) (by go_cell) (by go_cell) (by go_cell)).mono ?_
  rintro en w5 ⟨rfl, b⟩
  have HB5 := Lib.hid (bt HB4.out (bt (by go_grown) b))
  have HT5 := Lib.hid (tab_below HT0.out HB5.out)
  clear b
  go_wp2_with (fail)
  refine (ha.out _).mono ?_
  rintro en w' ⟨rfl, rfl⟩
  go_wp2_with (fail)
  refine (h5.out _ _ (tab_below HT5.out (by go_grown)) (by go_size) (by go_cell) (by go_cell)).mono ?_
  rintro en w6 ⟨rfl, b⟩
  have HB6 := Lib.hid (bt HB5.out (bt (by go_grown) b))
  have HT6 := Lib.hid (tab_below HT0.out HB6.out)
  clear b
  go_wp2_with (fail)
  refine (h6.out _ _ (tab_below HT6.out (by go_grown)) (by go_size) (by go_cell)).mono ?_
  rintro en w7 ⟨rfl, b⟩
  have HB7 := Lib.hid (bt HB6.out (bt (by go_grown) b))
  have HT7 := Lib.hid (tab_below HT0.out HB7.out)
  clear b
  go_wp2_with (fail)
  refine (h7.out _ _ (tab_below HT7.out (by go_grown)) (by go_size) (by go_cell)).mono ?_
  rintro en w8 ⟨rfl, b⟩
  have HB8 := Lib.hid (bt HB7.out (bt (by go_grown) b))
  have HT8 := Lib.hid (tab_below HT0.out HB8.out)
  clear b
  go_wp2_with (fail)
  refine (h8.out _ _ (tab_below HT8.out (by go_grown)) (by go_size) (by go_cell)).mono ?_
  rintro en w9 ⟨rfl, b⟩
  have HB9 := Lib.hid (bt HB8.out (bt (by go_grown) b))
  have HT9 := Lib.hid (tab_below HT0.out HB9.out)
  clear b
  go_wp2_with (fail)
  refine (h9.out _ _ (tab_below HT9.out (by go_grown)) (by go_size) (by go_cell) (by go_cell)).mono ?_
  rintro en w10 ⟨rfl, b⟩
  have HB10 := Lib.hid (bt HB9.out (bt (by go_grown) b))
  have HT10 := Lib.hid (tab_below HT0.out HB10.out)
  clear b
  go_wp2_with (fail)
  refine (h10.out _ _ (tab_below HT10.out (by go_grown)) (by go_size) (by go_cell) (by go_cell)).mono ?_
  rintro en w11 ⟨rfl, b⟩
  have HB11 := Lib.hid (bt HB10.out (bt (by go_grown) b))
  have HT11 := Lib.hid (tab_below HT0.out HB11.out)
  clear b
  go_wp2_with (fail)
  refine (h11.out _ _ (tab_below HT11.out (by go_grown)) (by go_size) (by go_cell)).mono ?_
  rintro en w12 ⟨rfl, b⟩
  have HB12 := Lib.hid (bt HB11.out (bt (by go_grown) b))
  have HT12 := Lib.hid (tab_below HT0.out HB12.out)
  clear b
  go_wp2_with (fail)
  refine (h7.out _ _ (tab_below HT12.out (by go_grown)) (by go_size) (by go_cell)).mono ?_
  rintro en w13 ⟨rfl, b⟩
  have HB13 := Lib.hid (bt HB12.out (bt (by go_grown) b))
  have HT13 := Lib.hid (tab_below HT0.out HB13.out)
  clear b
  go_wp2_with (fail)
  refine (h8.out _ _ (tab_below HT13.out (by go_grown)) (by go_size) (by go_cell)).mono ?_
  rintro en w14 ⟨rfl, b⟩
  have HB14 := Lib.hid (bt HB13.out (bt (by go_grown) b))
  have HT14 := Lib.hid (tab_below HT0.out HB14.out)
  clear b
  go_wp2_with (fail)
  refine (h12.out _ _ (tab_below HT14.out (by go_grown)) (by go_size) (by go_cell) (by go_cell)).mono ?_
  rintro en w15 ⟨rfl, b⟩
  have HB15 := Lib.hid (bt HB14.out (bt (by go_grown) b))
  have HT15 := Lib.hid (tab_below HT0.out HB15.out)
  clear b
  go_wp2_with (fail)
  refine (h13.out _ _ (tab_below HT15.out (by go_grown)) (by go_size) (by go_cell) (by go_cell)).mono ?_
  rintro en w16 ⟨rfl, b⟩
  have HB16 := Lib.hid (bt HB15.out (bt (by go_grown) b))
  have HT16 := Lib.hid (tab_below HT0.out HB16.out)
  clear b
  go_wp2_with (fail)
  refine (h14.out _ _ (tab_below HT16.out (by go_grown)) (by go_size) (by go_cell) (by go_cell)).mono ?_
  rintro en w17 ⟨rfl, b⟩
  have HB17 := Lib.hid (bt HB16.out (bt (by go_grown) b))
  have HT17 := Lib.hid (tab_below HT0.out HB17.out)
  clear b
  go_wp2_with (fail)
  refine (h5.out _ _ (tab_below HT17.out (by go_grown)) (by go_size) (by go_cell) (by go_cell)).mono ?_
  rintro en w18 ⟨rfl, b⟩
  have HB18 := Lib.hid (bt HB17.out (bt (by go_grown) b))
  have HT18 := Lib.hid (tab_below HT0.out HB18.out)
  clear b
  go_wp2_with (fail)
  refine (h15.out _ _ (tab_below HT18.out (by go_grown)) (by go_size) (by go_cell) (by go_cell)).mono ?_
  rintro en w19 ⟨rfl, b⟩
  have HB19 := Lib.hid (bt HB18.out (bt (by go_grown) b))
  have HT19 := Lib.hid (tab_below HT0.out HB19.out)
  clear b
  go_wp2_with (fail)
  refine (h16.out _ _ (tab_below HT19.out (by go_grown)) (by go_size) (by go_cell) (by go_cell)).mono ?_
  rintro en w20 ⟨rfl, b⟩
  have HB20 := Lib.hid (bt HB19.out (bt (by go_grown) b))
  have HT20 := Lib.hid (tab_below HT0.out HB20.out)
  clear b
  go_wp2_with (fail)
  refine (h17.out _ _ (tab_below HT20.out (by go_grown)) (by go_size) (by go_cell) (by go_cell)).mono ?_
  rintro en w21 ⟨rfl, b⟩
  have HB21 := Lib.hid (bt HB20.out (bt (by go_grown) b))
  have HT21 := Lib.hid (tab_below HT0.out HB21.out)
  clear b
  go_wp2_with (fail)
  refine (h18.out _ _ (tab_below HT21.out (by go_grown)) (by go_size) (by go_cell) (by go_cell)).mono ?_
  rintro en w22 ⟨rfl, b⟩
  have HB22 := Lib.hid (bt HB21.out (bt (by go_grown) b))
  have HT22 := Lib.hid (tab_below HT0.out HB22.out)
  clear b
  go_wp2_with (fail)
  refine (h7.out _ _ (tab_below HT22.out (by go_grown)) (by go_size) (by go_cell)).mono ?_
  rintro en w23 ⟨rfl, b⟩
  have HB23 := Lib.hid (bt HB22.out (bt (by go_grown) b))
  have HT23 := Lib.hid (tab_below HT0.out HB23.out)
  clear b
  go_wp2_with (fail)
  refine (h19.out _ _ (tab_below HT23.out (by go_grown)) (by go_size) (by go_cell) (by go_cell) (by go_cell)).mono ?_
  rintro en w24 ⟨rfl, b⟩
  have HB24 := Lib.hid (bt HB23.out (bt (by go_grown) b))
  have HT24 := Lib.hid (tab_below HT0.out HB24.out)
  clear b
  go_wp2_with (fail)
  refine (h5.out _ _ (tab_below HT24.out (by go_grown)) (by go_size) (by go_cell) (by go_cell)).mono ?_
  rintro en w25 ⟨rfl, b⟩
  have HB25 := Lib.hid (bt HB24.out (bt (by go_grown) b))
  have HT25 := Lib.hid (tab_below HT0.out HB25.out)
  clear b
  go_wp2
  go_ret
  exact ⟨rfl, HB25.out⟩

set_option maxRecDepth 100000 in
set_option maxHeartbeats 4000000 in
theorem bool_true_false (c : Bool) (z p q o2 r m2 : Int) (w : World) (ht : Tab w) (ha : Hid (Bit true 1)) (hb : Hid (Bit false 0)) (hcc : Hid (Bit c z)) (hp : -2147483648 ≤ p ∧ p ≤ 2147483647) (hq : -2147483648 ≤ q ∧ q ≤ 2147483647) (h1 : Hid (Op1 ⟨#[116, 111, 105, 110, 116]⟩ 1 1)) (h2 : Hid (Op1 ⟨#[116, 111, 105, 110, 116]⟩ 0 0)) (h3 : Hid (Op1 ⟨#[116, 111, 105, 110, 116]⟩ z z)) (h4 : Hid (Op3 ⟨#[115, 101, 108, 101, 99, 116]⟩ 1 p q p)) (h5 : Hid (Op2 ⟨#[97, 110, 100]⟩ 1 0 0)) (h6 : Hid (Op1 ⟨#[110, 111, 116]⟩ 0 1)) (h7 : Hid (Op1 ⟨#[110, 111, 116]⟩ 1 0)) (h8 : Hid (Op1 ⟨#[110, 111, 116]⟩ 0 1)) (h9 : Hid (Op2 ⟨#[111, 114]⟩ 0 1 1)) (h10 : Hid (Op2 ⟨#[111, 114]⟩ 1 0 1)) (h11 : Hid (Op1 ⟨#[110, 111, 116]⟩ 1 0)) (h12 : Hid (Op2 ⟨#[97, 110, 100]⟩ 0 1 0)) (h13 : Hid (Op2 ⟨#[111, 114]⟩ 0 z o2)) (h14 : Hid (Op2 ⟨#[97, 110, 100]⟩ 1 o2 r)) (h15 : Hid (Op2 ⟨#[97, 110, 100]⟩ 1 z m2)) (h16 : Hid (Op2 ⟨#[111, 114]⟩ 0 m2 r)) (h17 : Hid (Op2 ⟨#[120, 111, 114]⟩ 1 0 1)) (h18 : Hid (Op2 ⟨#[110, 101]⟩ 1 0 1)) (h19 : Hid (Op3 ⟨#[115, 101, 108, 101, 99, 116]⟩ 0 q p p)) :
    Calls Tryd.prog 8 #[.agg #[.bool true, .bool false, .bool c], .agg #[.int .i32 p, .int .i32 q]] w fun e w' => e = .returned (.bool true) ∧ Below w.heap.size w w' := by
  have HT0 := Lib.hid ht
  obtain ⟨x1, x2⟩ := hp
  obtain ⟨y1, y2⟩ := hq
  go_enter Tryd.func8, Tryd.ntmps8
  go_wp2_with (fail)
  refine (awake_any _ (tab_below ht (by go_grown))).mono ?_
  rintro en w1 ⟨rfl, b1⟩
  have HB1 := Lib.hid (bt (by go_grown : Below w.heap.size w _) b1)
  have HT1 := Lib.hid (tab_below HT0.out HB1.out)
  have q0 : w1.cell? ⟨w.heap.size, 0, none⟩ = some (.bool true) := by rw [b1.cell (p := ⟨w.heap.size, 0, none⟩) (by go_size)]; go_cell
  have q1 : w1.cell? ⟨w.heap.size, 1, none⟩ = some (.bool false) := by rw [b1.cell (p := ⟨w.heap.size, 1, none⟩) (by go_size)]; go_cell
  have q2 : w1.cell? ⟨w.heap.size, 2, none⟩ = some (.bool c) := by rw [b1.cell (p := ⟨w.heap.size, 2, none⟩) (by go_size)]; go_cell
  have n0 : w1.cell? ⟨w.heap.size + 1, 0, none⟩ = some (.int .i32 p) := by rw [b1.cell (p := ⟨w.heap.size + 1, 0, none⟩) (by go_size)]; go_cell
  have n1 : w1.cell? ⟨w.heap.size + 1, 1, none⟩ = some (.int .i32 q) := by rw [b1.cell (p := ⟨w.heap.size + 1, 1, none⟩) (by go_size)]; go_cell
  have hz1 : w.heap.size + 2 ≤ w1.heap.size := by have := b1.size; simp at this; omega
  have KC := Lib.hid (And.intro q2 (And.intro n0 n1))
  have HD1 := Lib.hid (Below.refl w1.heap.size w1)
  clear b1 ht
  go_wp2_with (fail)
  go_region
  go_wp2_with (fail)
  have CQ : Hid (∀ w', Below w1.heap.size w1 w' → w'.cell? ⟨w.heap.size, 2, none⟩ = some (.bool c)) := Lib.hid fun w' hb => (hb.cell (p := ⟨w.heap.size, 2, none⟩) (by show w.heap.size < _; omega)).trans KC.out.1
  go_region_held3 (fun w' => w'.cell? ⟨w.heap.size, 2, none⟩ = some (.bool c))
    ((refine CQ.out _ ?_; first | exact HD4.out | exact HD4.out.alloc HD4.out.size _ | exact HD3.out | exact HD3.out.alloc HD3.out.size _ | exact HD2.out | exact HD2.out.alloc HD2.out.size _ | go_grown))
    (first
      | (go_at_call_of 24 c; ((refine (hcc.out _).mono ?_); rintro en w' ⟨rfl, rfl⟩))
      | (go_at_call 24; ((refine (ha.out _).mono ?_); rintro en w' ⟨rfl, rfl⟩))
      | (go_at_call 24; ((refine (hb.out _).mono ?_); rintro en w' ⟨rfl, rfl⟩))
      | (go_at_call 22; ((with_reducible refine (at1 h3 HT3).mono ?_); rintro en w4 ⟨rfl, b⟩; have HB4 := Lib.hid (bt HB3.out b); have HT4 := Lib.hid (tab_below HT0.out HB4.out); have HD4 := Lib.hid (bt HD3.out b); have q2' : w4.cell? ⟨w.heap.size, 2, none⟩ = some (.bool c) := (HD4.out.cell (p := ⟨w.heap.size, 2, none⟩) (by show w.heap.size < _; omega)).trans KC.out.1; have n0' : w4.cell? ⟨w.heap.size + 1, 0, none⟩ = some (.int .i32 p) := (HD4.out.cell (p := ⟨w.heap.size + 1, 0, none⟩) (by show w.heap.size + 1 < _; omega)).trans KC.out.2.1; have n1' : w4.cell? ⟨w.heap.size + 1, 1, none⟩ = some (.int .i32 q) := (HD4.out.cell (p := ⟨w.heap.size + 1, 1, none⟩) (by show w.heap.size + 1 < _; omega)).trans KC.out.2.2; clear b))
      | (go_at_call 22; ((with_reducible refine (at1dd h3 HT3).mono ?_); rintro en w4 ⟨rfl, b⟩; have HB4 := Lib.hid (bt HB3.out b); have HT4 := Lib.hid (tab_below HT0.out HB4.out); have HD4 := Lib.hid (bt HD3.out b); have q2' : w4.cell? ⟨w.heap.size, 2, none⟩ = some (.bool c) := (HD4.out.cell (p := ⟨w.heap.size, 2, none⟩) (by show w.heap.size < _; omega)).trans KC.out.1; have n0' : w4.cell? ⟨w.heap.size + 1, 0, none⟩ = some (.int .i32 p) := (HD4.out.cell (p := ⟨w.heap.size + 1, 0, none⟩) (by show w.heap.size + 1 < _; omega)).trans KC.out.2.1; have n1' : w4.cell? ⟨w.heap.size + 1, 1, none⟩ = some (.int .i32 q) := (HD4.out.cell (p := ⟨w.heap.size + 1, 1, none⟩) (by show w.heap.size + 1 < _; omega)).trans KC.out.2.2; clear b))
      | (go_at_call 22; ((with_reducible refine (at1 h2 HT2).mono ?_); rintro en w3 ⟨rfl, b⟩; have HB3 := Lib.hid (bt HB2.out b); have HT3 := Lib.hid (tab_below HT0.out HB3.out); have HD3 := Lib.hid (bt HD2.out b); have q2' : w3.cell? ⟨w.heap.size, 2, none⟩ = some (.bool c) := (HD3.out.cell (p := ⟨w.heap.size, 2, none⟩) (by show w.heap.size < _; omega)).trans KC.out.1; have n0' : w3.cell? ⟨w.heap.size + 1, 0, none⟩ = some (.int .i32 p) := (HD3.out.cell (p := ⟨w.heap.size + 1, 0, none⟩) (by show w.heap.size + 1 < _; omega)).trans KC.out.2.1; have n1' : w3.cell? ⟨w.heap.size + 1, 1, none⟩ = some (.int .i32 q) := (HD3.out.cell (p := ⟨w.heap.size + 1, 1, none⟩) (by show w.heap.size + 1 < _; omega)).trans KC.out.2.2; clear b))
      | (go_at_call 22; ((with_reducible refine (at1dd h2 HT2).mono ?_); rintro en w3 ⟨rfl, b⟩; have HB3 := Lib.hid (bt HB2.out b); have HT3 := Lib.hid (tab_below HT0.out HB3.out); have HD3 := Lib.hid (bt HD2.out b); have q2' : w3.cell? ⟨w.heap.size, 2, none⟩ = some (.bool c) := (HD3.out.cell (p := ⟨w.heap.size, 2, none⟩) (by show w.heap.size < _; omega)).trans KC.out.1; have n0' : w3.cell? ⟨w.heap.size + 1, 0, none⟩ = some (.int .i32 p) := (HD3.out.cell (p := ⟨w.heap.size + 1, 0, none⟩) (by show w.heap.size + 1 < _; omega)).trans KC.out.2.1; have n1' : w3.cell? ⟨w.heap.size + 1, 1, none⟩ = some (.int .i32 q) := (HD3.out.cell (p := ⟨w.heap.size + 1, 1, none⟩) (by show w.heap.size + 1 < _; omega)).trans KC.out.2.2; clear b))
      | (go_at_call 22; ((with_reducible refine (at1 h1 HT1).mono ?_); rintro en w2 ⟨rfl, b⟩; have HB2 := Lib.hid (bt HB1.out b); have HT2 := Lib.hid (tab_below HT0.out HB2.out); have HD2 := Lib.hid (bt HD1.out b); have q2' : w2.cell? ⟨w.heap.size, 2, none⟩ = some (.bool c) := (HD2.out.cell (p := ⟨w.heap.size, 2, none⟩) (by show w.heap.size < _; omega)).trans KC.out.1; have n0' : w2.cell? ⟨w.heap.size + 1, 0, none⟩ = some (.int .i32 p) := (HD2.out.cell (p := ⟨w.heap.size + 1, 0, none⟩) (by show w.heap.size + 1 < _; omega)).trans KC.out.2.1; have n1' : w2.cell? ⟨w.heap.size + 1, 1, none⟩ = some (.int .i32 q) := (HD2.out.cell (p := ⟨w.heap.size + 1, 1, none⟩) (by show w.heap.size + 1 < _; omega)).trans KC.out.2.2; clear b))
      | (go_at_call 22; ((with_reducible refine (at1dd h1 HT1).mono ?_); rintro en w2 ⟨rfl, b⟩; have HB2 := Lib.hid (bt HB1.out b); have HT2 := Lib.hid (tab_below HT0.out HB2.out); have HD2 := Lib.hid (bt HD1.out b); have q2' : w2.cell? ⟨w.heap.size, 2, none⟩ = some (.bool c) := (HD2.out.cell (p := ⟨w.heap.size, 2, none⟩) (by show w.heap.size < _; omega)).trans KC.out.1; have n0' : w2.cell? ⟨w.heap.size + 1, 0, none⟩ = some (.int .i32 p) := (HD2.out.cell (p := ⟨w.heap.size + 1, 0, none⟩) (by show w.heap.size + 1 < _; omega)).trans KC.out.2.1; have n1' : w2.cell? ⟨w.heap.size + 1, 1, none⟩ = some (.int .i32 q) := (HD2.out.cell (p := ⟨w.heap.size + 1, 1, none⟩) (by show w.heap.size + 1 < _; omega)).trans KC.out.2.2; clear b)))
  go_wp2_with (fail)
  go_region
  go_wp2_with (fail)
  refine (h4.out _ _ (tab_below HT4.out (by go_grown)) (by go_size) (by go_cell) (by go_cell) (by go_cell)).mono ?_
  rintro en w5 ⟨rfl, b⟩
  have HB5 := Lib.hid (bt HB4.out (bt (by go_grown) b))
  have HT5 := Lib.hid (tab_below HT0.out HB5.out)
  clear b
  go_wp2_with (fail)
  refine (ha.out _).mono ?_
  rintro en w' ⟨rfl, rfl⟩
  go_wp2_with (fail)
  refine (h5.out _ _ (tab_below HT5.out (by go_grown)) (by go_size) (by go_cell) (by go_cell)).mono ?_
  rintro en w6 ⟨rfl, b⟩
  have HB6 := Lib.hid (bt HB5.out (bt (by go_grown) b))
  have HT6 := Lib.hid (tab_below HT0.out HB6.out)
  clear b
  go_wp2_with (fail)
  refine (h6.out _ _ (tab_below HT6.out (by go_grown)) (by go_size) (by go_cell)).mono ?_
  rintro en w7 ⟨rfl, b⟩
  have HB7 := Lib.hid (bt HB6.out (bt (by go_grown) b))
  have HT7 := Lib.hid (tab_below HT0.out HB7.out)
  clear b
  go_wp2_with (fail)
  refine (h7.out _ _ (tab_below HT7.out (by go_grown)) (by go_size) (by go_cell)).mono ?_
  rintro en w8 ⟨rfl, b⟩
  have HB8 := Lib.hid (bt HB7.out (bt (by go_grown) b))
  have HT8 := Lib.hid (tab_below HT0.out HB8.out)
  clear b
  go_wp2_with (fail)
  refine (h8.out _ _ (tab_below HT8.out (by go_grown)) (by go_size) (by go_cell)).mono ?_
  rintro en w9 ⟨rfl, b⟩
  have HB9 := Lib.hid (bt HB8.out (bt (by go_grown) b))
  have HT9 := Lib.hid (tab_below HT0.out HB9.out)
  clear b
  go_wp2_with (fail)
  refine (h9.out _ _ (tab_below HT9.out (by go_grown)) (by go_size) (by go_cell) (by go_cell)).mono ?_
  rintro en w10 ⟨rfl, b⟩
  have HB10 := Lib.hid (bt HB9.out (bt (by go_grown) b))
  have HT10 := Lib.hid (tab_below HT0.out HB10.out)
  clear b
  go_wp2_with (fail)
  refine (h10.out _ _ (tab_below HT10.out (by go_grown)) (by go_size) (by go_cell) (by go_cell)).mono ?_
  rintro en w11 ⟨rfl, b⟩
  have HB11 := Lib.hid (bt HB10.out (bt (by go_grown) b))
  have HT11 := Lib.hid (tab_below HT0.out HB11.out)
  clear b
  go_wp2_with (fail)
  refine (h11.out _ _ (tab_below HT11.out (by go_grown)) (by go_size) (by go_cell)).mono ?_
  rintro en w12 ⟨rfl, b⟩
  have HB12 := Lib.hid (bt HB11.out (bt (by go_grown) b))
  have HT12 := Lib.hid (tab_below HT0.out HB12.out)
  clear b
  go_wp2_with (fail)
  refine (h7.out _ _ (tab_below HT12.out (by go_grown)) (by go_size) (by go_cell)).mono ?_
  rintro en w13 ⟨rfl, b⟩
  have HB13 := Lib.hid (bt HB12.out (bt (by go_grown) b))
  have HT13 := Lib.hid (tab_below HT0.out HB13.out)
  clear b
  go_wp2_with (fail)
  refine (h8.out _ _ (tab_below HT13.out (by go_grown)) (by go_size) (by go_cell)).mono ?_
  rintro en w14 ⟨rfl, b⟩
  have HB14 := Lib.hid (bt HB13.out (bt (by go_grown) b))
  have HT14 := Lib.hid (tab_below HT0.out HB14.out)
  clear b
  go_wp2_with (fail)
  refine (h12.out _ _ (tab_below HT14.out (by go_grown)) (by go_size) (by go_cell) (by go_cell)).mono ?_
  rintro en w15 ⟨rfl, b⟩
  have HB15 := Lib.hid (bt HB14.out (bt (by go_grown) b))
  have HT15 := Lib.hid (tab_below HT0.out HB15.out)
  clear b
  go_wp2_with (fail)
  refine (h13.out _ _ (tab_below HT15.out (by go_grown)) (by go_size) (by go_cell) (by go_cell)).mono ?_
  rintro en w16 ⟨rfl, b⟩
  have HB16 := Lib.hid (bt HB15.out (bt (by go_grown) b))
  have HT16 := Lib.hid (tab_below HT0.out HB16.out)
  clear b
  go_wp2_with (fail)
  refine (h14.out _ _ (tab_below HT16.out (by go_grown)) (by go_size) (by go_cell) (by go_cell)).mono ?_
  rintro en w17 ⟨rfl, b⟩
  have HB17 := Lib.hid (bt HB16.out (bt (by go_grown) b))
  have HT17 := Lib.hid (tab_below HT0.out HB17.out)
  clear b
  go_wp2_with (fail)
  refine (h5.out _ _ (tab_below HT17.out (by go_grown)) (by go_size) (by go_cell) (by go_cell)).mono ?_
  rintro en w18 ⟨rfl, b⟩
  have HB18 := Lib.hid (bt HB17.out (bt (by go_grown) b))
  have HT18 := Lib.hid (tab_below HT0.out HB18.out)
  clear b
  go_wp2_with (fail)
  refine (h15.out _ _ (tab_below HT18.out (by go_grown)) (by go_size) (by go_cell) (by go_cell)).mono ?_
  rintro en w19 ⟨rfl, b⟩
  have HB19 := Lib.hid (bt HB18.out (bt (by go_grown) b))
  have HT19 := Lib.hid (tab_below HT0.out HB19.out)
  clear b
  go_wp2_with (fail)
  refine (h16.out _ _ (tab_below HT19.out (by go_grown)) (by go_size) (by go_cell) (by go_cell)).mono ?_
  rintro en w20 ⟨rfl, b⟩
  have HB20 := Lib.hid (bt HB19.out (bt (by go_grown) b))
  have HT20 := Lib.hid (tab_below HT0.out HB20.out)
  clear b
  go_wp2_with (fail)
  refine (h17.out _ _ (tab_below HT20.out (by go_grown)) (by go_size) (by go_cell) (by go_cell)).mono ?_
  rintro en w21 ⟨rfl, b⟩
  have HB21 := Lib.hid (bt HB20.out (bt (by go_grown) b))
  have HT21 := Lib.hid (tab_below HT0.out HB21.out)
  clear b
  go_wp2_with (fail)
  refine (h18.out _ _ (tab_below HT21.out (by go_grown)) (by go_size) (by go_cell) (by go_cell)).mono ?_
  rintro en w22 ⟨rfl, b⟩
  have HB22 := Lib.hid (bt HB21.out (bt (by go_grown) b))
  have HT22 := Lib.hid (tab_below HT0.out HB22.out)
  clear b
  go_wp2_with (fail)
  refine (h7.out _ _ (tab_below HT22.out (by go_grown)) (by go_size) (by go_cell)).mono ?_
  rintro en w23 ⟨rfl, b⟩
  have HB23 := Lib.hid (bt HB22.out (bt (by go_grown) b))
  have HT23 := Lib.hid (tab_below HT0.out HB23.out)
  clear b
  go_wp2_with (fail)
  refine (h19.out _ _ (tab_below HT23.out (by go_grown)) (by go_size) (by go_cell) (by go_cell) (by go_cell)).mono ?_
  rintro en w24 ⟨rfl, b⟩
  have HB24 := Lib.hid (bt HB23.out (bt (by go_grown) b))
  have HT24 := Lib.hid (tab_below HT0.out HB24.out)
  clear b
  go_wp2_with (fail)
  refine (h5.out _ _ (tab_below HT24.out (by go_grown)) (by go_size) (by go_cell) (by go_cell)).mono ?_
  rintro en w25 ⟨rfl, b⟩
  have HB25 := Lib.hid (bt HB24.out (bt (by go_grown) b))
  have HT25 := Lib.hid (tab_below HT0.out HB25.out)
  clear b
  go_wp2
  go_ret
  exact ⟨rfl, HB25.out⟩

set_option maxRecDepth 100000 in
set_option maxHeartbeats 4000000 in
theorem bool_false_true (c : Bool) (z p q o2 r m2 : Int) (w : World) (ht : Tab w) (ha : Hid (Bit false 0)) (hb : Hid (Bit true 1)) (hcc : Hid (Bit c z)) (hp : -2147483648 ≤ p ∧ p ≤ 2147483647) (hq : -2147483648 ≤ q ∧ q ≤ 2147483647) (h1 : Hid (Op1 ⟨#[116, 111, 105, 110, 116]⟩ 0 0)) (h2 : Hid (Op1 ⟨#[116, 111, 105, 110, 116]⟩ 1 1)) (h3 : Hid (Op1 ⟨#[116, 111, 105, 110, 116]⟩ z z)) (h4 : Hid (Op3 ⟨#[115, 101, 108, 101, 99, 116]⟩ 0 p q q)) (h5 : Hid (Op2 ⟨#[97, 110, 100]⟩ 0 1 0)) (h6 : Hid (Op1 ⟨#[110, 111, 116]⟩ 0 1)) (h7 : Hid (Op1 ⟨#[110, 111, 116]⟩ 0 1)) (h8 : Hid (Op1 ⟨#[110, 111, 116]⟩ 1 0)) (h9 : Hid (Op2 ⟨#[111, 114]⟩ 1 0 1)) (h10 : Hid (Op2 ⟨#[111, 114]⟩ 0 1 1)) (h11 : Hid (Op1 ⟨#[110, 111, 116]⟩ 1 0)) (h12 : Hid (Op2 ⟨#[97, 110, 100]⟩ 1 0 0)) (h13 : Hid (Op2 ⟨#[111, 114]⟩ 1 z o2)) (h14 : Hid (Op2 ⟨#[97, 110, 100]⟩ 0 o2 r)) (h15 : Hid (Op2 ⟨#[97, 110, 100]⟩ 0 z m2)) (h16 : Hid (Op2 ⟨#[111, 114]⟩ 0 m2 r)) (h17 : Hid (Op2 ⟨#[120, 111, 114]⟩ 0 1 1)) (h18 : Hid (Op2 ⟨#[110, 101]⟩ 0 1 1)) (h19 : Hid (Op3 ⟨#[115, 101, 108, 101, 99, 116]⟩ 1 q p q)) :
    Calls Tryd.prog 8 #[.agg #[.bool false, .bool true, .bool c], .agg #[.int .i32 p, .int .i32 q]] w fun e w' => e = .returned (.bool true) ∧ Below w.heap.size w w' := by
  have HT0 := Lib.hid ht
  obtain ⟨x1, x2⟩ := hp
  obtain ⟨y1, y2⟩ := hq
  go_enter Tryd.func8, Tryd.ntmps8
  go_wp2_with (fail)
  refine (awake_any _ (tab_below ht (by go_grown))).mono ?_
  rintro en w1 ⟨rfl, b1⟩
  have HB1 := Lib.hid (bt (by go_grown : Below w.heap.size w _) b1)
  have HT1 := Lib.hid (tab_below HT0.out HB1.out)
  have q0 : w1.cell? ⟨w.heap.size, 0, none⟩ = some (.bool false) := by rw [b1.cell (p := ⟨w.heap.size, 0, none⟩) (by go_size)]; go_cell
  have q1 : w1.cell? ⟨w.heap.size, 1, none⟩ = some (.bool true) := by rw [b1.cell (p := ⟨w.heap.size, 1, none⟩) (by go_size)]; go_cell
  have q2 : w1.cell? ⟨w.heap.size, 2, none⟩ = some (.bool c) := by rw [b1.cell (p := ⟨w.heap.size, 2, none⟩) (by go_size)]; go_cell
  have n0 : w1.cell? ⟨w.heap.size + 1, 0, none⟩ = some (.int .i32 p) := by rw [b1.cell (p := ⟨w.heap.size + 1, 0, none⟩) (by go_size)]; go_cell
  have n1 : w1.cell? ⟨w.heap.size + 1, 1, none⟩ = some (.int .i32 q) := by rw [b1.cell (p := ⟨w.heap.size + 1, 1, none⟩) (by go_size)]; go_cell
  have hz1 : w.heap.size + 2 ≤ w1.heap.size := by have := b1.size; simp at this; omega
  have KC := Lib.hid (And.intro q2 (And.intro n0 n1))
  have HD1 := Lib.hid (Below.refl w1.heap.size w1)
  clear b1 ht
  go_wp2_with (fail)
  go_region
  go_wp2_with (fail)
  have CQ : Hid (∀ w', Below w1.heap.size w1 w' → w'.cell? ⟨w.heap.size, 2, none⟩ = some (.bool c)) := Lib.hid fun w' hb => (hb.cell (p := ⟨w.heap.size, 2, none⟩) (by show w.heap.size < _; omega)).trans KC.out.1
  go_region_held3 (fun w' => w'.cell? ⟨w.heap.size, 2, none⟩ = some (.bool c))
    ((refine CQ.out _ ?_; first | exact HD4.out | exact HD4.out.alloc HD4.out.size _ | exact HD3.out | exact HD3.out.alloc HD3.out.size _ | exact HD2.out | exact HD2.out.alloc HD2.out.size _ | go_grown))
    (first
      | (go_at_call_of 24 c; ((refine (hcc.out _).mono ?_); rintro en w' ⟨rfl, rfl⟩))
      | (go_at_call 24; ((refine (ha.out _).mono ?_); rintro en w' ⟨rfl, rfl⟩))
      | (go_at_call 24; ((refine (hb.out _).mono ?_); rintro en w' ⟨rfl, rfl⟩))
      | (go_at_call 22; ((with_reducible refine (at1 h3 HT3).mono ?_); rintro en w4 ⟨rfl, b⟩; have HB4 := Lib.hid (bt HB3.out b); have HT4 := Lib.hid (tab_below HT0.out HB4.out); have HD4 := Lib.hid (bt HD3.out b); have q2' : w4.cell? ⟨w.heap.size, 2, none⟩ = some (.bool c) := (HD4.out.cell (p := ⟨w.heap.size, 2, none⟩) (by show w.heap.size < _; omega)).trans KC.out.1; have n0' : w4.cell? ⟨w.heap.size + 1, 0, none⟩ = some (.int .i32 p) := (HD4.out.cell (p := ⟨w.heap.size + 1, 0, none⟩) (by show w.heap.size + 1 < _; omega)).trans KC.out.2.1; have n1' : w4.cell? ⟨w.heap.size + 1, 1, none⟩ = some (.int .i32 q) := (HD4.out.cell (p := ⟨w.heap.size + 1, 1, none⟩) (by show w.heap.size + 1 < _; omega)).trans KC.out.2.2; clear b))
      | (go_at_call 22; ((with_reducible refine (at1dd h3 HT3).mono ?_); rintro en w4 ⟨rfl, b⟩; have HB4 := Lib.hid (bt HB3.out b); have HT4 := Lib.hid (tab_below HT0.out HB4.out); have HD4 := Lib.hid (bt HD3.out b); have q2' : w4.cell? ⟨w.heap.size, 2, none⟩ = some (.bool c) := (HD4.out.cell (p := ⟨w.heap.size, 2, none⟩) (by show w.heap.size < _; omega)).trans KC.out.1; have n0' : w4.cell? ⟨w.heap.size + 1, 0, none⟩ = some (.int .i32 p) := (HD4.out.cell (p := ⟨w.heap.size + 1, 0, none⟩) (by show w.heap.size + 1 < _; omega)).trans KC.out.2.1; have n1' : w4.cell? ⟨w.heap.size + 1, 1, none⟩ = some (.int .i32 q) := (HD4.out.cell (p := ⟨w.heap.size + 1, 1, none⟩) (by show w.heap.size + 1 < _; omega)).trans KC.out.2.2; clear b))
      | (go_at_call 22; ((with_reducible refine (at1 h2 HT2).mono ?_); rintro en w3 ⟨rfl, b⟩; have HB3 := Lib.hid (bt HB2.out b); have HT3 := Lib.hid (tab_below HT0.out HB3.out); have HD3 := Lib.hid (bt HD2.out b); have q2' : w3.cell? ⟨w.heap.size, 2, none⟩ = some (.bool c) := (HD3.out.cell (p := ⟨w.heap.size, 2, none⟩) (by show w.heap.size < _; omega)).trans KC.out.1; have n0' : w3.cell? ⟨w.heap.size + 1, 0, none⟩ = some (.int .i32 p) := (HD3.out.cell (p := ⟨w.heap.size + 1, 0, none⟩) (by show w.heap.size + 1 < _; omega)).trans KC.out.2.1; have n1' : w3.cell? ⟨w.heap.size + 1, 1, none⟩ = some (.int .i32 q) := (HD3.out.cell (p := ⟨w.heap.size + 1, 1, none⟩) (by show w.heap.size + 1 < _; omega)).trans KC.out.2.2; clear b))
      | (go_at_call 22; ((with_reducible refine (at1dd h2 HT2).mono ?_); rintro en w3 ⟨rfl, b⟩; have HB3 := Lib.hid (bt HB2.out b); have HT3 := Lib.hid (tab_below HT0.out HB3.out); have HD3 := Lib.hid (bt HD2.out b); have q2' : w3.cell? ⟨w.heap.size, 2, none⟩ = some (.bool c) := (HD3.out.cell (p := ⟨w.heap.size, 2, none⟩) (by show w.heap.size < _; omega)).trans KC.out.1; have n0' : w3.cell? ⟨w.heap.size + 1, 0, none⟩ = some (.int .i32 p) := (HD3.out.cell (p := ⟨w.heap.size + 1, 0, none⟩) (by show w.heap.size + 1 < _; omega)).trans KC.out.2.1; have n1' : w3.cell? ⟨w.heap.size + 1, 1, none⟩ = some (.int .i32 q) := (HD3.out.cell (p := ⟨w.heap.size + 1, 1, none⟩) (by show w.heap.size + 1 < _; omega)).trans KC.out.2.2; clear b))
      | (go_at_call 22; ((with_reducible refine (at1 h1 HT1).mono ?_); rintro en w2 ⟨rfl, b⟩; have HB2 := Lib.hid (bt HB1.out b); have HT2 := Lib.hid (tab_below HT0.out HB2.out); have HD2 := Lib.hid (bt HD1.out b); have q2' : w2.cell? ⟨w.heap.size, 2, none⟩ = some (.bool c) := (HD2.out.cell (p := ⟨w.heap.size, 2, none⟩) (by show w.heap.size < _; omega)).trans KC.out.1; have n0' : w2.cell? ⟨w.heap.size + 1, 0, none⟩ = some (.int .i32 p) := (HD2.out.cell (p := ⟨w.heap.size + 1, 0, none⟩) (by show w.heap.size + 1 < _; omega)).trans KC.out.2.1; have n1' : w2.cell? ⟨w.heap.size + 1, 1, none⟩ = some (.int .i32 q) := (HD2.out.cell (p := ⟨w.heap.size + 1, 1, none⟩) (by show w.heap.size + 1 < _; omega)).trans KC.out.2.2; clear b))
      | (go_at_call 22; ((with_reducible refine (at1dd h1 HT1).mono ?_); rintro en w2 ⟨rfl, b⟩; have HB2 := Lib.hid (bt HB1.out b); have HT2 := Lib.hid (tab_below HT0.out HB2.out); have HD2 := Lib.hid (bt HD1.out b); have q2' : w2.cell? ⟨w.heap.size, 2, none⟩ = some (.bool c) := (HD2.out.cell (p := ⟨w.heap.size, 2, none⟩) (by show w.heap.size < _; omega)).trans KC.out.1; have n0' : w2.cell? ⟨w.heap.size + 1, 0, none⟩ = some (.int .i32 p) := (HD2.out.cell (p := ⟨w.heap.size + 1, 0, none⟩) (by show w.heap.size + 1 < _; omega)).trans KC.out.2.1; have n1' : w2.cell? ⟨w.heap.size + 1, 1, none⟩ = some (.int .i32 q) := (HD2.out.cell (p := ⟨w.heap.size + 1, 1, none⟩) (by show w.heap.size + 1 < _; omega)).trans KC.out.2.2; clear b)))
  go_wp2_with (fail)
  go_region
  go_wp2_with (fail)
  refine (h4.out _ _ (tab_below HT4.out (by go_grown)) (by go_size) (by go_cell) (by go_cell) (by go_cell)).mono ?_
  rintro en w5 ⟨rfl, b⟩
  have HB5 := Lib.hid (bt HB4.out (bt (by go_grown) b))
  have HT5 := Lib.hid (tab_below HT0.out HB5.out)
  clear b
  go_wp2_with (fail)
  refine (ha.out _).mono ?_
  rintro en w' ⟨rfl, rfl⟩
  go_wp2_with (fail)
  refine (h5.out _ _ (tab_below HT5.out (by go_grown)) (by go_size) (by go_cell) (by go_cell)).mono ?_
  rintro en w6 ⟨rfl, b⟩
  have HB6 := Lib.hid (bt HB5.out (bt (by go_grown) b))
  have HT6 := Lib.hid (tab_below HT0.out HB6.out)
  clear b
  go_wp2_with (fail)
  refine (h6.out _ _ (tab_below HT6.out (by go_grown)) (by go_size) (by go_cell)).mono ?_
  rintro en w7 ⟨rfl, b⟩
  have HB7 := Lib.hid (bt HB6.out (bt (by go_grown) b))
  have HT7 := Lib.hid (tab_below HT0.out HB7.out)
  clear b
  go_wp2_with (fail)
  refine (h7.out _ _ (tab_below HT7.out (by go_grown)) (by go_size) (by go_cell)).mono ?_
  rintro en w8 ⟨rfl, b⟩
  have HB8 := Lib.hid (bt HB7.out (bt (by go_grown) b))
  have HT8 := Lib.hid (tab_below HT0.out HB8.out)
  clear b
  go_wp2_with (fail)
  refine (h8.out _ _ (tab_below HT8.out (by go_grown)) (by go_size) (by go_cell)).mono ?_
  rintro en w9 ⟨rfl, b⟩
  have HB9 := Lib.hid (bt HB8.out (bt (by go_grown) b))
  have HT9 := Lib.hid (tab_below HT0.out HB9.out)
  clear b
  go_wp2_with (fail)
  refine (h9.out _ _ (tab_below HT9.out (by go_grown)) (by go_size) (by go_cell) (by go_cell)).mono ?_
  rintro en w10 ⟨rfl, b⟩
  have HB10 := Lib.hid (bt HB9.out (bt (by go_grown) b))
  have HT10 := Lib.hid (tab_below HT0.out HB10.out)
  clear b
  go_wp2_with (fail)
  refine (h10.out _ _ (tab_below HT10.out (by go_grown)) (by go_size) (by go_cell) (by go_cell)).mono ?_
  rintro en w11 ⟨rfl, b⟩
  have HB11 := Lib.hid (bt HB10.out (bt (by go_grown) b))
  have HT11 := Lib.hid (tab_below HT0.out HB11.out)
  clear b
  go_wp2_with (fail)
  refine (h11.out _ _ (tab_below HT11.out (by go_grown)) (by go_size) (by go_cell)).mono ?_
  rintro en w12 ⟨rfl, b⟩
  have HB12 := Lib.hid (bt HB11.out (bt (by go_grown) b))
  have HT12 := Lib.hid (tab_below HT0.out HB12.out)
  clear b
  go_wp2_with (fail)
  refine (h7.out _ _ (tab_below HT12.out (by go_grown)) (by go_size) (by go_cell)).mono ?_
  rintro en w13 ⟨rfl, b⟩
  have HB13 := Lib.hid (bt HB12.out (bt (by go_grown) b))
  have HT13 := Lib.hid (tab_below HT0.out HB13.out)
  clear b
  go_wp2_with (fail)
  refine (h8.out _ _ (tab_below HT13.out (by go_grown)) (by go_size) (by go_cell)).mono ?_
  rintro en w14 ⟨rfl, b⟩
  have HB14 := Lib.hid (bt HB13.out (bt (by go_grown) b))
  have HT14 := Lib.hid (tab_below HT0.out HB14.out)
  clear b
  go_wp2_with (fail)
  refine (h12.out _ _ (tab_below HT14.out (by go_grown)) (by go_size) (by go_cell) (by go_cell)).mono ?_
  rintro en w15 ⟨rfl, b⟩
  have HB15 := Lib.hid (bt HB14.out (bt (by go_grown) b))
  have HT15 := Lib.hid (tab_below HT0.out HB15.out)
  clear b
  go_wp2_with (fail)
  refine (h13.out _ _ (tab_below HT15.out (by go_grown)) (by go_size) (by go_cell) (by go_cell)).mono ?_
  rintro en w16 ⟨rfl, b⟩
  have HB16 := Lib.hid (bt HB15.out (bt (by go_grown) b))
  have HT16 := Lib.hid (tab_below HT0.out HB16.out)
  clear b
  go_wp2_with (fail)
  refine (h14.out _ _ (tab_below HT16.out (by go_grown)) (by go_size) (by go_cell) (by go_cell)).mono ?_
  rintro en w17 ⟨rfl, b⟩
  have HB17 := Lib.hid (bt HB16.out (bt (by go_grown) b))
  have HT17 := Lib.hid (tab_below HT0.out HB17.out)
  clear b
  go_wp2_with (fail)
  refine (h5.out _ _ (tab_below HT17.out (by go_grown)) (by go_size) (by go_cell) (by go_cell)).mono ?_
  rintro en w18 ⟨rfl, b⟩
  have HB18 := Lib.hid (bt HB17.out (bt (by go_grown) b))
  have HT18 := Lib.hid (tab_below HT0.out HB18.out)
  clear b
  go_wp2_with (fail)
  refine (h15.out _ _ (tab_below HT18.out (by go_grown)) (by go_size) (by go_cell) (by go_cell)).mono ?_
  rintro en w19 ⟨rfl, b⟩
  have HB19 := Lib.hid (bt HB18.out (bt (by go_grown) b))
  have HT19 := Lib.hid (tab_below HT0.out HB19.out)
  clear b
  go_wp2_with (fail)
  refine (h16.out _ _ (tab_below HT19.out (by go_grown)) (by go_size) (by go_cell) (by go_cell)).mono ?_
  rintro en w20 ⟨rfl, b⟩
  have HB20 := Lib.hid (bt HB19.out (bt (by go_grown) b))
  have HT20 := Lib.hid (tab_below HT0.out HB20.out)
  clear b
  go_wp2_with (fail)
  refine (h17.out _ _ (tab_below HT20.out (by go_grown)) (by go_size) (by go_cell) (by go_cell)).mono ?_
  rintro en w21 ⟨rfl, b⟩
  have HB21 := Lib.hid (bt HB20.out (bt (by go_grown) b))
  have HT21 := Lib.hid (tab_below HT0.out HB21.out)
  clear b
  go_wp2_with (fail)
  refine (h18.out _ _ (tab_below HT21.out (by go_grown)) (by go_size) (by go_cell) (by go_cell)).mono ?_
  rintro en w22 ⟨rfl, b⟩
  have HB22 := Lib.hid (bt HB21.out (bt (by go_grown) b))
  have HT22 := Lib.hid (tab_below HT0.out HB22.out)
  clear b
  go_wp2_with (fail)
  refine (h7.out _ _ (tab_below HT22.out (by go_grown)) (by go_size) (by go_cell)).mono ?_
  rintro en w23 ⟨rfl, b⟩
  have HB23 := Lib.hid (bt HB22.out (bt (by go_grown) b))
  have HT23 := Lib.hid (tab_below HT0.out HB23.out)
  clear b
  go_wp2_with (fail)
  refine (h19.out _ _ (tab_below HT23.out (by go_grown)) (by go_size) (by go_cell) (by go_cell) (by go_cell)).mono ?_
  rintro en w24 ⟨rfl, b⟩
  have HB24 := Lib.hid (bt HB23.out (bt (by go_grown) b))
  have HT24 := Lib.hid (tab_below HT0.out HB24.out)
  clear b
  go_wp2_with (fail)
  refine (h5.out _ _ (tab_below HT24.out (by go_grown)) (by go_size) (by go_cell) (by go_cell)).mono ?_
  rintro en w25 ⟨rfl, b⟩
  have HB25 := Lib.hid (bt HB24.out (bt (by go_grown) b))
  have HT25 := Lib.hid (tab_below HT0.out HB25.out)
  clear b
  go_wp2
  go_ret
  exact ⟨rfl, HB25.out⟩

set_option maxRecDepth 100000 in
set_option maxHeartbeats 4000000 in
theorem bool_false_false (c : Bool) (z p q o2 r m2 : Int) (w : World) (ht : Tab w) (ha : Hid (Bit false 0)) (hb : Hid (Bit false 0)) (hcc : Hid (Bit c z)) (hp : -2147483648 ≤ p ∧ p ≤ 2147483647) (hq : -2147483648 ≤ q ∧ q ≤ 2147483647) (h1 : Hid (Op1 ⟨#[116, 111, 105, 110, 116]⟩ 0 0)) (h2 : Hid (Op1 ⟨#[116, 111, 105, 110, 116]⟩ 0 0)) (h3 : Hid (Op1 ⟨#[116, 111, 105, 110, 116]⟩ z z)) (h4 : Hid (Op3 ⟨#[115, 101, 108, 101, 99, 116]⟩ 0 p q q)) (h5 : Hid (Op2 ⟨#[97, 110, 100]⟩ 0 0 0)) (h6 : Hid (Op1 ⟨#[110, 111, 116]⟩ 0 1)) (h7 : Hid (Op1 ⟨#[110, 111, 116]⟩ 0 1)) (h8 : Hid (Op1 ⟨#[110, 111, 116]⟩ 0 1)) (h9 : Hid (Op2 ⟨#[111, 114]⟩ 1 1 1)) (h10 : Hid (Op2 ⟨#[111, 114]⟩ 0 0 0)) (h11 : Hid (Op1 ⟨#[110, 111, 116]⟩ 0 1)) (h12 : Hid (Op2 ⟨#[97, 110, 100]⟩ 1 1 1)) (h13 : Hid (Op2 ⟨#[111, 114]⟩ 0 z o2)) (h14 : Hid (Op2 ⟨#[97, 110, 100]⟩ 0 o2 r)) (h15 : Hid (Op2 ⟨#[97, 110, 100]⟩ 0 z m2)) (h16 : Hid (Op2 ⟨#[111, 114]⟩ 0 m2 r)) (h17 : Hid (Op2 ⟨#[120, 111, 114]⟩ 0 0 0)) (h18 : Hid (Op2 ⟨#[110, 101]⟩ 0 0 0)) (h19 : Hid (Op3 ⟨#[115, 101, 108, 101, 99, 116]⟩ 1 q p q)) :
    Calls Tryd.prog 8 #[.agg #[.bool false, .bool false, .bool c], .agg #[.int .i32 p, .int .i32 q]] w fun e w' => e = .returned (.bool true) ∧ Below w.heap.size w w' := by
  have HT0 := Lib.hid ht
  obtain ⟨x1, x2⟩ := hp
  obtain ⟨y1, y2⟩ := hq
  go_enter Tryd.func8, Tryd.ntmps8
  go_wp2_with (fail)
  refine (awake_any _ (tab_below ht (by go_grown))).mono ?_
  rintro en w1 ⟨rfl, b1⟩
  have HB1 := Lib.hid (bt (by go_grown : Below w.heap.size w _) b1)
  have HT1 := Lib.hid (tab_below HT0.out HB1.out)
  have q0 : w1.cell? ⟨w.heap.size, 0, none⟩ = some (.bool false) := by rw [b1.cell (p := ⟨w.heap.size, 0, none⟩) (by go_size)]; go_cell
  have q1 : w1.cell? ⟨w.heap.size, 1, none⟩ = some (.bool false) := by rw [b1.cell (p := ⟨w.heap.size, 1, none⟩) (by go_size)]; go_cell
  have q2 : w1.cell? ⟨w.heap.size, 2, none⟩ = some (.bool c) := by rw [b1.cell (p := ⟨w.heap.size, 2, none⟩) (by go_size)]; go_cell
  have n0 : w1.cell? ⟨w.heap.size + 1, 0, none⟩ = some (.int .i32 p) := by rw [b1.cell (p := ⟨w.heap.size + 1, 0, none⟩) (by go_size)]; go_cell
  have n1 : w1.cell? ⟨w.heap.size + 1, 1, none⟩ = some (.int .i32 q) := by rw [b1.cell (p := ⟨w.heap.size + 1, 1, none⟩) (by go_size)]; go_cell
  have hz1 : w.heap.size + 2 ≤ w1.heap.size := by have := b1.size; simp at this; omega
  have KC := Lib.hid (And.intro q2 (And.intro n0 n1))
  have HD1 := Lib.hid (Below.refl w1.heap.size w1)
  clear b1 ht
  go_wp2_with (fail)
  go_region
  go_wp2_with (fail)
  have CQ : Hid (∀ w', Below w1.heap.size w1 w' → w'.cell? ⟨w.heap.size, 2, none⟩ = some (.bool c)) := Lib.hid fun w' hb => (hb.cell (p := ⟨w.heap.size, 2, none⟩) (by show w.heap.size < _; omega)).trans KC.out.1
  go_region_held3 (fun w' => w'.cell? ⟨w.heap.size, 2, none⟩ = some (.bool c))
    ((refine CQ.out _ ?_; first | exact HD4.out | exact HD4.out.alloc HD4.out.size _ | exact HD3.out | exact HD3.out.alloc HD3.out.size _ | exact HD2.out | exact HD2.out.alloc HD2.out.size _ | go_grown))
    (first
      | (go_at_call_of 24 c; ((refine (hcc.out _).mono ?_); rintro en w' ⟨rfl, rfl⟩))
      | (go_at_call 24; ((refine (ha.out _).mono ?_); rintro en w' ⟨rfl, rfl⟩))
      | (go_at_call 24; ((refine (hb.out _).mono ?_); rintro en w' ⟨rfl, rfl⟩))
      | (go_at_call 22; ((with_reducible refine (at1 h3 HT3).mono ?_); rintro en w4 ⟨rfl, b⟩; have HB4 := Lib.hid (bt HB3.out b); have HT4 := Lib.hid (tab_below HT0.out HB4.out); have HD4 := Lib.hid (bt HD3.out b); have q2' : w4.cell? ⟨w.heap.size, 2, none⟩ = some (.bool c) := (HD4.out.cell (p := ⟨w.heap.size, 2, none⟩) (by show w.heap.size < _; omega)).trans KC.out.1; have n0' : w4.cell? ⟨w.heap.size + 1, 0, none⟩ = some (.int .i32 p) := (HD4.out.cell (p := ⟨w.heap.size + 1, 0, none⟩) (by show w.heap.size + 1 < _; omega)).trans KC.out.2.1; have n1' : w4.cell? ⟨w.heap.size + 1, 1, none⟩ = some (.int .i32 q) := (HD4.out.cell (p := ⟨w.heap.size + 1, 1, none⟩) (by show w.heap.size + 1 < _; omega)).trans KC.out.2.2; clear b))
      | (go_at_call 22; ((with_reducible refine (at1dd h3 HT3).mono ?_); rintro en w4 ⟨rfl, b⟩; have HB4 := Lib.hid (bt HB3.out b); have HT4 := Lib.hid (tab_below HT0.out HB4.out); have HD4 := Lib.hid (bt HD3.out b); have q2' : w4.cell? ⟨w.heap.size, 2, none⟩ = some (.bool c) := (HD4.out.cell (p := ⟨w.heap.size, 2, none⟩) (by show w.heap.size < _; omega)).trans KC.out.1; have n0' : w4.cell? ⟨w.heap.size + 1, 0, none⟩ = some (.int .i32 p) := (HD4.out.cell (p := ⟨w.heap.size + 1, 0, none⟩) (by show w.heap.size + 1 < _; omega)).trans KC.out.2.1; have n1' : w4.cell? ⟨w.heap.size + 1, 1, none⟩ = some (.int .i32 q) := (HD4.out.cell (p := ⟨w.heap.size + 1, 1, none⟩) (by show w.heap.size + 1 < _; omega)).trans KC.out.2.2; clear b))
      | (go_at_call 22; ((with_reducible refine (at1 h2 HT2).mono ?_); rintro en w3 ⟨rfl, b⟩; have HB3 := Lib.hid (bt HB2.out b); have HT3 := Lib.hid (tab_below HT0.out HB3.out); have HD3 := Lib.hid (bt HD2.out b); have q2' : w3.cell? ⟨w.heap.size, 2, none⟩ = some (.bool c) := (HD3.out.cell (p := ⟨w.heap.size, 2, none⟩) (by show w.heap.size < _; omega)).trans KC.out.1; have n0' : w3.cell? ⟨w.heap.size + 1, 0, none⟩ = some (.int .i32 p) := (HD3.out.cell (p := ⟨w.heap.size + 1, 0, none⟩) (by show w.heap.size + 1 < _; omega)).trans KC.out.2.1; have n1' : w3.cell? ⟨w.heap.size + 1, 1, none⟩ = some (.int .i32 q) := (HD3.out.cell (p := ⟨w.heap.size + 1, 1, none⟩) (by show w.heap.size + 1 < _; omega)).trans KC.out.2.2; clear b))
      | (go_at_call 22; ((with_reducible refine (at1dd h2 HT2).mono ?_); rintro en w3 ⟨rfl, b⟩; have HB3 := Lib.hid (bt HB2.out b); have HT3 := Lib.hid (tab_below HT0.out HB3.out); have HD3 := Lib.hid (bt HD2.out b); have q2' : w3.cell? ⟨w.heap.size, 2, none⟩ = some (.bool c) := (HD3.out.cell (p := ⟨w.heap.size, 2, none⟩) (by show w.heap.size < _; omega)).trans KC.out.1; have n0' : w3.cell? ⟨w.heap.size + 1, 0, none⟩ = some (.int .i32 p) := (HD3.out.cell (p := ⟨w.heap.size + 1, 0, none⟩) (by show w.heap.size + 1 < _; omega)).trans KC.out.2.1; have n1' : w3.cell? ⟨w.heap.size + 1, 1, none⟩ = some (.int .i32 q) := (HD3.out.cell (p := ⟨w.heap.size + 1, 1, none⟩) (by show w.heap.size + 1 < _; omega)).trans KC.out.2.2; clear b))
      | (go_at_call 22; ((with_reducible refine (at1 h1 HT1).mono ?_); rintro en w2 ⟨rfl, b⟩; have HB2 := Lib.hid (bt HB1.out b); have HT2 := Lib.hid (tab_below HT0.out HB2.out); have HD2 := Lib.hid (bt HD1.out b); have q2' : w2.cell? ⟨w.heap.size, 2, none⟩ = some (.bool c) := (HD2.out.cell (p := ⟨w.heap.size, 2, none⟩) (by show w.heap.size < _; omega)).trans KC.out.1; have n0' : w2.cell? ⟨w.heap.size + 1, 0, none⟩ = some (.int .i32 p) := (HD2.out.cell (p := ⟨w.heap.size + 1, 0, none⟩) (by show w.heap.size + 1 < _; omega)).trans KC.out.2.1; have n1' : w2.cell? ⟨w.heap.size + 1, 1, none⟩ = some (.int .i32 q) := (HD2.out.cell (p := ⟨w.heap.size + 1, 1, none⟩) (by show w.heap.size + 1 < _; omega)).trans KC.out.2.2; clear b))
      | (go_at_call 22; ((with_reducible refine (at1dd h1 HT1).mono ?_); rintro en w2 ⟨rfl, b⟩; have HB2 := Lib.hid (bt HB1.out b); have HT2 := Lib.hid (tab_below HT0.out HB2.out); have HD2 := Lib.hid (bt HD1.out b); have q2' : w2.cell? ⟨w.heap.size, 2, none⟩ = some (.bool c) := (HD2.out.cell (p := ⟨w.heap.size, 2, none⟩) (by show w.heap.size < _; omega)).trans KC.out.1; have n0' : w2.cell? ⟨w.heap.size + 1, 0, none⟩ = some (.int .i32 p) := (HD2.out.cell (p := ⟨w.heap.size + 1, 0, none⟩) (by show w.heap.size + 1 < _; omega)).trans KC.out.2.1; have n1' : w2.cell? ⟨w.heap.size + 1, 1, none⟩ = some (.int .i32 q) := (HD2.out.cell (p := ⟨w.heap.size + 1, 1, none⟩) (by show w.heap.size + 1 < _; omega)).trans KC.out.2.2; clear b)))
  go_wp2_with (fail)
  go_region
  go_wp2_with (fail)
  refine (h4.out _ _ (tab_below HT4.out (by go_grown)) (by go_size) (by go_cell) (by go_cell) (by go_cell)).mono ?_
  rintro en w5 ⟨rfl, b⟩
  have HB5 := Lib.hid (bt HB4.out (bt (by go_grown) b))
  have HT5 := Lib.hid (tab_below HT0.out HB5.out)
  clear b
  go_wp2_with (fail)
  refine (ha.out _).mono ?_
  rintro en w' ⟨rfl, rfl⟩
  go_wp2_with (fail)
  refine (h5.out _ _ (tab_below HT5.out (by go_grown)) (by go_size) (by go_cell) (by go_cell)).mono ?_
  rintro en w6 ⟨rfl, b⟩
  have HB6 := Lib.hid (bt HB5.out (bt (by go_grown) b))
  have HT6 := Lib.hid (tab_below HT0.out HB6.out)
  clear b
  go_wp2_with (fail)
  refine (h6.out _ _ (tab_below HT6.out (by go_grown)) (by go_size) (by go_cell)).mono ?_
  rintro en w7 ⟨rfl, b⟩
  have HB7 := Lib.hid (bt HB6.out (bt (by go_grown) b))
  have HT7 := Lib.hid (tab_below HT0.out HB7.out)
  clear b
  go_wp2_with (fail)
  refine (h7.out _ _ (tab_below HT7.out (by go_grown)) (by go_size) (by go_cell)).mono ?_
  rintro en w8 ⟨rfl, b⟩
  have HB8 := Lib.hid (bt HB7.out (bt (by go_grown) b))
  have HT8 := Lib.hid (tab_below HT0.out HB8.out)
  clear b
  go_wp2_with (fail)
  refine (h8.out _ _ (tab_below HT8.out (by go_grown)) (by go_size) (by go_cell)).mono ?_
  rintro en w9 ⟨rfl, b⟩
  have HB9 := Lib.hid (bt HB8.out (bt (by go_grown) b))
  have HT9 := Lib.hid (tab_below HT0.out HB9.out)
  clear b
  go_wp2_with (fail)
  refine (h9.out _ _ (tab_below HT9.out (by go_grown)) (by go_size) (by go_cell) (by go_cell)).mono ?_
  rintro en w10 ⟨rfl, b⟩
  have HB10 := Lib.hid (bt HB9.out (bt (by go_grown) b))
  have HT10 := Lib.hid (tab_below HT0.out HB10.out)
  clear b
  go_wp2_with (fail)
  refine (h10.out _ _ (tab_below HT10.out (by go_grown)) (by go_size) (by go_cell) (by go_cell)).mono ?_
  rintro en w11 ⟨rfl, b⟩
  have HB11 := Lib.hid (bt HB10.out (bt (by go_grown) b))
  have HT11 := Lib.hid (tab_below HT0.out HB11.out)
  clear b
  go_wp2_with (fail)
  refine (h11.out _ _ (tab_below HT11.out (by go_grown)) (by go_size) (by go_cell)).mono ?_
  rintro en w12 ⟨rfl, b⟩
  have HB12 := Lib.hid (bt HB11.out (bt (by go_grown) b))
  have HT12 := Lib.hid (tab_below HT0.out HB12.out)
  clear b
  go_wp2_with (fail)
  refine (h7.out _ _ (tab_below HT12.out (by go_grown)) (by go_size) (by go_cell)).mono ?_
  rintro en w13 ⟨rfl, b⟩
  have HB13 := Lib.hid (bt HB12.out (bt (by go_grown) b))
  have HT13 := Lib.hid (tab_below HT0.out HB13.out)
  clear b
  go_wp2_with (fail)
  refine (h8.out _ _ (tab_below HT13.out (by go_grown)) (by go_size) (by go_cell)).mono ?_
  rintro en w14 ⟨rfl, b⟩
  have HB14 := Lib.hid (bt HB13.out (bt (by go_grown) b))
  have HT14 := Lib.hid (tab_below HT0.out HB14.out)
  clear b
  go_wp2_with (fail)
  refine (h12.out _ _ (tab_below HT14.out (by go_grown)) (by go_size) (by go_cell) (by go_cell)).mono ?_
  rintro en w15 ⟨rfl, b⟩
  have HB15 := Lib.hid (bt HB14.out (bt (by go_grown) b))
  have HT15 := Lib.hid (tab_below HT0.out HB15.out)
  clear b
  go_wp2_with (fail)
  refine (h13.out _ _ (tab_below HT15.out (by go_grown)) (by go_size) (by go_cell) (by go_cell)).mono ?_
  rintro en w16 ⟨rfl, b⟩
  have HB16 := Lib.hid (bt HB15.out (bt (by go_grown) b))
  have HT16 := Lib.hid (tab_below HT0.out HB16.out)
  clear b
  go_wp2_with (fail)
  refine (h14.out _ _ (tab_below HT16.out (by go_grown)) (by go_size) (by go_cell) (by go_cell)).mono ?_
  rintro en w17 ⟨rfl, b⟩
  have HB17 := Lib.hid (bt HB16.out (bt (by go_grown) b))
  have HT17 := Lib.hid (tab_below HT0.out HB17.out)
  clear b
  go_wp2_with (fail)
  refine (h5.out _ _ (tab_below HT17.out (by go_grown)) (by go_size) (by go_cell) (by go_cell)).mono ?_
  rintro en w18 ⟨rfl, b⟩
  have HB18 := Lib.hid (bt HB17.out (bt (by go_grown) b))
  have HT18 := Lib.hid (tab_below HT0.out HB18.out)
  clear b
  go_wp2_with (fail)
  refine (h15.out _ _ (tab_below HT18.out (by go_grown)) (by go_size) (by go_cell) (by go_cell)).mono ?_
  rintro en w19 ⟨rfl, b⟩
  have HB19 := Lib.hid (bt HB18.out (bt (by go_grown) b))
  have HT19 := Lib.hid (tab_below HT0.out HB19.out)
  clear b
  go_wp2_with (fail)
  refine (h16.out _ _ (tab_below HT19.out (by go_grown)) (by go_size) (by go_cell) (by go_cell)).mono ?_
  rintro en w20 ⟨rfl, b⟩
  have HB20 := Lib.hid (bt HB19.out (bt (by go_grown) b))
  have HT20 := Lib.hid (tab_below HT0.out HB20.out)
  clear b
  go_wp2_with (fail)
  refine (h17.out _ _ (tab_below HT20.out (by go_grown)) (by go_size) (by go_cell) (by go_cell)).mono ?_
  rintro en w21 ⟨rfl, b⟩
  have HB21 := Lib.hid (bt HB20.out (bt (by go_grown) b))
  have HT21 := Lib.hid (tab_below HT0.out HB21.out)
  clear b
  go_wp2_with (fail)
  refine (h18.out _ _ (tab_below HT21.out (by go_grown)) (by go_size) (by go_cell) (by go_cell)).mono ?_
  rintro en w22 ⟨rfl, b⟩
  have HB22 := Lib.hid (bt HB21.out (bt (by go_grown) b))
  have HT22 := Lib.hid (tab_below HT0.out HB22.out)
  clear b
  go_wp2_with (fail)
  refine (h7.out _ _ (tab_below HT22.out (by go_grown)) (by go_size) (by go_cell)).mono ?_
  rintro en w23 ⟨rfl, b⟩
  have HB23 := Lib.hid (bt HB22.out (bt (by go_grown) b))
  have HT23 := Lib.hid (tab_below HT0.out HB23.out)
  clear b
  go_wp2_with (fail)
  refine (h19.out _ _ (tab_below HT23.out (by go_grown)) (by go_size) (by go_cell) (by go_cell) (by go_cell)).mono ?_
  rintro en w24 ⟨rfl, b⟩
  have HB24 := Lib.hid (bt HB23.out (bt (by go_grown) b))
  have HT24 := Lib.hid (tab_below HT0.out HB24.out)
  clear b
  go_wp2_with (fail)
  refine (h5.out _ _ (tab_below HT24.out (by go_grown)) (by go_size) (by go_cell) (by go_cell)).mono ?_
  rintro en w25 ⟨rfl, b⟩
  have HB25 := Lib.hid (bt HB24.out (bt (by go_grown) b))
  have HT25 := Lib.hid (tab_below HT0.out HB25.out)
  clear b
  go_wp2
  go_ret
  exact ⟨rfl, HB25.out⟩

end Go.Proofs.YtdhpmkaggojgbaaDoor.ElemBool
