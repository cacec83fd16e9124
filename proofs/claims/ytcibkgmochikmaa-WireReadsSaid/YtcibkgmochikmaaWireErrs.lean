/- The law WireErrors: sources with an error, and none. -/
import Derived.Test.YtcibkgmochikmaaWireCanon
namespace Go.Proofs.Ytcibkgmochikmaa.WireErrs
set_option linter.unusedVariables false
open Go.RowKit Go.Proofs.Ytcibkgmochikmaa.WireBase Go.Proofs.Ytcibkgmochikmaa.WireInt Go.Proofs.Ytcibkgmochikmaa.WireAppend Go.Proofs.Ytcibkgmochikmaa.WireRead Go.Proofs.Ytcibkgmochikmaa.WireParse Go.Proofs.Ytcibkgmochikmaa.WireSrc Go.Proofs.Ytcibkgmochikmaa.WireAwake Go.Proofs.Ytcibkgmochikmaa.WireCode Go.Proofs.Ytcibkgmochikmaa.WireCanon

/-- A pointer to no source, or to one with an error. -/
def Dead (w : World) (p : Value) : Prop := p = .pointer none ∨ ∃ g v e, p = .pointer (some ⟨g, 0, none⟩) ∧ Src w g v e ∧ (e == 0) = false

theorem Dead.later {w w' : World} {p : Value} (h : Dead w p) (hb : Below w.heap.size w w') : Dead w' p := by
  rcases h with h | ⟨g, v, e, h1, h2, h3⟩
  · exact Or.inl h
  · exact Or.inr ⟨g, v, e, h1, h2.below hb, h3⟩

theorem read_int_dead (p take : Value) (w : World) (h : Dead w p) : Calls Try.prog 54 #[p, take] w fun r w' => r = .returned (.int .i64 0) ∧ Below w.heap.size w w' := by
  rcases h with rfl | ⟨g, v, e, rfl, hs, he⟩
  · go_enter Try.func54, Try.ntmps54
    go_wp2
    go_ret
    exact ⟨rfl, by go_grown⟩
  · have c0 := hs.rest
    have c1 := hs.err
    have hlt := hs.lt
    have he2 : (e != 0) = true := by simpa using he
    clear hs
    go_enter Try.func54, Try.ntmps54
    go_wp2
    go_ret
    exact ⟨rfl, by go_grown⟩

theorem read_string_dead (p take : Value) (w : World) (h : Dead w p) : Calls Try.prog 56 #[p, take] w fun r w' => r = .returned (.string ⟨#[]⟩) ∧ Below w.heap.size w w' := by
  rcases h with rfl | ⟨g, v, e, rfl, hs, he⟩
  · go_enter Try.func56, Try.ntmps56
    go_wp2
    go_ret
    exact ⟨rfl, by go_grown⟩
  · have c0 := hs.rest
    have c1 := hs.err
    have hlt := hs.lt
    have he2 : (e != 0) = true := by simpa using he
    clear hs
    go_enter Try.func56, Try.ntmps56
    go_wp2
    go_ret
    exact ⟨rfl, by go_grown⟩

theorem read_ints_dead (p take : Value) (w : World) (h : Dead w p) : Calls Try.prog 60 #[p, take] w fun r w' => r = .returned (.slice none 0 0) ∧ Below w.heap.size w w' := by
  rcases h with rfl | ⟨g, v, e, rfl, hs, he⟩
  · go_enter Try.func60, Try.ntmps60
    go_wp2
    go_ret
    exact ⟨rfl, by go_grown⟩
  · have c0 := hs.rest
    have c1 := hs.err
    have hlt := hs.lt
    have he2 : (e != 0) = true := by simpa using he
    clear hs
    go_enter Try.func60, Try.ntmps60
    go_wp2
    go_ret
    exact ⟨rfl, by go_grown⟩

theorem read_strings_dead (p take : Value) (w : World) (h : Dead w p) : Calls Try.prog 63 #[p, take] w fun r w' => r = .returned (.slice none 0 0) ∧ Below w.heap.size w w' := by
  rcases h with rfl | ⟨g, v, e, rfl, hs, he⟩
  · go_enter Try.func63, Try.ntmps63
    go_wp2
    go_ret
    exact ⟨rfl, by go_grown⟩
  · have c0 := hs.rest
    have c1 := hs.err
    have hlt := hs.lt
    have he2 : (e != 0) = true := by simpa using he
    clear hs
    go_enter Try.func63, Try.ntmps63
    go_wp2
    go_ret
    exact ⟨rfl, by go_grown⟩

theorem src_Int_dead (p : Value) (lo hi : Int) (w : World) (h : Dead w p) : Calls Try.prog 32 #[p, .int .i64 lo, .int .i64 hi] w fun r w' => r = .returned (.int .i64 0) ∧ Below w.heap.size w w' := by
  have HD := Lib.hid (fun take w1 (b1 : Below w.heap.size w w1) => read_int_dead p take w1 (h.later b1))
  clear h
  go_enter Try.func32, Try.ntmps32
  go_wp2_with (fail)
  refine (HD.out _ _ (by go_grown)).mono ?_
  rintro r w1 ⟨rfl, b1⟩
  have B1 : Hid (Below w.heap.size w w1) := Lib.hid (bt (by go_grown) b1)
  clear b1
  go_wp2
  go_ret
  exact ⟨rfl, B1.out⟩

theorem src_Text_dead (p : Value) (most : Int) (w : World) (h : Dead w p) : Calls Try.prog 34 #[p, .int .i64 most] w fun r w' => r = .returned (.string ⟨#[]⟩) ∧ Below w.heap.size w w' := by
  have HD := Lib.hid (fun take w1 (b1 : Below w.heap.size w w1) => read_string_dead p take w1 (h.later b1))
  clear h
  go_enter Try.func34, Try.ntmps34
  go_wp2_with (fail)
  refine (HD.out _ _ (by go_grown)).mono ?_
  rintro r w1 ⟨rfl, b1⟩
  have B1 : Hid (Below w.heap.size w w1) := Lib.hid (bt (by go_grown) b1)
  clear b1
  go_wp2
  go_ret
  exact ⟨rfl, B1.out⟩

theorem bool_dead (p : Value) (w : World) (h : Dead w p) : Calls Try.prog 33 #[p] w fun r w' => r = .returned (.bool false) ∧ Below w.heap.size w w' := by
  have HD := Lib.hid (src_Int_dead p 0 1 w h)
  clear h
  go_enter Try.func33, Try.ntmps33
  go_wp2_with (fail)
  refine HD.out.mono ?_
  rintro r w1 ⟨rfl, b1⟩
  go_wp2
  go_ret
  exact ⟨rfl, b1⟩

theorem readList_int_dead (p : Value) (f : Fn) (xs ys : Array Value) (most : Int) (w : World) (h : Dead w p) : Calls Try.prog 48 #[p, .int .i64 most, .func f xs ys] w fun r w' => r = .returned (.slice none 0 0) ∧ Below w.heap.size w w' := by
  have HD := Lib.hid (fun take w1 (b1 : Below w.heap.size w w1) => read_ints_dead p take w1 (h.later b1))
  clear h
  go_enter Try.func48, Try.ntmps48
  go_wp2_with (fail)
  refine (HD.out _ _ (by go_grown)).mono ?_
  rintro r w1 ⟨rfl, b1⟩
  have B1 : Hid (Below w.heap.size w w1) := Lib.hid (bt (by go_grown) b1)
  clear b1
  go_wp2
  go_ret
  exact ⟨rfl, B1.out⟩

theorem readList_string_dead (p : Value) (f : Fn) (xs ys : Array Value) (most : Int) (w : World) (h : Dead w p) : Calls Try.prog 51 #[p, .int .i64 most, .func f xs ys] w fun r w' => r = .returned (.slice none 0 0) ∧ Below w.heap.size w w' := by
  have HD := Lib.hid (fun take w1 (b1 : Below w.heap.size w w1) => read_strings_dead p take w1 (h.later b1))
  clear h
  go_enter Try.func51, Try.ntmps51
  go_wp2_with (fail)
  refine (HD.out _ _ (by go_grown)).mono ?_
  rintro r w1 ⟨rfl, b1⟩
  have B1 : Hid (Below w.heap.size w w1) := Lib.hid (bt (by go_grown) b1)
  clear b1
  go_wp2
  go_ret
  exact ⟨rfl, B1.out⟩

theorem src_Ints_dead (p : Value) (most lo hi : Int) (w : World) (h : Dead w p) : Calls Try.prog 29 #[p, .int .i64 most, .int .i64 lo, .int .i64 hi] w fun r w' => r = .returned (.slice none 0 0) ∧ Below w.heap.size w w' := by
  have HD := Lib.hid (fun f xs ys w1 (b1 : Below w.heap.size w w1) => readList_int_dead p f xs ys most w1 (h.later b1))
  clear h
  go_enter Try.func29, Try.ntmps29
  go_wp2_with (fail)
  refine (HD.out _ _ _ _ (by go_grown)).mono ?_
  rintro r w1 ⟨rfl, b1⟩
  have B1 : Hid (Below w.heap.size w w1) := Lib.hid (bt (by go_grown) b1)
  clear b1
  go_wp2
  go_ret
  exact ⟨rfl, B1.out⟩

theorem src_Texts_dead (p : Value) (most long : Int) (w : World) (h : Dead w p) : Calls Try.prog 31 #[p, .int .i64 most, .int .i64 long] w fun r w' => r = .returned (.slice none 0 0) ∧ Below w.heap.size w w' := by
  have HD := Lib.hid (fun f xs ys w1 (b1 : Below w.heap.size w w1) => readList_string_dead p f xs ys most w1 (h.later b1))
  clear h
  go_enter Try.func31, Try.ntmps31
  go_wp2_with (fail)
  refine (HD.out _ _ _ _ (by go_grown)).mono ?_
  rintro r w1 ⟨rfl, b1⟩
  have B1 : Hid (Below w.heap.size w w1) := Lib.hid (bt (by go_grown) b1)
  clear b1
  go_wp2
  go_ret
  exact ⟨rfl, B1.out⟩

theorem end_none (w : World) : Calls Try.prog 26 #[.pointer none] w fun q w' => q = .returned (.int .i64 11) ∧ w' = w := by
  go_enter Try.func26, Try.ntmps26
  go_wp2
  go_ret
  exact ⟨rfl, rfl⟩

end Go.Proofs.Ytcibkgmochikmaa.WireErrs
