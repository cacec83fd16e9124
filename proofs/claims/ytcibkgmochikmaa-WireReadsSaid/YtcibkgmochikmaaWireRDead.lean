/- The reference's sources with an error; 'End'; 'same'. -/
import Derived.Test.YtcibkgmochikmaaWireReads
namespace Go.Proofs.Ytcibkgmochikmaa.WireRDead
set_option linter.unusedVariables false
open Go.RowKit Go.Proofs.Ytcibkgmochikmaa.WireBase Go.Proofs.Ytcibkgmochikmaa.WireInt Go.Proofs.Ytcibkgmochikmaa.WireAppend Go.Proofs.Ytcibkgmochikmaa.WireRead Go.Proofs.Ytcibkgmochikmaa.WireParse Go.Proofs.Ytcibkgmochikmaa.WireCode Go.Proofs.Ytcibkgmochikmaa.WireCanon Go.Proofs.Ytcibkgmochikmaa.WireText
open Go.Proofs.Ytcibkgmochikmaa.WireSrc (Only Cut not_byte)

theorem raw_dead (g : Nat) (v : Value) (e lo hi k : Int) (w : World) (hs : WireRS.Src w g v e) (he : (e == 0) = false) :
    Calls Try.prog 58 #[.pointer (some ⟨g, 0, none⟩), .int .i64 lo, .int .i64 hi, .int .i64 k] w fun r w' => r = .returned (.int .i64 0) ∧ w' = w := by
  have c0 := hs.rest
  have c1 := hs.err
  have he2 : (e != 0) = true := by simpa using he
  clear hs
  go_enter Try.func58, Try.ntmps58
  go_wp2
  go_ret
  exact ⟨rfl, rfl⟩

theorem int_rdead (g : Nat) (v : Value) (e lo hi : Int) (w : World) (hs : WireRS.Src w g v e) (he : (e == 0) = false) :
    Calls Try.prog 43 #[.pointer (some ⟨g, 0, none⟩), .int .i64 lo, .int .i64 hi] w fun r w' => r = .returned (.int .i64 0) ∧ w' = w := by
  have HR := Lib.hid (raw_dead g v e lo hi 2 w hs he)
  clear hs he
  go_enter Try.func43, Try.ntmps43
  go_wp2_with (fail)
  refine HR.out.mono ?_
  rintro r w1 ⟨rfl, rfl⟩
  go_wp2
  go_ret
  exact ⟨rfl, rfl⟩

theorem bool_rdead (g : Nat) (v : Value) (e : Int) (w : World) (hs : WireRS.Src w g v e) (he : (e == 0) = false) :
    Calls Try.prog 44 #[.pointer (some ⟨g, 0, none⟩)] w fun r w' => r = .returned (.bool false) ∧ w' = w := by
  have HR := Lib.hid (raw_dead g v e 0 1 2 w hs he)
  clear hs he
  go_enter Try.func44, Try.ntmps44
  go_wp2_with (fail)
  refine HR.out.mono ?_
  rintro r w1 ⟨rfl, rfl⟩
  go_wp2
  go_ret
  exact ⟨rfl, rfl⟩

theorem text_rdead (g : Nat) (v : Value) (e : Int) (most : Int) (w : World) (hs : WireRS.Src w g v e) (he : (e == 0) = false) :
    Calls Try.prog 45 #[.pointer (some ⟨g, 0, none⟩), .int .i64 most] w fun r w' => r = .returned (.string ⟨#[]⟩) ∧ w' = w := by
  have c0 := hs.rest
  have c1 := hs.err
  have he2 : (e != 0) = true := by simpa using he
  clear hs
  go_enter Try.func45, Try.ntmps45
  go_wp2
  go_ret
  exact ⟨rfl, rfl⟩

theorem ints_rdead (g : Nat) (v : Value) (e : Int) (most lo hi : Int) (w : World) (hs : WireRS.Src w g v e) (he : (e == 0) = false) :
    Calls Try.prog 46 #[.pointer (some ⟨g, 0, none⟩), .int .i64 most, .int .i64 lo, .int .i64 hi] w fun r w' => r = .returned (.slice none 0 0) ∧ w' = w := by
  have c0 := hs.rest
  have c1 := hs.err
  have he2 : (e != 0) = true := by simpa using he
  clear hs
  go_enter Try.func46, Try.ntmps46
  go_wp2
  go_ret
  exact ⟨rfl, rfl⟩

theorem texts_rdead (g : Nat) (v : Value) (e : Int) (most long : Int) (w : World) (hs : WireRS.Src w g v e) (he : (e == 0) = false) :
    Calls Try.prog 47 #[.pointer (some ⟨g, 0, none⟩), .int .i64 most, .int .i64 long] w fun r w' => r = .returned (.slice none 0 0) ∧ w' = w := by
  have c0 := hs.rest
  have c1 := hs.err
  have he2 : (e != 0) = true := by simpa using he
  clear hs
  go_enter Try.func47, Try.ntmps47
  go_wp2
  go_ret
  exact ⟨rfl, rfl⟩

theorem end_r (g n cap : Nat) (A : Option Addr) (e r : Int) (w : World) (hs : WireRS.Src w g (.slice A n cap) e) (h : ((e == 0) = false ∧ r = e) ∨ ((e == 0) = true ∧ n = 0 ∧ r = 0) ∨ ((e == 0) = true ∧ 0 < n ∧ r = 4)) :
    Calls Try.prog 27 #[.pointer (some ⟨g, 0, none⟩)] w fun q w' => q = .returned (.int .i64 r) ∧ w' = w := by
  have c0 := hs.rest
  have c1 := hs.err
  rcases h with ⟨h1, rfl⟩ | ⟨h1, rfl, rfl⟩ | ⟨h1, h2, rfl⟩
  · have he2 : (r != 0) = true := by simpa using h1
    go_enter Try.func27, Try.ntmps27
    go_wp2
    go_ret
    exact ⟨rfl, rfl⟩
  · obtain rfl := beq_iff_eq.1 h1
    go_enter Try.func27, Try.ntmps27
    go_wp2
    go_ret
    exact ⟨rfl, rfl⟩
  · obtain rfl := beq_iff_eq.1 h1
    have h3 : (0 : Int) < ((n : Nat) : Int) := by omega
    go_enter Try.func27, Try.ntmps27
    go_wp2
    go_ret
    exact ⟨rfl, rfl⟩

theorem src_newR (w : World) (v : Value) (e : Int) : WireRS.Src (w.alloc (.cells #[v, .int .i64 e] 39)) w.heap.size v e := by
  unfold WireRS.Src
  show (w.heap.push _)[w.heap.size]? = _
  simp

set_option maxHeartbeats 1000000 in
theorem same_both (A1 A2 : Option Addr) (c1 c2 n : Nat) (e : Int) (w : World)
    (HS : Hid (∀ W, Below w.heap.size w W → Calls Try.prog 13 #[.slice A1 n c1, .slice A2 n c2] W fun r w' => r = .returned (.bool true) ∧ Below W.heap.size W w')) :
    Calls Try.prog 25 #[.agg #[.slice A1 n c1, .int .i64 e], .agg #[.slice A2 n c2, .int .i64 e]] w fun r w' => r = .returned (.bool true) ∧ Below w.heap.size w w' := by
  have hb : Below w.heap.size w ((w.alloc (.cells #[.slice A1 n c1, .int .i64 e] 38)).alloc (.cells #[.slice A2 n c2, .int .i64 e] 39)) := bt (WireMeth.alloc_below w _) (WireMeth.alloc_below _ _)
  have HB := Lib.hid hb
  have s1 := WireSrc.src_new w (.slice A1 n c1) e
  have s2 : WireSrc.Src ((w.alloc (.cells #[.slice A1 n c1, .int .i64 e] 38)).alloc (.cells #[.slice A2 n c2, .int .i64 e] 39)) w.heap.size (.slice A1 n c1) e := s1.alloc _
  have s3 : WireRS.Src ((w.alloc (.cells #[.slice A1 n c1, .int .i64 e] 38)).alloc (.cells #[.slice A2 n c2, .int .i64 e] 39)) (w.heap.size + 1) (.slice A2 n c2) e := by
    have s := src_newR (w.alloc (.cells #[.slice A1 n c1, .int .i64 e] 38)) (.slice A2 n c2) e
    have hz : (w.alloc (.cells #[.slice A1 n c1, .int .i64 e] 38)).heap.size = w.heap.size + 1 := by simp
    rwa [hz] at s
  have HS2 := Lib.hid s2
  have HS3 := Lib.hid s3
  clear s1 s2 s3 hb
  go_enter Try.func25, Try.ntmps25
  go_wp2_with (fail)
  refine (HS.out _ HB.out).mono ?_
  rintro r w1 ⟨rfl, b1⟩
  have k2 := (HS2.out.below b1).err
  have k3 := (HS3.out.below b1).err
  have B1 := Lib.hid (bt HB.out b1)
  clear b1
  go_wp2
  go_ret
  exact ⟨by first | rfl | simp, B1.out⟩

end Go.Proofs.Ytcibkgmochikmaa.WireRDead
