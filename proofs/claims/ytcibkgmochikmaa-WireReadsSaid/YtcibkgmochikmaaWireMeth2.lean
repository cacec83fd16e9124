/- Reading from a copy: 'read' for every kind of value. -/
import Derived.Test.YtcibkgmochikmaaWireMeth
namespace Go.Proofs.Ytcibkgmochikmaa.WireMeth
set_option linter.unusedVariables false
open Go.RowKit Go.Proofs.Ytcibkgmochikmaa.WireBase Go.Proofs.Ytcibkgmochikmaa.WireInt Go.Proofs.Ytcibkgmochikmaa.WireAppend Go.Proofs.Ytcibkgmochikmaa.WireRead Go.Proofs.Ytcibkgmochikmaa.WireParse Go.Proofs.Ytcibkgmochikmaa.WireSrc Go.Proofs.Ytcibkgmochikmaa.WireAwake Go.Proofs.Ytcibkgmochikmaa.WireCode Go.Proofs.Ytcibkgmochikmaa.WireCanon Go.Proofs.Ytcibkgmochikmaa.WireRd Go.Proofs.Ytcibkgmochikmaa.WireLst

/-- What is known behind a reading: an error, or a value and the rest. -/
def Ends {α : Type} (res : Except Int (α × List Int)) (bad : Int → Prop) (good : α → List Int → Prop) : Prop :=
  match res with
  | .error e => e ≠ 0 ∧ bad e
  | .ok (x, Y) => good x Y

set_option maxHeartbeats 2000000 in
theorem read_int {α : Type} (g B gl gh cap : Nat) (A : Option Addr) (Z : List Int) (res : Except Int (α × List Int)) (V : World → Value → α → Prop) (w : World) (hs : Src w g (.slice A Z.length cap) 0)
    (HC : Hid (Calls Try.prog 55 #[.pointer (some ⟨w.heap.size, 0, none⟩), .pointer (some ⟨gl, 0, none⟩), .pointer (some ⟨gh, 0, none⟩)] (w.alloc (.cells #[.slice A Z.length cap, .int .i64 0] 38)) fun r w' => ∃ v, r = .returned v ∧ Only w.heap.size (w.alloc (.cells #[.slice A Z.length cap, .int .i64 0] 38)) w' ∧ Ends res (fun e => ∃ A n c, Src w' w.heap.size (.slice A n c) e) (fun x Y => V w' v x ∧ Here w' w.heap.size B Y)))
    (HV : Hid (∀ w2 w3 v x, V w2 v x → Only g w2 w3 → V w3 v x)) (hB : B ≤ w.heap.size) :
    Calls Try.prog 54 #[.pointer (some ⟨g, 0, none⟩), .func (.func 55) #[] #[.pointer (some ⟨gl, 0, none⟩), .pointer (some ⟨gh, 0, none⟩)]] w fun r w' => ∃ v, r = .returned v ∧ Only g w w' ∧ Ends res (fun e => v = .int .i64 0 ∧ Src w' g (.slice A Z.length cap) e) (fun x Y => V w' v x ∧ Here w' g B Y) := by
  have c0 := hs.rest
  have c1 := hs.err
  have hlt := hs.lt
  have HS := Lib.hid hs
  have BN : Hid (Only g w (w.alloc (.cells #[.slice A Z.length cap, .int .i64 0] 38))) := Lib.hid ((Only.refl g w).alloc _)
  have HS1 := Lib.hid (hs.alloc (.cells #[.slice A Z.length cap, .int .i64 0] 38))
  have HZ : Hid ((w.alloc (.cells #[.slice A Z.length cap, .int .i64 0] 38)).heap.size = w.heap.size + 1) := Lib.hid (by simp)
  clear hs
  go_enter Try.func54, Try.ntmps54
  go_wp2_with (fail)
  refine HC.out.mono ?_
  rintro r w1 ⟨v, rfl, ho, hend⟩
  have HO := Lib.hid ho
  have S1 := HS1.out.only ho (by omega)
  have HOW : Hid (Only g w w1) := Lib.hid ⟨ho.os, ho.tape, ho.output, by have := ho.size; have := HZ.out; omega, fun k hk hg => (ho.block k (by have := HZ.out; omega) (by omega)).trans (BN.out.block k hk hg)⟩
  have q0 := S1.rest
  have q1 := S1.err
  have f0 := S1.free 0
  have f1 := S1.free 1
  have hlt1 := S1.lt
  have HS2 := Lib.hid S1
  clear ho S1 c0 c1
  cases res with
  | error e =>
    obtain ⟨he, A2, n2, c2, S2⟩ := hend
    have p0 := S2.rest
    have p1 := S2.err
    have hlt2 := S2.lt
    have he2 : (e != 0) = true := by simpa using he
    have HE := Lib.hid he
    clear S2 he
    go_wp2
    go_ret
    exact ⟨_, rfl, HOW.out.trans (Only.set 1 _), HE.out, rfl, HS2.out.setErr e⟩
  | ok p =>
    obtain ⟨x, Y⟩ := p
    obtain ⟨hv, hb, hBB, A2, c2, h1, h2, S2, l2⟩ := hend
    have p0 := S2.rest
    have p1 := S2.err
    have hlt2 := S2.lt
    have HL := Lib.hid l2
    have H12 := Lib.hid (And.intro h1 h2)
    have HVV := Lib.hid hv
    have HB := Lib.hid hb
    have HBB := Lib.hid hBB
    clear S2 l2 h1 h2 hv hb hBB
    go_wp2
    go_ret
    have ho : Only g w1 ((w1.setCell ⟨g, 1, none⟩ (.int .i64 0)).setCell ⟨g, 0, none⟩ (.slice A2 Y.length c2)) := (Only.set 1 _).trans (Only.set 0 _)
    exact ⟨_, rfl, HOW.out.trans ho, HV.out _ _ _ _ HVV.out ho, HB.out, by have := HBB.out; simpa [World.setCell] using this, A2, c2, H12.out.1, H12.out.2, (HS2.out.setErr 0).setRest _, lies_only HL.out HBB.out HS2.out (not_byte _ _ _) ho⟩

set_option maxHeartbeats 2000000 in
theorem read_string {α : Type} (g B gl cap : Nat) (A : Option Addr) (Z : List Int) (res : Except Int (α × List Int)) (V : World → Value → α → Prop) (w : World) (hs : Src w g (.slice A Z.length cap) 0)
    (HC : Hid (Calls Try.prog 57 #[.pointer (some ⟨w.heap.size, 0, none⟩), .pointer (some ⟨gl, 0, none⟩)] (w.alloc (.cells #[.slice A Z.length cap, .int .i64 0] 38)) fun r w' => ∃ v, r = .returned v ∧ Only w.heap.size (w.alloc (.cells #[.slice A Z.length cap, .int .i64 0] 38)) w' ∧ Ends res (fun e => ∃ A n c, Src w' w.heap.size (.slice A n c) e) (fun x Y => V w' v x ∧ Here w' w.heap.size B Y)))
    (HV : Hid (∀ w2 w3 v x, V w2 v x → Only g w2 w3 → V w3 v x)) (hB : B ≤ w.heap.size) :
    Calls Try.prog 56 #[.pointer (some ⟨g, 0, none⟩), .func (.func 57) #[] #[.pointer (some ⟨gl, 0, none⟩)]] w fun r w' => ∃ v, r = .returned v ∧ Only g w w' ∧ Ends res (fun e => v = .string ⟨#[]⟩ ∧ Src w' g (.slice A Z.length cap) e) (fun x Y => V w' v x ∧ Here w' g B Y) := by
  have c0 := hs.rest
  have c1 := hs.err
  have hlt := hs.lt
  have HS := Lib.hid hs
  have BN : Hid (Only g w (w.alloc (.cells #[.slice A Z.length cap, .int .i64 0] 38))) := Lib.hid ((Only.refl g w).alloc _)
  have HS1 := Lib.hid (hs.alloc (.cells #[.slice A Z.length cap, .int .i64 0] 38))
  have HZ : Hid ((w.alloc (.cells #[.slice A Z.length cap, .int .i64 0] 38)).heap.size = w.heap.size + 1) := Lib.hid (by simp)
  clear hs
  go_enter Try.func56, Try.ntmps56
  go_wp2_with (fail)
  refine HC.out.mono ?_
  rintro r w1 ⟨v, rfl, ho, hend⟩
  have HO := Lib.hid ho
  have S1 := HS1.out.only ho (by omega)
  have HOW : Hid (Only g w w1) := Lib.hid ⟨ho.os, ho.tape, ho.output, by have := ho.size; have := HZ.out; omega, fun k hk hg => (ho.block k (by have := HZ.out; omega) (by omega)).trans (BN.out.block k hk hg)⟩
  have q0 := S1.rest
  have q1 := S1.err
  have f0 := S1.free 0
  have f1 := S1.free 1
  have hlt1 := S1.lt
  have HS2 := Lib.hid S1
  clear ho S1 c0 c1
  cases res with
  | error e =>
    obtain ⟨he, A2, n2, c2, S2⟩ := hend
    have p0 := S2.rest
    have p1 := S2.err
    have hlt2 := S2.lt
    have he2 : (e != 0) = true := by simpa using he
    have HE := Lib.hid he
    clear S2 he
    go_wp2
    go_ret
    exact ⟨_, rfl, HOW.out.trans (Only.set 1 _), HE.out, rfl, HS2.out.setErr e⟩
  | ok p =>
    obtain ⟨x, Y⟩ := p
    obtain ⟨hv, hb, hBB, A2, c2, h1, h2, S2, l2⟩ := hend
    have p0 := S2.rest
    have p1 := S2.err
    have hlt2 := S2.lt
    have HL := Lib.hid l2
    have H12 := Lib.hid (And.intro h1 h2)
    have HVV := Lib.hid hv
    have HB := Lib.hid hb
    have HBB := Lib.hid hBB
    clear S2 l2 h1 h2 hv hb hBB
    go_wp2
    go_ret
    have ho : Only g w1 ((w1.setCell ⟨g, 1, none⟩ (.int .i64 0)).setCell ⟨g, 0, none⟩ (.slice A2 Y.length c2)) := (Only.set 1 _).trans (Only.set 0 _)
    exact ⟨_, rfl, HOW.out.trans ho, HV.out _ _ _ _ HVV.out ho, HB.out, by have := HBB.out; simpa [World.setCell] using this, A2, c2, H12.out.1, H12.out.2, (HS2.out.setErr 0).setRest _, lies_only HL.out HBB.out HS2.out (not_byte _ _ _) ho⟩

set_option maxHeartbeats 2000000 in
theorem read_ints {α : Type} (g B gl gh cap : Nat) (A : Option Addr) (Z : List Int) (res : Except Int (α × List Int)) (V : World → Value → α → Prop) (w : World) (hs : Src w g (.slice A Z.length cap) 0)
    (HC : Hid (Calls Try.prog 61 #[.pointer (some ⟨w.heap.size, 0, none⟩), .pointer (some ⟨gl, 0, none⟩), .pointer (some ⟨gh, 0, none⟩)] (w.alloc (.cells #[.slice A Z.length cap, .int .i64 0] 38)) fun r w' => ∃ v, r = .returned v ∧ Only w.heap.size (w.alloc (.cells #[.slice A Z.length cap, .int .i64 0] 38)) w' ∧ Ends res (fun e => ∃ A n c, Src w' w.heap.size (.slice A n c) e) (fun x Y => V w' v x ∧ Here w' w.heap.size B Y)))
    (HV : Hid (∀ w2 w3 v x, V w2 v x → Only g w2 w3 → V w3 v x)) (hB : B ≤ w.heap.size) :
    Calls Try.prog 60 #[.pointer (some ⟨g, 0, none⟩), .func (.func 61) #[] #[.pointer (some ⟨gl, 0, none⟩), .pointer (some ⟨gh, 0, none⟩)]] w fun r w' => ∃ v, r = .returned v ∧ Only g w w' ∧ Ends res (fun e => v = .slice none 0 0 ∧ Src w' g (.slice A Z.length cap) e) (fun x Y => V w' v x ∧ Here w' g B Y) := by
  have c0 := hs.rest
  have c1 := hs.err
  have hlt := hs.lt
  have HS := Lib.hid hs
  have BN : Hid (Only g w (w.alloc (.cells #[.slice A Z.length cap, .int .i64 0] 38))) := Lib.hid ((Only.refl g w).alloc _)
  have HS1 := Lib.hid (hs.alloc (.cells #[.slice A Z.length cap, .int .i64 0] 38))
  have HZ : Hid ((w.alloc (.cells #[.slice A Z.length cap, .int .i64 0] 38)).heap.size = w.heap.size + 1) := Lib.hid (by simp)
  clear hs
  go_enter Try.func60, Try.ntmps60
  go_wp2_with (fail)
  refine HC.out.mono ?_
  rintro r w1 ⟨v, rfl, ho, hend⟩
  have HO := Lib.hid ho
  have S1 := HS1.out.only ho (by omega)
  have HOW : Hid (Only g w w1) := Lib.hid ⟨ho.os, ho.tape, ho.output, by have := ho.size; have := HZ.out; omega, fun k hk hg => (ho.block k (by have := HZ.out; omega) (by omega)).trans (BN.out.block k hk hg)⟩
  have q0 := S1.rest
  have q1 := S1.err
  have f0 := S1.free 0
  have f1 := S1.free 1
  have hlt1 := S1.lt
  have HS2 := Lib.hid S1
  clear ho S1 c0 c1
  cases res with
  | error e =>
    obtain ⟨he, A2, n2, c2, S2⟩ := hend
    have p0 := S2.rest
    have p1 := S2.err
    have hlt2 := S2.lt
    have he2 : (e != 0) = true := by simpa using he
    have HE := Lib.hid he
    clear S2 he
    go_wp2
    go_ret
    exact ⟨_, rfl, HOW.out.trans (Only.set 1 _), HE.out, rfl, HS2.out.setErr e⟩
  | ok p =>
    obtain ⟨x, Y⟩ := p
    obtain ⟨hv, hb, hBB, A2, c2, h1, h2, S2, l2⟩ := hend
    have p0 := S2.rest
    have p1 := S2.err
    have hlt2 := S2.lt
    have HL := Lib.hid l2
    have H12 := Lib.hid (And.intro h1 h2)
    have HVV := Lib.hid hv
    have HB := Lib.hid hb
    have HBB := Lib.hid hBB
    clear S2 l2 h1 h2 hv hb hBB
    go_wp2
    go_ret
    have ho : Only g w1 ((w1.setCell ⟨g, 1, none⟩ (.int .i64 0)).setCell ⟨g, 0, none⟩ (.slice A2 Y.length c2)) := (Only.set 1 _).trans (Only.set 0 _)
    exact ⟨_, rfl, HOW.out.trans ho, HV.out _ _ _ _ HVV.out ho, HB.out, by have := HBB.out; simpa [World.setCell] using this, A2, c2, H12.out.1, H12.out.2, (HS2.out.setErr 0).setRest _, lies_only HL.out HBB.out HS2.out (not_byte _ _ _) ho⟩

set_option maxHeartbeats 2000000 in
theorem read_strings {α : Type} (g B gl gh cap : Nat) (A : Option Addr) (Z : List Int) (res : Except Int (α × List Int)) (V : World → Value → α → Prop) (w : World) (hs : Src w g (.slice A Z.length cap) 0)
    (HC : Hid (Calls Try.prog 64 #[.pointer (some ⟨w.heap.size, 0, none⟩), .pointer (some ⟨gl, 0, none⟩), .pointer (some ⟨gh, 0, none⟩)] (w.alloc (.cells #[.slice A Z.length cap, .int .i64 0] 38)) fun r w' => ∃ v, r = .returned v ∧ Only w.heap.size (w.alloc (.cells #[.slice A Z.length cap, .int .i64 0] 38)) w' ∧ Ends res (fun e => ∃ A n c, Src w' w.heap.size (.slice A n c) e) (fun x Y => V w' v x ∧ Here w' w.heap.size B Y)))
    (HV : Hid (∀ w2 w3 v x, V w2 v x → Only g w2 w3 → V w3 v x)) (hB : B ≤ w.heap.size) :
    Calls Try.prog 63 #[.pointer (some ⟨g, 0, none⟩), .func (.func 64) #[] #[.pointer (some ⟨gl, 0, none⟩), .pointer (some ⟨gh, 0, none⟩)]] w fun r w' => ∃ v, r = .returned v ∧ Only g w w' ∧ Ends res (fun e => v = .slice none 0 0 ∧ Src w' g (.slice A Z.length cap) e) (fun x Y => V w' v x ∧ Here w' g B Y) := by
  have c0 := hs.rest
  have c1 := hs.err
  have hlt := hs.lt
  have HS := Lib.hid hs
  have BN : Hid (Only g w (w.alloc (.cells #[.slice A Z.length cap, .int .i64 0] 38))) := Lib.hid ((Only.refl g w).alloc _)
  have HS1 := Lib.hid (hs.alloc (.cells #[.slice A Z.length cap, .int .i64 0] 38))
  have HZ : Hid ((w.alloc (.cells #[.slice A Z.length cap, .int .i64 0] 38)).heap.size = w.heap.size + 1) := Lib.hid (by simp)
  clear hs
  go_enter Try.func63, Try.ntmps63
  go_wp2_with (fail)
  refine HC.out.mono ?_
  rintro r w1 ⟨v, rfl, ho, hend⟩
  have HO := Lib.hid ho
  have S1 := HS1.out.only ho (by omega)
  have HOW : Hid (Only g w w1) := Lib.hid ⟨ho.os, ho.tape, ho.output, by have := ho.size; have := HZ.out; omega, fun k hk hg => (ho.block k (by have := HZ.out; omega) (by omega)).trans (BN.out.block k hk hg)⟩
  have q0 := S1.rest
  have q1 := S1.err
  have f0 := S1.free 0
  have f1 := S1.free 1
  have hlt1 := S1.lt
  have HS2 := Lib.hid S1
  clear ho S1 c0 c1
  cases res with
  | error e =>
    obtain ⟨he, A2, n2, c2, S2⟩ := hend
    have p0 := S2.rest
    have p1 := S2.err
    have hlt2 := S2.lt
    have he2 : (e != 0) = true := by simpa using he
    have HE := Lib.hid he
    clear S2 he
    go_wp2
    go_ret
    exact ⟨_, rfl, HOW.out.trans (Only.set 1 _), HE.out, rfl, HS2.out.setErr e⟩
  | ok p =>
    obtain ⟨x, Y⟩ := p
    obtain ⟨hv, hb, hBB, A2, c2, h1, h2, S2, l2⟩ := hend
    have p0 := S2.rest
    have p1 := S2.err
    have hlt2 := S2.lt
    have HL := Lib.hid l2
    have H12 := Lib.hid (And.intro h1 h2)
    have HVV := Lib.hid hv
    have HB := Lib.hid hb
    have HBB := Lib.hid hBB
    clear S2 l2 h1 h2 hv hb hBB
    go_wp2
    go_ret
    have ho : Only g w1 ((w1.setCell ⟨g, 1, none⟩ (.int .i64 0)).setCell ⟨g, 0, none⟩ (.slice A2 Y.length c2)) := (Only.set 1 _).trans (Only.set 0 _)
    exact ⟨_, rfl, HOW.out.trans ho, HV.out _ _ _ _ HVV.out ho, HB.out, by have := HBB.out; simpa [World.setCell] using this, A2, c2, H12.out.1, H12.out.2, (HS2.out.setErr 0).setRest _, lies_only HL.out HBB.out HS2.out (not_byte _ _ _) ho⟩

end Go.Proofs.Ytcibkgmochikmaa.WireMeth
