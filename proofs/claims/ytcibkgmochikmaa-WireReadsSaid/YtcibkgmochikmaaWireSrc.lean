/- Sources: the walks of 'within' and the method Int. -/
import Derived.Test.YtcibkgmochikmaaWireParse
namespace Go.Proofs.Ytcibkgmochikmaa.WireSrc
set_option linter.unusedVariables false
open Go.RowKit Go.Proofs.Ytcibkgmochikmaa.WireBase Go.Proofs.Ytcibkgmochikmaa.WireInt Go.Proofs.Ytcibkgmochikmaa.WireAppend Go.Proofs.Ytcibkgmochikmaa.WireRead Go.Proofs.Ytcibkgmochikmaa.WireParse

/-- All but block g is as it was; the world may have grown. -/
structure Only (g : Nat) (w w' : World) : Prop where
  os : w'.os = w.os
  tape : w'.tape = w.tape
  output : w'.output = w.output
  size : w.heap.size ≤ w'.heap.size
  block : ∀ k, k < w.heap.size → k ≠ g → w'.heap[k]? = w.heap[k]?

theorem Only.refl (g : Nat) (w : World) : Only g w w := ⟨rfl, rfl, rfl, Nat.le_refl _, fun _ _ _ => rfl⟩
theorem Only.trans {g : Nat} {a b c : World} (h : Only g a b) (k : Only g b c) : Only g a c :=
  ⟨k.os.trans h.os, k.tape.trans h.tape, k.output.trans h.output, Nat.le_trans h.size k.size, fun i hi hg => (k.block i (Nat.lt_of_lt_of_le hi h.size) hg).trans (h.block i hi hg)⟩
theorem Only.of_below {g : Nat} {w w' : World} (h : Below w.heap.size w w') : Only g w w' := ⟨h.os, h.tape, h.output, h.size, fun k hk _ => h.block k hk⟩
theorem Only.set {g : Nat} {w : World} (j : Nat) (v : Value) : Only g w (w.setCell ⟨g, j, none⟩ v) :=
  ⟨rfl, rfl, rfl, by simp [World.setCell], fun k _ hk => Below.heap_setCell _ _ _ _ hk⟩
theorem Only.below {g B : Nat} {w w' : World} (h : Only g w w') (hB : B ≤ w.heap.size) (hg : B ≤ g) : Below B w w' := ⟨h.os, h.tape, h.output, h.size, fun k hk => h.block k (by omega) (by omega)⟩

theorem Only.alloc {g : Nat} {w w' : World} (h : Only g w w') (o : Obj) : Only g w (w'.alloc o) := h.trans (Only.of_below ((Below.refl _ _).alloc (Nat.le_refl _) o))

/-- A source lies at block g: what is left and the error. -/
def Src (w : World) (g : Nat) (v : Value) (e : Int) : Prop := w.heap[g]? = some (.cells #[v, .int .i64 e] 38)

theorem Src.lt {w : World} {g : Nat} {v : Value} {e : Int} (h : Src w g v e) : g < w.heap.size := (Array.getElem?_eq_some_iff.1 h).1
theorem Src.rest {w : World} {g : Nat} {v : Value} {e : Int} (h : Src w g v e) : w.cell? ⟨g, 0, none⟩ = some v := by
  unfold Src at h
  simp [World.cell?, h]
theorem Src.err {w : World} {g : Nat} {v : Value} {e : Int} (h : Src w g v e) : w.cell? ⟨g, 1, none⟩ = some (.int .i64 e) := by
  unfold Src at h
  simp [World.cell?, h]
theorem Src.free {w : World} {g : Nat} {v : Value} {e : Int} (h : Src w g v e) (j : Nat) : w.frozen? ⟨g, j, none⟩ = false := frozen_of h
theorem Src.setErr {w : World} {g : Nat} {v : Value} {e : Int} (h : Src w g v e) (e' : Int) : Src (w.setCell ⟨g, 1, none⟩ (.int .i64 e')) g v e' := by
  unfold Src at *
  simp [World.setCell, Array.getElem?_modify, h]
theorem Src.setRest {w : World} {g : Nat} {v : Value} {e : Int} (h : Src w g v e) (v' : Value) : Src (w.setCell ⟨g, 0, none⟩ v') g v' e := by
  unfold Src at *
  simp [World.setCell, Array.getElem?_modify, h]
theorem Src.below {w w' : World} {g : Nat} {v : Value} {e : Int} (h : Src w g v e) (hb : Below w.heap.size w w') : Src w' g v e := (hb.block g h.lt).trans h
theorem Src.only {w w' : World} {g k : Nat} {v : Value} {e : Int} (h : Src w g v e) (hb : Only k w w') (hk : g ≠ k) : Src w' g v e := (hb.block g h.lt hk).trans h

theorem Src.alloc {w : World} {g : Nat} {v : Value} {e : Int} (h : Src w g v e) (o : Obj) : Src (w.alloc o) g v e := h.below ((Below.refl _ _).alloc (Nat.le_refl _) o)

/-- Bytes do not lie where a source lies. -/
theorem Src.apart {w : World} {g : Nat} {v : Value} {e : Int} {B : Nat} {A : Option Addr} {zs : List Int} (h : Src w g v e) (hv : ∀ n, v ≠ .int .u8 n) (hl : Lies w .u8 B A zs) (h0 : 0 < zs.length) : ∃ ad, A = some ad ∧ ad.block ≠ g := by
  obtain ⟨ad, rfl, _, hc⟩ := hl h0
  refine ⟨ad, rfl, ?_⟩
  rintro rfl
  have := hc 0 h0
  obtain ⟨b, o, s⟩ := ad
  have hs := World.cell?_spot this
  have hs : s = none := by simpa [Addr.add] using hs
  subst hs
  rw [add_plain] at this
  unfold Src at h
  simp only [World.cell?, h] at this
  match o, this with
  | 0, e => simp at e; exact hv _ e
  | 1, e => simp at e
  | n + 2, e => simp at e

theorem Lies.only {w w' : World} {g : Nat} {v : Value} {e : Int} {A : Option Addr} {zs : List Int} (hl : Lies w .u8 w.heap.size A zs) (hs : Src w g v e) (hv : ∀ n, v ≠ .int .u8 n) (h : Only g w w') : Lies w' .u8 w'.heap.size A zs := fun h0 => by
  obtain ⟨ad, rfl, hne⟩ := hs.apart hv hl h0
  obtain ⟨ad', e', hlt, hc⟩ := hl h0
  obtain rfl := Option.some.inj e'
  refine ⟨ad, rfl, Nat.lt_of_lt_of_le hlt h.size, fun i hi => ?_⟩
  rw [← hc i hi]
  exact World.cell?_of_block (by rw [block_add_of]; exact h.block _ hlt hne)

/-- What is left of a slice behind its first s elements. -/
def Cut (A : Option Addr) (cap s : Nat) (A' : Option Addr) (c' : Nat) : Prop := (A' = A.map (fun x => x.add s) ∧ c' = cap - s) ∨ (A' = A ∧ c' = 0 ∧ cap = s)

theorem Cut.lies {A A' : Option Addr} {cap s c' : Nat} (h : Cut A cap s A' c') {w : World} {B : Nat} {zs : List Int} (hl : Lies w .u8 B A zs) (hc : zs.length ≤ cap) : Lies w .u8 B A' (zs.drop s) := fun h0 => by
  rw [List.length_drop] at h0
  obtain ⟨ad, rfl, hlt, hcell⟩ := hl (by omega)
  rcases h with ⟨rfl, _⟩ | ⟨_, _, h3⟩
  · refine ⟨ad.add s, rfl, by rw [block_add_of]; exact hlt, fun i hi => ?_⟩
    rw [List.length_drop] at hi
    have := hcell (s + i) (by omega)
    have hspot : ad.spot = none := by
      have := World.cell?_spot (hcell 0 (by omega))
      obtain ⟨b, o, sp⟩ := ad
      simpa [Addr.add] using this
    obtain ⟨b, o, sp⟩ := ad
    simp only at hspot
    subst hspot
    rw [add_plain] at this
    rw [add_plain, add_plain, Nat.add_assoc, this]
    simp [List.getD, List.getElem?_drop]
  · omega

/-- What 'within' does. -/
def Within (w w' : World) (g : Nat) (A : Option Addr) (n cap : Nat) (d : Option (Int × Int)) (lo hi e v : Int) : Prop :=
  (d = none ∧ v = 0 ∧ w' = w.setCell ⟨g, 1, none⟩ (.int .i64 4)) ∨
  (∃ m s, d = some (m, s) ∧ (m < lo ∨ hi < m) ∧ v = 0 ∧ w' = w.setCell ⟨g, 1, none⟩ (.int .i64 e)) ∨
  (∃ m s A' c', d = some (m, s) ∧ lo ≤ m ∧ m ≤ hi ∧ v = m ∧ Cut A cap s.toNat A' c' ∧ w' = w.setCell ⟨g, 0, none⟩ (.slice A' (n - s.toNat) c'))

set_option maxHeartbeats 1000000 in
theorem within_ok (g n cap : Nat) (A : Option Addr) (lo hi e m s : Int) (w : World) (hs : Src w g (.slice A n cap) 0) (h1 : lo ≤ m) (h2 : m ≤ hi) (hs0 : 0 ≤ s) (hs1 : s ≤ n) (hn : (n : Int) ≤ cap) (hc : (cap : Int) ≤ 9223372036854775807)
    (HP : Hid (∀ w1, Below w.heap.size w w1 → Calls Try.prog 62 #[.slice A n cap] w1 fun e w' => e = .returned (.tuple #[.int .i64 m, .int .i64 s, .bool true]) ∧ w1 = w')) :
    Calls Try.prog 50 #[.pointer (some ⟨g, 0, none⟩), .int .i64 lo, .int .i64 hi, .int .i64 e] w fun r w' => r = .returned (.int .i64 m) ∧ ∃ A' c', Cut A cap s.toNat A' c' ∧ w' = w.setCell ⟨g, 0, none⟩ (.slice A' (n - s.toNat) c') := by
  have c0 := hs.rest
  have c1 := hs.err
  have f0 := hs.free 0
  have f1 := hs.free 1
  have hlt := hs.lt
  have HS := Lib.hid hs
  clear hs
  go_enter Try.func50, Try.ntmps50
  go_wp2_with (fail)
  refine (HP.out _ (Below.refl _ _)).mono ?_
  rintro e w1 ⟨rfl, rfl⟩
  go_wp2
  · go_ret
    exact ⟨rfl, _, _, Or.inr ⟨rfl, rfl, by first | rfl | assumption⟩, rfl⟩
  · go_ret
    exact ⟨rfl, _, _, Or.inl ⟨rfl, rfl⟩, rfl⟩

set_option maxHeartbeats 1000000 in
theorem within_none (g n cap : Nat) (A : Option Addr) (lo hi e : Int) (w : World) (hs : Src w g (.slice A n cap) 0)
    (HP : Hid (∀ w1, Below w.heap.size w w1 → Calls Try.prog 62 #[.slice A n cap] w1 fun e w' => e = .returned (.tuple #[.int .i64 0, .int .i64 0, .bool false]) ∧ w1 = w')) :
    Calls Try.prog 50 #[.pointer (some ⟨g, 0, none⟩), .int .i64 lo, .int .i64 hi, .int .i64 e] w fun r w' => r = .returned (.int .i64 0) ∧ w' = w.setCell ⟨g, 1, none⟩ (.int .i64 4) := by
  have c0 := hs.rest
  have c1 := hs.err
  have f0 := hs.free 0
  have f1 := hs.free 1
  have hlt := hs.lt
  have HS := Lib.hid hs
  clear hs
  go_enter Try.func50, Try.ntmps50
  go_wp2_with (fail)
  refine (HP.out _ (Below.refl _ _)).mono ?_
  rintro e w1 ⟨rfl, rfl⟩
  go_wp2
  go_ret
  exact ⟨rfl, rfl⟩

set_option maxHeartbeats 1000000 in
theorem within_out (g n cap : Nat) (A : Option Addr) (lo hi e m s : Int) (w : World) (hs : Src w g (.slice A n cap) 0) (h1 : m < lo ∨ (lo ≤ m ∧ hi < m))
    (HP : Hid (∀ w1, Below w.heap.size w w1 → Calls Try.prog 62 #[.slice A n cap] w1 fun e w' => e = .returned (.tuple #[.int .i64 m, .int .i64 s, .bool true]) ∧ w1 = w')) :
    Calls Try.prog 50 #[.pointer (some ⟨g, 0, none⟩), .int .i64 lo, .int .i64 hi, .int .i64 e] w fun r w' => r = .returned (.int .i64 0) ∧ w' = w.setCell ⟨g, 1, none⟩ (.int .i64 e) := by
  have c0 := hs.rest
  have c1 := hs.err
  have f0 := hs.free 0
  have f1 := hs.free 1
  have hlt := hs.lt
  have HS := Lib.hid hs
  clear hs
  rcases h1 with h1 | ⟨h1, h2⟩
  all_goals
    go_enter Try.func50, Try.ntmps50
    go_wp2_with (fail)
    refine (HP.out _ (Below.refl _ _)).mono ?_
    rintro e w1 ⟨rfl, rfl⟩
    go_wp2
    go_ret
    exact ⟨rfl, rfl⟩

theorem within_skip (g n cap : Nat) (A : Option Addr) (lo hi e k : Int) (w : World) (hs : Src w g (.slice A n cap) k) (hk : (k == 0) = false) :
    Calls Try.prog 50 #[.pointer (some ⟨g, 0, none⟩), .int .i64 lo, .int .i64 hi, .int .i64 e] w fun r w' => r = .returned (.int .i64 0) ∧ w' = w := by
  have c0 := hs.rest
  have c1 := hs.err
  have hk2 : (k != 0) = true := by simpa using hk
  go_enter Try.func50, Try.ntmps50
  go_wp2
  go_ret
  exact ⟨rfl, rfl⟩

theorem dec_range (Z : List Int) (m s : Int) (h : dec Z = some (m, s)) : 0 ≤ s ∧ s ≤ Z.length := by
  unfold dec at h
  split at h
  · cases h
  · rename_i h0
    split at h
    · cases h
      omega
    · rename_i h1
      split at h
      · rename_i h2
        cases h
        unfold ok at h2
        simp at h2
        have : 0 ≤ kOf (Z.getD 0 0) := by unfold kOf; split <;> omega
        simp only [List.getD_eq_getElem?_getD] at this h2 ⊢
        omega
      · cases h

/-- 'within' at any source without an error. -/
theorem within_any (g cap : Nat) (A : Option Addr) (Z : List Int) (lo hi e : Int) (w : World) (hs : Src w g (.slice A Z.length cap) 0) (hl : Lies w .u8 w.heap.size A Z) (hb : Bytes Z) (hn : Z.length ≤ cap) (hc : (cap : Int) ≤ 9223372036854775807) :
    Calls Try.prog 50 #[.pointer (some ⟨g, 0, none⟩), .int .i64 lo, .int .i64 hi, .int .i64 e] w fun r w' => ∃ v, r = .returned (.int .i64 v) ∧ Within w w' g A Z.length cap (dec Z) lo hi e v := by
  have HP : ∀ w1, Below w.heap.size w w1 → Calls Try.prog 62 #[.slice A Z.length cap] w1 fun e w' => e = .returned (parsed (dec Z)) ∧ w1 = w' := fun w1 b1 => parse_any A cap Z w1 (hl.later b1) hb
  rcases hd : dec Z with _ | ⟨m, s⟩
  · rw [hd] at HP
    refine (within_none g Z.length cap A lo hi e w hs (Lib.hid HP)).mono ?_
    rintro r w' ⟨rfl, rfl⟩
    exact ⟨0, rfl, Or.inl ⟨rfl, rfl, rfl⟩⟩
  · rw [hd] at HP
    have hr := dec_range Z m s hd
    by_cases h1 : lo ≤ m ∧ m ≤ hi
    · refine (within_ok g Z.length cap A lo hi e m s w hs h1.1 h1.2 hr.1 hr.2 (by omega) hc (Lib.hid HP)).mono ?_
      rintro r w' ⟨rfl, A', c', hcut, rfl⟩
      exact ⟨m, rfl, Or.inr (Or.inr ⟨m, s, A', c', rfl, h1.1, h1.2, rfl, hcut, rfl⟩)⟩
    · refine (within_out g Z.length cap A lo hi e m s w hs (by omega) (Lib.hid HP)).mono ?_
      rintro r w' ⟨rfl, rfl⟩
      exact ⟨0, rfl, Or.inr (Or.inl ⟨m, s, rfl, by omega, rfl, rfl⟩)⟩

theorem onceI_any (g gl gh cap : Nat) (A : Option Addr) (Z : List Int) (lo hi : Int) (w : World) (hs : Src w g (.slice A Z.length cap) 0) (hl : Lies w .u8 w.heap.size A Z) (hb : Bytes Z) (hn : Z.length ≤ cap) (hc : (cap : Int) ≤ 9223372036854775807) (h1 : w.cell? ⟨gl, 0, none⟩ = some (.int .i64 lo)) (h2 : w.cell? ⟨gh, 0, none⟩ = some (.int .i64 hi)) :
    Calls Try.prog 55 #[.pointer (some ⟨g, 0, none⟩), .pointer (some ⟨gl, 0, none⟩), .pointer (some ⟨gh, 0, none⟩)] w fun r w' => ∃ v, r = .returned (.int .i64 v) ∧ Within w w' g A Z.length cap (dec Z) lo hi 2 v := by
  have HW := Lib.hid (within_any g cap A Z lo hi 2 w hs hl hb hn hc)
  clear hs hl hb hn hc
  go_enter Try.func55, Try.ntmps55
  go_wp2_with (fail)
  refine HW.out.mono ?_
  rintro r w1 ⟨v, rfl, hw⟩
  have H := Lib.hid hw
  clear hw
  go_wp2
  go_ret
  exact ⟨v, rfl, H.out⟩

/-- What reading an integer does. -/
def ReadI (w w' : World) (g : Nat) (A : Option Addr) (cap : Nat) (Z : List Int) (lo hi v : Int) : Prop :=
  Only g w w' ∧ ((dec Z = none ∧ v = 0 ∧ Src w' g (.slice A Z.length cap) 4) ∨
  (∃ m s, dec Z = some (m, s) ∧ (m < lo ∨ hi < m) ∧ v = 0 ∧ Src w' g (.slice A Z.length cap) 2) ∨
  (∃ m s A' c', dec Z = some (m, s) ∧ lo ≤ m ∧ m ≤ hi ∧ v = m ∧ (Z.drop s.toNat).length ≤ c' ∧ c' ≤ cap ∧ Src w' g (.slice A' (Z.drop s.toNat).length c') 0 ∧ Lies w' .u8 w'.heap.size A' (Z.drop s.toNat)))

theorem src_new (w : World) (v : Value) (e : Int) : Src (w.alloc (.cells #[v, .int .i64 e] 38)) w.heap.size v e := by
  unfold Src
  show (w.heap.push _)[w.heap.size]? = _
  simp

theorem not_byte (A : Option Addr) (n c : Nat) : ∀ k : Int, Value.slice A n c ≠ .int .u8 k := fun _ h => by cases h

set_option maxHeartbeats 1000000 in
theorem readI_any (g gl gh cap : Nat) (A : Option Addr) (Z : List Int) (lo hi : Int) (w : World) (hs : Src w g (.slice A Z.length cap) 0) (hl : Lies w .u8 w.heap.size A Z) (hb : Bytes Z) (hn : Z.length ≤ cap) (hc : (cap : Int) ≤ 9223372036854775807) (h1 : w.cell? ⟨gl, 0, none⟩ = some (.int .i64 lo)) (h2 : w.cell? ⟨gh, 0, none⟩ = some (.int .i64 hi)) (hgl : gl < w.heap.size) (hgh : gh < w.heap.size) :
    Calls Try.prog 54 #[.pointer (some ⟨g, 0, none⟩), .func (.func 55) #[] #[.pointer (some ⟨gl, 0, none⟩), .pointer (some ⟨gh, 0, none⟩)]] w fun r w' => ∃ v, r = .returned (.int .i64 v) ∧ ReadI w w' g A cap Z lo hi v := by
  have c0 := hs.rest
  have c1 := hs.err
  have f0 := hs.free 0
  have f1 := hs.free 1
  have hlt := hs.lt
  have HS := Lib.hid hs
  have HL := Lib.hid hl
  have HLE := Lib.hid hn
  have BN : Below w.heap.size w (w.alloc (.cells #[.slice A Z.length cap, .int .i64 0] 38)) := (Below.refl _ _).alloc (Nat.le_refl _) _
  have HO := Lib.hid (onceI_any w.heap.size gl gh cap A Z lo hi (w.alloc (.cells #[.slice A Z.length cap, .int .i64 0] 38)) (src_new w _ 0) (hl.later BN) hb hn hc ((BN.cell (p := ⟨gl, 0, none⟩) hgl).trans h1) ((BN.cell (p := ⟨gh, 0, none⟩) hgh).trans h2))
  have HB := Lib.hid BN
  clear hs hl hb hn hc h1 h2 BN
  go_enter Try.func54, Try.ntmps54
  go_wp2_with (fail)
  refine HO.out.mono ?_
  rintro r w1 ⟨v, rfl, hw⟩
  rcases hw with ⟨hd, rfl, rfl⟩ | ⟨m, s, hd, ho, rfl, rfl⟩ | ⟨m, s, A', c', hd, ho1, ho2, rfl, hcut, rfl⟩
  · go_wp2
    go_ret
    exact ⟨_, rfl, (Only.set 1 _).alloc _, Or.inl ⟨hd, rfl, (HS.out.setErr 4).alloc _⟩⟩
  · have HD := Lib.hid hd
    clear hd
    have HOO := Lib.hid ho
    clear ho
    go_wp2
    go_ret
    exact ⟨_, rfl, (Only.set 1 _).alloc _, Or.inr (Or.inl ⟨m, s, HD.out, HOO.out, rfl, (HS.out.setErr 2).alloc _⟩)⟩
  · have HD := Lib.hid hd
    have HCUT := Lib.hid hcut
    have HR := Lib.hid (dec_range Z v s hd)
    have H12 := Lib.hid (And.intro ho1 ho2)
    clear hd hcut ho1 ho2
    go_wp2
    go_ret
    have hlen : (Z.drop s.toNat).length = Z.length - s.toNat := List.length_drop
    have hr := HR.out
    have hle := HLE.out
    have ho : Only g w (((w.setCell ⟨g, 1, none⟩ (.int .i64 0)).setCell ⟨g, 0, none⟩ (.slice A' (Z.length - s.toNat) c')).alloc (.cells #[.slice A' (Z.length - s.toNat) c', .int .i64 0] 38)) := ((Only.set 1 _).trans (Only.set 0 _)).alloc _
    refine ⟨_, rfl, ho, Or.inr (Or.inr ⟨_, s, A', c', HD.out, H12.out.1, H12.out.2, rfl, ?_, ?_, ?_, ?_⟩)⟩
    · rcases HCUT.out with ⟨_, rfl⟩ | ⟨_, rfl, h3⟩ <;> omega
    · rcases HCUT.out with ⟨_, rfl⟩ | ⟨_, rfl, h3⟩ <;> omega
    · rw [hlen]
      exact ((HS.out.setErr 0).setRest _).alloc _
    · exact HCUT.out.lies (Lies.only HL.out HS.out (not_byte _ _ _) ho) hle

end Go.Proofs.Ytcibkgmochikmaa.WireSrc
