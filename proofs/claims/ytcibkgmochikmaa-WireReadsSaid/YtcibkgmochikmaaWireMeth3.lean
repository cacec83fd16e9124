/- The methods of a source, for every source without an error. -/
import Derived.Test.YtcibkgmochikmaaWireMeth2
namespace Go.Proofs.Ytcibkgmochikmaa.WireMeth
set_option linter.unusedVariables false
open Go.RowKit Go.Proofs.Ytcibkgmochikmaa.WireBase Go.Proofs.Ytcibkgmochikmaa.WireInt Go.Proofs.Ytcibkgmochikmaa.WireAppend Go.Proofs.Ytcibkgmochikmaa.WireRead Go.Proofs.Ytcibkgmochikmaa.WireParse Go.Proofs.Ytcibkgmochikmaa.WireSrc Go.Proofs.Ytcibkgmochikmaa.WireAwake Go.Proofs.Ytcibkgmochikmaa.WireCode Go.Proofs.Ytcibkgmochikmaa.WireCanon Go.Proofs.Ytcibkgmochikmaa.WireRd Go.Proofs.Ytcibkgmochikmaa.WireLst

/-- A source without an error, its slice named. -/
structure Full (w : World) (g B : Nat) (A : Option Addr) (cap : Nat) (Z : List Int) : Prop where
  bytes : Bytes Z
  bound : B ≤ w.heap.size
  room : Z.length ≤ cap
  top : (cap : Int) ≤ 9223372036854775807
  src : Src w g (.slice A Z.length cap) 0
  lies : Lies w .u8 B A Z

theorem Full.later {w w' : World} {g B cap : Nat} {A : Option Addr} {Z : List Int} (h : Full w g B A cap Z) (hb : Below w.heap.size w w') : Full w' g B A cap Z :=
  ⟨h.bytes, Nat.le_trans h.bound hb.size, h.room, h.top, h.src.below hb, h.lies.below (hb.mono h.bound)⟩

theorem Full.copy {w : World} {g B cap : Nat} {A : Option Addr} {Z : List Int} (h : Full w g B A cap Z) : Here (w.alloc (.cells #[.slice A Z.length cap, .int .i64 0] 38)) w.heap.size B Z :=
  ⟨h.bytes, by have := h.bound; simp; omega, A, cap, h.room, h.top, src_new w _ 0, h.lies.below (((Below.refl _ _).alloc (Nat.le_refl _) _).mono h.bound)⟩

theorem Here.full {w : World} {g B : Nat} {Z : List Int} (h : Here w g B Z) : ∃ A cap, Full w g B A cap Z := by
  obtain ⟨h1, h2, A, c, h3, h4, h5, h6⟩ := h
  exact ⟨A, c, h1, h2, h3, h4, h5, h6⟩

theorem inner_ends {α : Type} {w w' : World} {t B : Nat} {res : Except Int (α × List Int)} {val : α → Prop} (h : Inner w w' t B res val True) : Only t w w' ∧ Ends res (fun e => ∃ A n c, Src w' t (.slice A n c) e) (fun x Y => val x ∧ Here w' t B Y) := by
  refine ⟨h.1, ?_⟩
  have h2 := h.2
  cases res with
  | error e => exact ⟨h2.2.1, h2.2.2⟩
  | ok p => exact h2

theorem ends_imp {α : Type} {res : Except Int (α × List Int)} {b b' : Int → Prop} {g g' : α → List Int → Prop} (h : Ends res b g) (hb : ∀ e, b e → b' e) (hg : ∀ x Y, g x Y → g' x Y) : Ends res b' g' := by
  cases res with
  | error e => exact ⟨h.1, hb e h.2⟩
  | ok p => exact hg _ _ h

theorem cell_new (w : World) (v : Value) (T : TypeId) : (w.alloc (.cells #[v] T)).cell? ⟨w.heap.size, 0, none⟩ = some v := by
  have : (w.alloc (.cells #[v] T)).heap[w.heap.size]? = some (.cells #[v] T) := by
    show (w.heap.push _)[w.heap.size]? = _
    simp
  simp only [World.cell?]
  rw [this]
  rfl
theorem alloc_below (w : World) (o : Obj) : Below w.heap.size w (w.alloc o) := (Below.refl _ _).alloc (Nat.le_refl _) _
theorem alloc_size (w : World) (o : Obj) : (w.alloc o).heap.size = w.heap.size + 1 := by simp
theorem cell_old {w : World} {k j : Nat} {v : Value} (h : w.cell? ⟨k, j, none⟩ = some v) (o : Obj) (hk : k < w.heap.size) : (w.alloc o).cell? ⟨k, j, none⟩ = some v := ((alloc_below w o).cell (p := ⟨k, j, none⟩) hk).trans h

set_option maxHeartbeats 1000000 in
theorem int_m (g B cap : Nat) (A : Option Addr) (Z : List Int) (lo hi : Int) (w : World) (hf : Full w g B A cap Z) :
    Calls Try.prog 32 #[.pointer (some ⟨g, 0, none⟩), .int .i64 lo, .int .i64 hi] w fun r w' => ∃ v : Int, r = .returned (.int .i64 v) ∧ Only g w w' ∧ Ends (rdI lo hi 2 Z) (fun e => v = 0 ∧ Src w' g (.slice A Z.length cap) e) (fun x Y => v = x ∧ Here w' g B Y) := by
  have b1 := alloc_below w (.cells #[.int .i64 lo] 3)
  have b2 : Below w.heap.size w ((w.alloc (.cells #[.int .i64 lo] 3)).alloc (.cells #[.int .i64 hi] 3)) := bt b1 (alloc_below _ _)
  have f2 := hf.later b2
  have k1 : ((w.alloc (.cells #[.int .i64 lo] 3)).alloc (.cells #[.int .i64 hi] 3)).cell? ⟨w.heap.size, 0, none⟩ = some (.int .i64 lo) := by go_cell
  have k2 : ((w.alloc (.cells #[.int .i64 lo] 3)).alloc (.cells #[.int .i64 hi] 3)).cell? ⟨w.heap.size + 1, 0, none⟩ = some (.int .i64 hi) := by go_cell
  have z2 : ((w.alloc (.cells #[.int .i64 lo] 3)).alloc (.cells #[.int .i64 hi] 3)).heap.size = w.heap.size + 2 := by simp
  have HR := Lib.hid (read_int g B w.heap.size (w.heap.size + 1) cap A Z (rdI lo hi 2 Z) (fun _ v x => v = .int .i64 x) ((w.alloc (.cells #[.int .i64 lo] 3)).alloc (.cells #[.int .i64 hi] 3)) f2.src (Lib.hid ((onceInt1_rd _ w.heap.size (w.heap.size + 1) B Z lo hi _ f2.copy (cell_old k1 _ (by omega)) (cell_old k2 _ (by omega))).mono fun r w' h => by
    obtain ⟨v, rfl, h⟩ := h
    have := inner_ends h
    exact ⟨_, rfl, this.1, ends_imp this.2 (fun _ h => h) fun x Y h => ⟨by rw [h.1], h.2⟩⟩)) (Lib.hid fun _ _ _ _ h _ => h) f2.bound)
  have HB := Lib.hid b2
  clear hf b1 b2 f2 k1 k2 z2
  go_enter Try.func32, Try.ntmps32
  go_wp2_with (fail)
  refine HR.out.mono ?_
  rintro r w1 ⟨v, rfl, ho, hend⟩
  have HO := Lib.hid ((Only.of_below HB.out).trans ho)
  have HE := Lib.hid hend
  clear ho hend
  go_wp2
  go_ret
  have hend := HE.out
  cases hres : rdI lo hi 2 Z with
  | error e =>
    rw [hres] at hend
    obtain ⟨he, rfl, h⟩ := hend
    exact ⟨0, rfl, HO.out, he, rfl, h⟩
  | ok p =>
    obtain ⟨x, Y⟩ := p
    rw [hres] at hend
    obtain ⟨rfl, h⟩ := hend
    exact ⟨x, rfl, HO.out, rfl, h⟩

set_option maxHeartbeats 1000000 in
theorem text_m (g B cap : Nat) (A : Option Addr) (Z : List Int) (most : Int) (w : World) (hf : Full w g B A cap Z) :
    Calls Try.prog 34 #[.pointer (some ⟨g, 0, none⟩), .int .i64 most] w fun r w' => ∃ v : ByteArray, r = .returned (.string v) ∧ Only g w w' ∧ Ends (rdT most Z) (fun e => v = ⟨#[]⟩ ∧ Src w' g (.slice A Z.length cap) e) (fun x Y => v = x ∧ Here w' g B Y) := by
  have b2 := alloc_below w (.cells #[.int .i64 most] 3)
  have f2 := hf.later b2
  have k1 := cell_new w (.int .i64 most) 3
  have HR := Lib.hid (read_string g B w.heap.size cap A Z (rdT most Z) (fun _ v x => v = .string x) (w.alloc (.cells #[.int .i64 most] 3)) f2.src (Lib.hid ((onceText1_rd _ w.heap.size B Z most _ f2.copy (cell_old k1 _ (by simp))).mono fun r w' h => by
    obtain ⟨v, rfl, h⟩ := h
    have := inner_ends h
    exact ⟨_, rfl, this.1, ends_imp this.2 (fun _ h => h) fun x Y h => ⟨by rw [h.1], h.2⟩⟩)) (Lib.hid fun _ _ _ _ h _ => h) f2.bound)
  have HB := Lib.hid b2
  clear hf b2 f2 k1
  go_enter Try.func34, Try.ntmps34
  go_wp2_with (fail)
  refine HR.out.mono ?_
  rintro r w1 ⟨v, rfl, ho, hend⟩
  have HO := Lib.hid ((Only.of_below HB.out).trans ho)
  have HE := Lib.hid hend
  clear ho hend
  go_wp2
  go_ret
  have hend := HE.out
  cases hres : rdT most Z with
  | error e =>
    rw [hres] at hend
    obtain ⟨he, rfl, h⟩ := hend
    exact ⟨_, rfl, HO.out, he, rfl, h⟩
  | ok p =>
    obtain ⟨x, Y⟩ := p
    rw [hres] at hend
    obtain ⟨rfl, h⟩ := hend
    exact ⟨x, rfl, HO.out, rfl, h⟩

set_option maxHeartbeats 1000000 in
theorem bool_m (g B cap : Nat) (A : Option Addr) (Z : List Int) (w : World) (hf : Full w g B A cap Z) :
    Calls Try.prog 33 #[.pointer (some ⟨g, 0, none⟩)] w fun r w' => ∃ v : Bool, r = .returned (.bool v) ∧ Only g w w' ∧ Ends (rdI 0 1 2 Z) (fun e => v = false ∧ Src w' g (.slice A Z.length cap) e) (fun x Y => v = (x == 1) ∧ Here w' g B Y) := by
  have HR := Lib.hid (int_m g B cap A Z 0 1 w hf)
  clear hf
  go_enter Try.func33, Try.ntmps33
  go_wp2_with (fail)
  refine HR.out.mono ?_
  rintro r w1 ⟨v, rfl, ho, hend⟩
  have HO := Lib.hid ho
  have HE := Lib.hid hend
  clear ho hend
  go_wp2
  go_ret
  refine ⟨_, rfl, HO.out, ends_imp HE.out (fun e h => ⟨by rw [h.1]; rfl, h.2⟩) fun x Y h => ⟨by rw [h.1], h.2⟩⟩

set_option maxHeartbeats 1000000 in
theorem readList_int (g B gl gh cap : Nat) (A : Option Addr) (Z : List Int) (most lo hi : Int) (w : World) (hf : Full w g B A cap Z) (hlen : Z.length ≤ 100000) (hm : most ≤ 9223372036854775807) (hl : gl < w.heap.size ∧ w.cell? ⟨gl, 0, none⟩ = some (.int .i64 lo)) (hh2 : gh < w.heap.size ∧ w.cell? ⟨gh, 0, none⟩ = some (.int .i64 hi)) :
    Calls Try.prog 48 #[.pointer (some ⟨g, 0, none⟩), .int .i64 most, .func (.func 49) #[] #[.pointer (some ⟨gl, 0, none⟩), .pointer (some ⟨gh, 0, none⟩)]] w fun r w' => ∃ v, r = .returned v ∧ Only g w w' ∧ Ends (rdL (rdI lo hi 2) most Z) (fun e => v = .slice none 0 0 ∧ Src w' g (.slice A Z.length cap) e) (fun xs Y => (∃ base, w.heap.size ≤ base ∧ OwnV w' base 3 v (xs.map (Value.int .i64))) ∧ Here w' g B Y) := by
  obtain ⟨w2, hw2⟩ : ∃ w2, w2 = (w.alloc (.cells #[.int .i64 most] 3)).alloc (.cells #[.func (.func 49) #[] #[.pointer (some ⟨gl, 0, none⟩), .pointer (some ⟨gh, 0, none⟩)]] 69) := ⟨_, rfl⟩
  have b2 : Below w.heap.size w w2 := hw2 ▸ bt (alloc_below w _) (alloc_below _ _)
  have k1 : w2.cell? ⟨w.heap.size, 0, none⟩ = some (.int .i64 most) := hw2 ▸ cell_old (cell_new w _ _) _ (by simp)
  have k2 : w2.cell? ⟨w.heap.size + 1, 0, none⟩ = some (.func (.func 49) #[] #[.pointer (some ⟨gl, 0, none⟩), .pointer (some ⟨gh, 0, none⟩)]) := by
    have := cell_new (w.alloc (.cells #[.int .i64 most] 3)) (.func (.func 49) #[] #[.pointer (some ⟨gl, 0, none⟩), .pointer (some ⟨gh, 0, none⟩)]) 69
    rw [hw2]
    rwa [alloc_size] at this
  have z2 : w2.heap.size = w.heap.size + 2 := by rw [hw2]; simp
  have f2 := hf.later b2
  have hg : g < w.heap.size := hf.src.lt
  have HR := Lib.hid (read_ints g B w.heap.size (w.heap.size + 1) cap A Z (rdL (rdI lo hi 2) most Z) (fun W v xs => OwnV W (w2.heap.size + 1) 3 v (xs.map (Value.int .i64))) w2 f2.src (Lib.hid ((once_int w2.heap.size w.heap.size (w.heap.size + 1) gl gh B most lo hi Z _ f2.copy hlen hm (cell_old k1 _ (by omega)) ⟨by simp; omega, by omega⟩ (cell_old k2 _ (by omega)) ⟨by simp; omega, by omega, cell_old ((b2.cell (p := ⟨gl, 0, none⟩) hl.1).trans hl.2) _ (by omega)⟩ ⟨by simp; omega, by omega, cell_old ((b2.cell (p := ⟨gh, 0, none⟩) hh2.1).trans hh2.2) _ (by omega)⟩).mono fun r w' h => by
    obtain ⟨v, rfl, h⟩ := h
    refine ⟨_, rfl, h.1, ?_⟩
    have h2 := h.2
    cases hres : rdL (rdI lo hi 2) most Z with
    | error e => rw [hres] at h2; exact h2
    | ok p =>
      rw [hres] at h2
      rw [alloc_size] at h2
      exact h2)) (Lib.hid fun w2 w3 v x h ho => OwnV.only h ho (by omega)) f2.bound)
  have HB := Lib.hid b2
  have HZ := Lib.hid z2
  clear hf b2 f2 k1 k2 z2
  go_enter Try.func48, Try.ntmps48
  go_wp2_with (fail)
  rw [← hw2]
  refine HR.out.mono ?_
  rintro r w1 ⟨v, rfl, ho, hend⟩
  have HO := Lib.hid ((Only.of_below HB.out).trans ho)
  have HE := Lib.hid hend
  clear ho hend
  go_wp2
  go_ret
  exact ⟨_, rfl, HO.out, ends_imp HE.out (fun e h => h) fun x Y h => ⟨⟨_, by have := HZ.out; omega, h.1⟩, h.2⟩⟩

set_option maxHeartbeats 1000000 in
theorem readList_string (g B gl cap : Nat) (A : Option Addr) (Z : List Int) (most long : Int) (w : World) (hf : Full w g B A cap Z) (hlen : Z.length ≤ 100000) (hm : most ≤ 9223372036854775807) (hl : gl < w.heap.size ∧ w.cell? ⟨gl, 0, none⟩ = some (.int .i64 long)) :
    Calls Try.prog 51 #[.pointer (some ⟨g, 0, none⟩), .int .i64 most, .func (.func 52) #[] #[.pointer (some ⟨gl, 0, none⟩)]] w fun r w' => ∃ v, r = .returned v ∧ Only g w w' ∧ Ends (rdL (rdT long) most Z) (fun e => v = .slice none 0 0 ∧ Src w' g (.slice A Z.length cap) e) (fun xs Y => (∃ base, w.heap.size ≤ base ∧ OwnV w' base 9 v (xs.map (Value.string))) ∧ Here w' g B Y) := by
  obtain ⟨w2, hw2⟩ : ∃ w2, w2 = (w.alloc (.cells #[.int .i64 most] 3)).alloc (.cells #[.func (.func 52) #[] #[.pointer (some ⟨gl, 0, none⟩)]] 71) := ⟨_, rfl⟩
  have b2 : Below w.heap.size w w2 := hw2 ▸ bt (alloc_below w _) (alloc_below _ _)
  have k1 : w2.cell? ⟨w.heap.size, 0, none⟩ = some (.int .i64 most) := hw2 ▸ cell_old (cell_new w _ _) _ (by simp)
  have k2 : w2.cell? ⟨w.heap.size + 1, 0, none⟩ = some (.func (.func 52) #[] #[.pointer (some ⟨gl, 0, none⟩)]) := by
    have := cell_new (w.alloc (.cells #[.int .i64 most] 3)) (.func (.func 52) #[] #[.pointer (some ⟨gl, 0, none⟩)]) 71
    rw [hw2]
    rwa [alloc_size] at this
  have z2 : w2.heap.size = w.heap.size + 2 := by rw [hw2]; simp
  have f2 := hf.later b2
  have hg : g < w.heap.size := hf.src.lt
  have HR := Lib.hid (read_strings g B w.heap.size (w.heap.size + 1) cap A Z (rdL (rdT long) most Z) (fun W v xs => OwnV W (w2.heap.size + 1) 9 v (xs.map (Value.string))) w2 f2.src (Lib.hid ((once_string w2.heap.size w.heap.size (w.heap.size + 1) gl B most long Z _ f2.copy hlen hm (cell_old k1 _ (by omega)) ⟨by simp; omega, by omega⟩ (cell_old k2 _ (by omega)) ⟨by simp; omega, by omega, cell_old ((b2.cell (p := ⟨gl, 0, none⟩) hl.1).trans hl.2) _ (by omega)⟩).mono fun r w' h => by
    obtain ⟨v, rfl, h⟩ := h
    refine ⟨_, rfl, h.1, ?_⟩
    have h2 := h.2
    cases hres : rdL (rdT long) most Z with
    | error e => rw [hres] at h2; exact h2
    | ok p =>
      rw [hres] at h2
      rw [alloc_size] at h2
      exact h2)) (Lib.hid fun w2 w3 v x h ho => OwnV.only h ho (by omega)) f2.bound)
  have HB := Lib.hid b2
  have HZ := Lib.hid z2
  clear hf b2 f2 k1 k2 z2
  go_enter Try.func51, Try.ntmps51
  go_wp2_with (fail)
  rw [← hw2]
  refine HR.out.mono ?_
  rintro r w1 ⟨v, rfl, ho, hend⟩
  have HO := Lib.hid ((Only.of_below HB.out).trans ho)
  have HE := Lib.hid hend
  clear ho hend
  go_wp2
  go_ret
  exact ⟨_, rfl, HO.out, ends_imp HE.out (fun e h => h) fun x Y h => ⟨⟨_, by have := HZ.out; omega, h.1⟩, h.2⟩⟩

set_option maxHeartbeats 1000000 in
theorem ints_m (g B cap : Nat) (A : Option Addr) (Z : List Int) (most lo hi : Int) (w : World) (hf : Full w g B A cap Z) (hlen : Z.length ≤ 100000) (hm : most ≤ 9223372036854775807) :
    Calls Try.prog 29 #[.pointer (some ⟨g, 0, none⟩), .int .i64 most, .int .i64 lo, .int .i64 hi] w fun r w' => ∃ v, r = .returned v ∧ Only g w w' ∧ Ends (rdL (rdI lo hi 2) most Z) (fun e => v = .slice none 0 0 ∧ Src w' g (.slice A Z.length cap) e) (fun xs Y => (∃ base, w.heap.size ≤ base ∧ OwnV w' base 3 v (xs.map (Value.int .i64))) ∧ Here w' g B Y) := by
  have b2 : Below w.heap.size w ((w.alloc (.cells #[.int .i64 lo] 3)).alloc (.cells #[.int .i64 hi] 3)) := bt (alloc_below w _) (alloc_below _ _)
  have f2 := hf.later b2
  have k1 : ((w.alloc (.cells #[.int .i64 lo] 3)).alloc (.cells #[.int .i64 hi] 3)).cell? ⟨w.heap.size, 0, none⟩ = some (.int .i64 lo) := by go_cell
  have k2 : ((w.alloc (.cells #[.int .i64 lo] 3)).alloc (.cells #[.int .i64 hi] 3)).cell? ⟨w.heap.size + 1, 0, none⟩ = some (.int .i64 hi) := by go_cell
  have z2 : ((w.alloc (.cells #[.int .i64 lo] 3)).alloc (.cells #[.int .i64 hi] 3)).heap.size = w.heap.size + 2 := by simp
  have HR := Lib.hid (readList_int g B w.heap.size (w.heap.size + 1) cap A Z most lo hi _ f2 hlen hm ⟨by omega, k1⟩ ⟨by omega, k2⟩)
  have HB := Lib.hid b2
  have HZ := Lib.hid z2
  clear hf b2 f2 k1 k2 z2
  go_enter Try.func29, Try.ntmps29
  go_wp2_with (fail)
  refine HR.out.mono ?_
  rintro r w1 ⟨v, rfl, ho, hend⟩
  have HO := Lib.hid ((Only.of_below HB.out).trans ho)
  have HE := Lib.hid hend
  clear ho hend
  go_wp2
  go_ret
  exact ⟨_, rfl, HO.out, ends_imp HE.out (fun e h => h) fun x Y h => ⟨by obtain ⟨⟨base, h1, h2⟩, _⟩ := h; exact ⟨base, by have := HZ.out; omega, h2⟩, h.2⟩⟩

set_option maxHeartbeats 1000000 in
theorem texts_m (g B cap : Nat) (A : Option Addr) (Z : List Int) (most long : Int) (w : World) (hf : Full w g B A cap Z) (hlen : Z.length ≤ 100000) (hm : most ≤ 9223372036854775807) :
    Calls Try.prog 31 #[.pointer (some ⟨g, 0, none⟩), .int .i64 most, .int .i64 long] w fun r w' => ∃ v, r = .returned v ∧ Only g w w' ∧ Ends (rdL (rdT long) most Z) (fun e => v = .slice none 0 0 ∧ Src w' g (.slice A Z.length cap) e) (fun xs Y => (∃ base, w.heap.size ≤ base ∧ OwnV w' base 9 v (xs.map (Value.string))) ∧ Here w' g B Y) := by
  have b2 := alloc_below w (.cells #[.int .i64 long] 3)
  have f2 := hf.later b2
  have HR := Lib.hid (readList_string g B w.heap.size cap A Z most long _ f2 hlen hm ⟨by simp, cell_new w _ _⟩)
  have HB := Lib.hid b2
  clear hf b2 f2
  go_enter Try.func31, Try.ntmps31
  go_wp2_with (fail)
  refine HR.out.mono ?_
  rintro r w1 ⟨v, rfl, ho, hend⟩
  have HO := Lib.hid ((Only.of_below HB.out).trans ho)
  have HE := Lib.hid hend
  clear ho hend
  go_wp2
  go_ret
  exact ⟨_, rfl, HO.out, ends_imp HE.out (fun e h => h) fun x Y h => ⟨by obtain ⟨⟨base, h1, h2⟩, _⟩ := h; exact ⟨base, by simp at h1; omega, h2⟩, h.2⟩⟩

end Go.Proofs.Ytcibkgmochikmaa.WireMeth
