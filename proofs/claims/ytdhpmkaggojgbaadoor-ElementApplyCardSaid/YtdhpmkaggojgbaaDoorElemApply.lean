/- Applying a primitive: the walks of 'count', 'Valid', 'Wrap' and 'Apply'. -/
import Derived.Test.YtdhpmkaggojgbaaDoorElemFind
import Derived.Laws.CopyOwn
namespace Go.Proofs.YtdhpmkaggojgbaaDoor.ElemApply
set_option linter.unusedVariables false
open Go.RowKit Go.Proofs.YtdhpmkaggojgbaaDoor.ElemTable Go.Proofs.YtdhpmkaggojgbaaDoor.ElemFind

def Stop (p : Prop) : Prop := p
theorem stop_at {P : Program} {w : World} {ops : Array Oper} {rest : List Oper} {o : Oper} {a : Act} {Q : Exit → Act → World → Prop} (h : Stop (wpList P ops Q (o :: rest) a w)) : wpList P ops Q (o :: rest) a w := h

theorem heap_new (w : World) (o : Obj) : (w.alloc o).heap[w.heap.size]? = some o := by
  show (w.heap.push o)[w.heap.size]? = some o
  simp
theorem at_row (w : World) (g j : Nat) (cs : Array Value) (t : TypeId) (fr : Nat × Nat) (hg : w.heap[g]? = some (.cells cs t fr)) : w.cell? ⟨g, j, none⟩ = cs[j]? := by
  simp [World.cell?, hg]

/-- The names of the types. -/
def INT : ByteArray := ⟨#[105, 110, 116]⟩
def BOOL : ByteArray := ⟨#[98, 111, 111, 108]⟩
def ANY : ByteArray := ⟨#[65]⟩
def NONE : ByteArray := ⟨#[]⟩

def isI (n : Int) : Prop := -2147483648 ≤ n ∧ n ≤ 2147483647
def isB (n : Int) : Prop := n = 0 ∨ n = 1

theorem valid_int (n : Int) (w : World) (h : isI n) : Calls Tryd.prog 14 #[.string ⟨#[105, 110, 116]⟩, .int .i64 n] w fun e w' => e = .returned (.bool true) ∧ w = w' := by
  obtain ⟨h1, h2⟩ := h
  go_enter Tryd.func14, Tryd.ntmps14
  go_wp2
  go_ret
  exact ⟨by simp, rfl⟩

theorem valid_bool (n : Int) (w : World) (h : isB n) : Calls Tryd.prog 14 #[.string ⟨#[98, 111, 111, 108]⟩, .int .i64 n] w fun e w' => e = .returned (.bool true) ∧ w = w' := by
  rcases h with rfl | rfl
  all_goals
    go_enter Tryd.func14, Tryd.ntmps14
    go_wp2
    go_ret
    exact ⟨rfl, rfl⟩

theorem wrap_any (n : Int) (w : World) : Calls Tryd.prog 23 #[.int .i64 n] w fun e w' => e = .returned (.int .i64 (wrap32 n)) ∧ w = w' := by
  have hw : wrap64 (wrap32 n) = wrap32 n := by unfold wrap64 wrap32; omega
  go_enter Tryd.func23, Tryd.ntmps23
  go_wp2
  go_ret
  refine ⟨?_, rfl⟩
  show Ending.returned (.int .i64 (wrap64 (wrap32 n))) = _
  rw [hw]

set_option maxHeartbeats 1000000 in
theorem count_one (n a b c r : ByteArray) (w : World) (ha : a.toList.isEmpty = false) :
    Calls Tryd.prog 27 #[.agg #[.string n, .string a, .string ⟨#[]⟩, .string ⟨#[]⟩, .string r]] w fun e w' => e = .returned (.int .i64 1) ∧ Below w.heap.size w w' := by
  go_enter Tryd.func27, Tryd.ntmps27
  go_wp2
  refine wp_loop_rounds 2 ?_
  rw [rounds_succ]
  go_wp2
  rw [rounds_succ]
  go_wp2
  go_ret
  exact ⟨rfl, by go_grown⟩

set_option maxHeartbeats 1000000 in
theorem count_two (n a b c r : ByteArray) (w : World) (ha : a.toList.isEmpty = false) (hb : b.toList.isEmpty = false) :
    Calls Tryd.prog 27 #[.agg #[.string n, .string a, .string b, .string ⟨#[]⟩, .string r]] w fun e w' => e = .returned (.int .i64 2) ∧ Below w.heap.size w w' := by
  go_enter Tryd.func27, Tryd.ntmps27
  go_wp2
  refine wp_loop_rounds 3 ?_
  rw [rounds_succ]
  go_wp2
  rw [rounds_succ]
  go_wp2
  rw [rounds_succ]
  go_wp2
  go_ret
  exact ⟨rfl, by go_grown⟩

set_option maxHeartbeats 1000000 in
theorem count_three (n a b c r : ByteArray) (w : World) (ha : a.toList.isEmpty = false) (hb : b.toList.isEmpty = false) (hc : c.toList.isEmpty = false) :
    Calls Tryd.prog 27 #[.agg #[.string n, .string a, .string b, .string c, .string r]] w fun e w' => e = .returned (.int .i64 3) ∧ Below w.heap.size w w' := by
  go_enter Tryd.func27, Tryd.ntmps27
  go_wp2
  refine wp_loop_rounds 4 ?_
  rw [rounds_succ]
  go_wp2
  rw [rounds_succ]
  go_wp2
  rw [rounds_succ]
  go_wp2
  rw [rounds_succ]
  go_wp2
  go_ret
  exact ⟨rfl, by go_grown⟩

/-- What 'find' gives for a name. -/
def Finds (s : ByteArray) (row : Array Value) : Prop := ∀ w, Tab w → Calls Tryd.prog 26 #[.string s] w fun e w' => e = .returned (.tuple #[.agg row, .bool true]) ∧ Below w.heap.size w w'
def Gives (s : ByteArray) (x y z v : Int) : Prop := ∀ w, Calls Tryd.prog 28 #[.string s, .int .i64 x, .int .i64 y, .int .i64 z] w fun e w' => e = .returned (.int .i64 v) ∧ w = w'

set_option maxRecDepth 100000 in
set_option maxHeartbeats 2000000 in
theorem apply_ii (s r : ByteArray) (x y v : Int) (b : Nat) (w : World) (ht : Tab w) (hF : Hid (Finds s #[.string s, .string ⟨#[105, 110, 116]⟩, .string ⟨#[105, 110, 116]⟩, .string ⟨#[]⟩, .string r])) (hG : Hid (Gives s x y 0 v)) (hx : isI x) (hy : isI y) (hb : b < w.heap.size) (h0 : w.cell? ⟨b, 0, none⟩ = some (.int .i64 x)) (h1 : w.cell? ⟨b, 1, none⟩ = some (.int .i64 y)) :
    Calls Tryd.prog 11 #[.string s, .slice (some ⟨b, 0, none⟩) 2 2] w fun e w' => e = .returned (.tuple #[.int .i64 v, .bool true]) ∧ Below w.heap.size w w' := by
  have HT := Lib.hid ht
  have Hx := Lib.hid hx
  have Hy := Lib.hid hy
  clear ht hx hy
  go_enter Tryd.func11, Tryd.ntmps11
  go_wp2_with (fail)
  refine (hF.out _ HT.out).mono ?_
  rintro e w1 ⟨rfl, b1⟩
  have B1 := Lib.hid b1
  have g0 : w1.cell? ⟨b, 0, none⟩ = some (.int .i64 x) := (b1.cell (p := ⟨b, 0, none⟩) hb).trans h0
  have g1 : w1.cell? ⟨b, 1, none⟩ = some (.int .i64 y) := (b1.cell (p := ⟨b, 1, none⟩) hb).trans h1
  have hz := b1.size
  clear b1 h0 h1
  go_wp2_with (fail)
  refine (count_two _ _ _ s _ _ (by kernel_rfl) (by kernel_rfl)).mono ?_
  rintro e w2 ⟨rfl, b2⟩
  have hz1 : b < w1.heap.size := by omega
  have k0 : w2.cell? ⟨b, 0, none⟩ = some (.int .i64 x) := by rw [b2.cell (p := ⟨b, 0, none⟩) (by go_size)]; go_cell
  have k1 : w2.cell? ⟨b, 1, none⟩ = some (.int .i64 y) := by rw [b2.cell (p := ⟨b, 1, none⟩) (by go_size)]; go_cell
  have p1 : w2.cell? ⟨w1.heap.size, 1, none⟩ = some (.string ⟨#[105, 110, 116]⟩) := by rw [b2.cell (p := ⟨w1.heap.size, 1, none⟩) (by go_size)]; go_cell
  have p2 : w2.cell? ⟨w1.heap.size, 2, none⟩ = some (.string ⟨#[105, 110, 116]⟩) := by rw [b2.cell (p := ⟨w1.heap.size, 2, none⟩) (by go_size)]; go_cell
  have hz2 := b2.size
  have B2 := Lib.hid (bt B1.out (bt (by go_grown) b2))
  have hz3 : b < w2.heap.size := by simp at hz2; omega
  clear b2 hz2 g0 g1
  go_wp2_with (fail)
  refine wp_loop_rounds 3 ?_
  rw [rounds_succ]
  go_wp2_with (fail)
  refine (valid_int x _ Hx.out).mono ?_
  rintro e w' ⟨rfl, rfl⟩
  go_wp2_with (fail)
  rw [rounds_succ]
  go_wp2_with (fail)
  refine (valid_int y _ Hy.out).mono ?_
  rintro e w' ⟨rfl, rfl⟩
  go_wp2_with (fail)
  rw [rounds_succ]
  have hsz : (Tryd.prog.info? 3).map (·.size) = some 1 := by kernel_rfl
  have B2b := Lib.hid (Below.refl w2.heap.size w2)
  have hsrc : ∀ (j : Nat) (v : Value), [Value.int .i64 x, Value.int .i64 y][j]? = some v → (w2.alloc (.cells #[.int .i64 0, .int .i64 0, .int .i64 0] 53)).cell? ((⟨b, 0, none⟩ : Addr).add j) = some v := by
    intro j v hj
    match j, hj with
    | 0, hj => obtain rfl := Option.some.inj hj; exact (by go_cell)
    | 1, hj => obtain rfl := Option.some.inj hj; exact (by go_cell)
    | n + 2, hj => simp at hj
  have HSRC := Lib.hid hsrc
  clear hsrc
  go_wp2_with (with_reducible refine stop_at (o := ⟨some 46, _, _, _, _, _⟩) ?_)
  unfold Stop
  refine wpList_copy_splice rfl (.tmp 44) (.tmp 45) 22 22 rfl 3 Tryd.underlying22 hsz (some ⟨w2.heap.size, 0, none⟩) (some ⟨b, 0, none⟩) 3 3 2 2 rfl rfl w2.heap.size 0 [.int .i64 0, .int .i64 0, .int .i64 0] _ (heap_new w2 _) [Value.int .i64 x, Value.int .i64 y] rfl (fun _ => ⟨rfl, ⟨b, 0, none⟩, rfl, HSRC.out⟩) (by simp) (by simp [Value.oneCell']) w2.heap.size w2 (B2b.out.alloc (Nat.le_refl _) _) (Nat.le_refl _) ?_
  intro w3 hh3 hb3
  have d0 : w3.cell? ⟨w2.heap.size, 0, none⟩ = some (.int .i64 x) := at_row w3 _ 0 _ _ _ hh3.out
  have d1 : w3.cell? ⟨w2.heap.size, 1, none⟩ = some (.int .i64 y) := at_row w3 _ 1 _ _ _ hh3.out
  have d2 : w3.cell? ⟨w2.heap.size, 2, none⟩ = some (.int .i64 0) := at_row w3 _ 2 _ _ _ hh3.out
  go_wp2_with (fail)
  refine (hG.out _).mono ?_
  rintro e w4 ⟨rfl, rfl⟩
  go_wp2
  exact bodyPost_ret (v := .tuple #[.int .i64 v, .bool true]) (by simp [results, Tryd.results11, go_sem]) rfl ⟨rfl, bt B2.out hb3⟩

set_option maxRecDepth 100000 in
set_option maxHeartbeats 2000000 in
theorem apply_i (s r : ByteArray) (x v : Int) (b : Nat) (w : World) (ht : Tab w) (hF : Hid (Finds s #[.string s, .string ⟨#[105, 110, 116]⟩, .string ⟨#[]⟩, .string ⟨#[]⟩, .string r])) (hG : Hid (Gives s x 0 0 v)) (hx : isI x) (hb : b < w.heap.size) (h0 : w.cell? ⟨b, 0, none⟩ = some (.int .i64 x)) :
    Calls Tryd.prog 11 #[.string s, .slice (some ⟨b, 0, none⟩) 1 1] w fun e w' => e = .returned (.tuple #[.int .i64 v, .bool true]) ∧ Below w.heap.size w w' := by
  have HT := Lib.hid ht
  have Hx := Lib.hid hx
  clear ht hx
  go_enter Tryd.func11, Tryd.ntmps11
  go_wp2_with (fail)
  refine (hF.out _ HT.out).mono ?_
  rintro e w1 ⟨rfl, b1⟩
  have B1 := Lib.hid b1
  have g0 : w1.cell? ⟨b, 0, none⟩ = some (.int .i64 x) := (b1.cell (p := ⟨b, 0, none⟩) hb).trans h0
  have hz := b1.size
  clear b1 h0
  go_wp2_with (fail)
  refine (count_one _ _ s s _ _ (by kernel_rfl)).mono ?_
  rintro e w2 ⟨rfl, b2⟩
  have hz1 : b < w1.heap.size := by omega
  have k0 : w2.cell? ⟨b, 0, none⟩ = some (.int .i64 x) := by rw [b2.cell (p := ⟨b, 0, none⟩) (by go_size)]; go_cell
  have p1 : w2.cell? ⟨w1.heap.size, 1, none⟩ = some (.string ⟨#[105, 110, 116]⟩) := by rw [b2.cell (p := ⟨w1.heap.size, 1, none⟩) (by go_size)]; go_cell
  have hz2 := b2.size
  have B2 := Lib.hid (bt B1.out (bt (by go_grown) b2))
  have hz3 : b < w2.heap.size := by simp at hz2; omega
  clear b2 hz2 g0
  go_wp2_with (fail)
  refine wp_loop_rounds 2 ?_
  rw [rounds_succ]
  go_wp2_with (fail)
  refine (valid_int x _ Hx.out).mono ?_
  rintro e w' ⟨rfl, rfl⟩
  go_wp2_with (fail)
  rw [rounds_succ]
  have hsz : (Tryd.prog.info? 3).map (·.size) = some 1 := by kernel_rfl
  have B2b := Lib.hid (Below.refl w2.heap.size w2)
  have hsrc : ∀ (j : Nat) (v : Value), [Value.int .i64 x][j]? = some v → (w2.alloc (.cells #[.int .i64 0, .int .i64 0, .int .i64 0] 53)).cell? ((⟨b, 0, none⟩ : Addr).add j) = some v := by
    intro j v hj
    match j, hj with
    | 0, hj => obtain rfl := Option.some.inj hj; exact (by go_cell)
    | n + 1, hj => simp at hj
  have HSRC := Lib.hid hsrc
  clear hsrc
  go_wp2_with (with_reducible refine stop_at (o := ⟨some 46, _, _, _, _, _⟩) ?_)
  unfold Stop
  refine wpList_copy_splice rfl (.tmp 44) (.tmp 45) 22 22 rfl 3 Tryd.underlying22 hsz (some ⟨w2.heap.size, 0, none⟩) (some ⟨b, 0, none⟩) 3 3 1 1 rfl rfl w2.heap.size 0 [.int .i64 0, .int .i64 0, .int .i64 0] _ (heap_new w2 _) [Value.int .i64 x] rfl (fun _ => ⟨rfl, ⟨b, 0, none⟩, rfl, HSRC.out⟩) (by simp) (by simp [Value.oneCell']) w2.heap.size w2 (B2b.out.alloc (Nat.le_refl _) _) (Nat.le_refl _) ?_
  intro w3 hh3 hb3
  have d0 : w3.cell? ⟨w2.heap.size, 0, none⟩ = some (.int .i64 x) := at_row w3 _ 0 _ _ _ hh3.out
  have d1 : w3.cell? ⟨w2.heap.size, 1, none⟩ = some (.int .i64 0) := at_row w3 _ 1 _ _ _ hh3.out
  have d2 : w3.cell? ⟨w2.heap.size, 2, none⟩ = some (.int .i64 0) := at_row w3 _ 2 _ _ _ hh3.out
  go_wp2_with (fail)
  refine (hG.out _).mono ?_
  rintro e w4 ⟨rfl, rfl⟩
  go_wp2
  exact bodyPost_ret (v := .tuple #[.int .i64 v, .bool true]) (by simp [results, Tryd.results11, go_sem]) rfl ⟨rfl, bt B2.out hb3⟩

set_option maxRecDepth 100000 in
set_option maxHeartbeats 2000000 in
theorem apply_aa (s r : ByteArray) (x y v : Int) (b : Nat) (w : World) (ht : Tab w) (hF : Hid (Finds s #[.string s, .string ⟨#[65]⟩, .string ⟨#[65]⟩, .string ⟨#[]⟩, .string r])) (hG : Hid (Gives s x y 0 v)) (hx : isI x) (hy : isI y) (hb : b < w.heap.size) (h0 : w.cell? ⟨b, 0, none⟩ = some (.int .i64 x)) (h1 : w.cell? ⟨b, 1, none⟩ = some (.int .i64 y)) :
    Calls Tryd.prog 11 #[.string s, .slice (some ⟨b, 0, none⟩) 2 2] w fun e w' => e = .returned (.tuple #[.int .i64 v, .bool true]) ∧ Below w.heap.size w w' := by
  have HT := Lib.hid ht
  have Hx := Lib.hid hx
  have Hy := Lib.hid hy
  clear ht hx hy
  go_enter Tryd.func11, Tryd.ntmps11
  go_wp2_with (fail)
  refine (hF.out _ HT.out).mono ?_
  rintro e w1 ⟨rfl, b1⟩
  have B1 := Lib.hid b1
  have g0 : w1.cell? ⟨b, 0, none⟩ = some (.int .i64 x) := (b1.cell (p := ⟨b, 0, none⟩) hb).trans h0
  have g1 : w1.cell? ⟨b, 1, none⟩ = some (.int .i64 y) := (b1.cell (p := ⟨b, 1, none⟩) hb).trans h1
  have hz := b1.size
  clear b1 h0 h1
  go_wp2_with (fail)
  refine (count_two _ _ _ s _ _ (by kernel_rfl) (by kernel_rfl)).mono ?_
  rintro e w2 ⟨rfl, b2⟩
  have hz1 : b < w1.heap.size := by omega
  have k0 : w2.cell? ⟨b, 0, none⟩ = some (.int .i64 x) := by rw [b2.cell (p := ⟨b, 0, none⟩) (by go_size)]; go_cell
  have k1 : w2.cell? ⟨b, 1, none⟩ = some (.int .i64 y) := by rw [b2.cell (p := ⟨b, 1, none⟩) (by go_size)]; go_cell
  have p1 : w2.cell? ⟨w1.heap.size, 1, none⟩ = some (.string ⟨#[65]⟩) := by rw [b2.cell (p := ⟨w1.heap.size, 1, none⟩) (by go_size)]; go_cell
  have p2 : w2.cell? ⟨w1.heap.size, 2, none⟩ = some (.string ⟨#[65]⟩) := by rw [b2.cell (p := ⟨w1.heap.size, 2, none⟩) (by go_size)]; go_cell
  have hz2 := b2.size
  have B2 := Lib.hid (bt B1.out (bt (by go_grown) b2))
  have hz3 : b < w2.heap.size := by simp at hz2; omega
  clear b2 hz2 g0 g1
  go_wp2_with (fail)
  refine wp_loop_rounds 3 ?_
  rw [rounds_succ]
  go_wp2_with (fail)
  refine (valid_int x _ Hx.out).mono ?_
  rintro e w' ⟨rfl, rfl⟩
  go_wp2_with (fail)
  rw [rounds_succ]
  go_wp2_with (fail)
  refine (valid_int y _ Hy.out).mono ?_
  rintro e w' ⟨rfl, rfl⟩
  go_wp2_with (fail)
  rw [rounds_succ]
  have hsz : (Tryd.prog.info? 3).map (·.size) = some 1 := by kernel_rfl
  have B2b := Lib.hid (Below.refl w2.heap.size w2)
  have hsrc : ∀ (j : Nat) (v : Value), [Value.int .i64 x, Value.int .i64 y][j]? = some v → (w2.alloc (.cells #[.int .i64 0, .int .i64 0, .int .i64 0] 53)).cell? ((⟨b, 0, none⟩ : Addr).add j) = some v := by
    intro j v hj
    match j, hj with
    | 0, hj => obtain rfl := Option.some.inj hj; exact (by go_cell)
    | 1, hj => obtain rfl := Option.some.inj hj; exact (by go_cell)
    | n + 2, hj => simp at hj
  have HSRC := Lib.hid hsrc
  clear hsrc
  go_wp2_with (with_reducible refine stop_at (o := ⟨some 46, _, _, _, _, _⟩) ?_)
  unfold Stop
  refine wpList_copy_splice rfl (.tmp 44) (.tmp 45) 22 22 rfl 3 Tryd.underlying22 hsz (some ⟨w2.heap.size, 0, none⟩) (some ⟨b, 0, none⟩) 3 3 2 2 rfl rfl w2.heap.size 0 [.int .i64 0, .int .i64 0, .int .i64 0] _ (heap_new w2 _) [Value.int .i64 x, Value.int .i64 y] rfl (fun _ => ⟨rfl, ⟨b, 0, none⟩, rfl, HSRC.out⟩) (by simp) (by simp [Value.oneCell']) w2.heap.size w2 (B2b.out.alloc (Nat.le_refl _) _) (Nat.le_refl _) ?_
  intro w3 hh3 hb3
  have d0 : w3.cell? ⟨w2.heap.size, 0, none⟩ = some (.int .i64 x) := at_row w3 _ 0 _ _ _ hh3.out
  have d1 : w3.cell? ⟨w2.heap.size, 1, none⟩ = some (.int .i64 y) := at_row w3 _ 1 _ _ _ hh3.out
  have d2 : w3.cell? ⟨w2.heap.size, 2, none⟩ = some (.int .i64 0) := at_row w3 _ 2 _ _ _ hh3.out
  go_wp2_with (fail)
  refine (hG.out _).mono ?_
  rintro e w4 ⟨rfl, rfl⟩
  go_wp2
  exact bodyPost_ret (v := .tuple #[.int .i64 v, .bool true]) (by simp [results, Tryd.results11, go_sem]) rfl ⟨rfl, bt B2.out hb3⟩

set_option maxRecDepth 100000 in
set_option maxHeartbeats 2000000 in
theorem apply_bb (s r : ByteArray) (x y v : Int) (b : Nat) (w : World) (ht : Tab w) (hF : Hid (Finds s #[.string s, .string ⟨#[98, 111, 111, 108]⟩, .string ⟨#[98, 111, 111, 108]⟩, .string ⟨#[]⟩, .string r])) (hG : Hid (Gives s x y 0 v)) (hx : isB x) (hy : isB y) (hb : b < w.heap.size) (h0 : w.cell? ⟨b, 0, none⟩ = some (.int .i64 x)) (h1 : w.cell? ⟨b, 1, none⟩ = some (.int .i64 y)) :
    Calls Tryd.prog 11 #[.string s, .slice (some ⟨b, 0, none⟩) 2 2] w fun e w' => e = .returned (.tuple #[.int .i64 v, .bool true]) ∧ Below w.heap.size w w' := by
  have HT := Lib.hid ht
  have Hx := Lib.hid hx
  have Hy := Lib.hid hy
  clear ht hx hy
  go_enter Tryd.func11, Tryd.ntmps11
  go_wp2_with (fail)
  refine (hF.out _ HT.out).mono ?_
  rintro e w1 ⟨rfl, b1⟩
  have B1 := Lib.hid b1
  have g0 : w1.cell? ⟨b, 0, none⟩ = some (.int .i64 x) := (b1.cell (p := ⟨b, 0, none⟩) hb).trans h0
  have g1 : w1.cell? ⟨b, 1, none⟩ = some (.int .i64 y) := (b1.cell (p := ⟨b, 1, none⟩) hb).trans h1
  have hz := b1.size
  clear b1 h0 h1
  go_wp2_with (fail)
  refine (count_two _ _ _ s _ _ (by kernel_rfl) (by kernel_rfl)).mono ?_
  rintro e w2 ⟨rfl, b2⟩
  have hz1 : b < w1.heap.size := by omega
  have k0 : w2.cell? ⟨b, 0, none⟩ = some (.int .i64 x) := by rw [b2.cell (p := ⟨b, 0, none⟩) (by go_size)]; go_cell
  have k1 : w2.cell? ⟨b, 1, none⟩ = some (.int .i64 y) := by rw [b2.cell (p := ⟨b, 1, none⟩) (by go_size)]; go_cell
  have p1 : w2.cell? ⟨w1.heap.size, 1, none⟩ = some (.string ⟨#[98, 111, 111, 108]⟩) := by rw [b2.cell (p := ⟨w1.heap.size, 1, none⟩) (by go_size)]; go_cell
  have p2 : w2.cell? ⟨w1.heap.size, 2, none⟩ = some (.string ⟨#[98, 111, 111, 108]⟩) := by rw [b2.cell (p := ⟨w1.heap.size, 2, none⟩) (by go_size)]; go_cell
  have hz2 := b2.size
  have B2 := Lib.hid (bt B1.out (bt (by go_grown) b2))
  have hz3 : b < w2.heap.size := by simp at hz2; omega
  clear b2 hz2 g0 g1
  go_wp2_with (fail)
  refine wp_loop_rounds 3 ?_
  rw [rounds_succ]
  go_wp2_with (fail)
  refine (valid_bool x _ Hx.out).mono ?_
  rintro e w' ⟨rfl, rfl⟩
  go_wp2_with (fail)
  rw [rounds_succ]
  go_wp2_with (fail)
  refine (valid_bool y _ Hy.out).mono ?_
  rintro e w' ⟨rfl, rfl⟩
  go_wp2_with (fail)
  rw [rounds_succ]
  have hsz : (Tryd.prog.info? 3).map (·.size) = some 1 := by kernel_rfl
  have B2b := Lib.hid (Below.refl w2.heap.size w2)
  have hsrc : ∀ (j : Nat) (v : Value), [Value.int .i64 x, Value.int .i64 y][j]? = some v → (w2.alloc (.cells #[.int .i64 0, .int .i64 0, .int .i64 0] 53)).cell? ((⟨b, 0, none⟩ : Addr).add j) = some v := by
    intro j v hj
    match j, hj with
    | 0, hj => obtain rfl := Option.some.inj hj; exact (by go_cell)
    | 1, hj => obtain rfl := Option.some.inj hj; exact (by go_cell)
    | n + 2, hj => simp at hj
  have HSRC := Lib.hid hsrc
  clear hsrc
  go_wp2_with (with_reducible refine stop_at (o := ⟨some 46, _, _, _, _, _⟩) ?_)
  unfold Stop
  refine wpList_copy_splice rfl (.tmp 44) (.tmp 45) 22 22 rfl 3 Tryd.underlying22 hsz (some ⟨w2.heap.size, 0, none⟩) (some ⟨b, 0, none⟩) 3 3 2 2 rfl rfl w2.heap.size 0 [.int .i64 0, .int .i64 0, .int .i64 0] _ (heap_new w2 _) [Value.int .i64 x, Value.int .i64 y] rfl (fun _ => ⟨rfl, ⟨b, 0, none⟩, rfl, HSRC.out⟩) (by simp) (by simp [Value.oneCell']) w2.heap.size w2 (B2b.out.alloc (Nat.le_refl _) _) (Nat.le_refl _) ?_
  intro w3 hh3 hb3
  have d0 : w3.cell? ⟨w2.heap.size, 0, none⟩ = some (.int .i64 x) := at_row w3 _ 0 _ _ _ hh3.out
  have d1 : w3.cell? ⟨w2.heap.size, 1, none⟩ = some (.int .i64 y) := at_row w3 _ 1 _ _ _ hh3.out
  have d2 : w3.cell? ⟨w2.heap.size, 2, none⟩ = some (.int .i64 0) := at_row w3 _ 2 _ _ _ hh3.out
  go_wp2_with (fail)
  refine (hG.out _).mono ?_
  rintro e w4 ⟨rfl, rfl⟩
  go_wp2
  exact bodyPost_ret (v := .tuple #[.int .i64 v, .bool true]) (by simp [results, Tryd.results11, go_sem]) rfl ⟨rfl, bt B2.out hb3⟩

set_option maxRecDepth 100000 in
set_option maxHeartbeats 2000000 in
theorem apply_b (s r : ByteArray) (x v : Int) (b : Nat) (w : World) (ht : Tab w) (hF : Hid (Finds s #[.string s, .string ⟨#[98, 111, 111, 108]⟩, .string ⟨#[]⟩, .string ⟨#[]⟩, .string r])) (hG : Hid (Gives s x 0 0 v)) (hx : isB x) (hb : b < w.heap.size) (h0 : w.cell? ⟨b, 0, none⟩ = some (.int .i64 x)) :
    Calls Tryd.prog 11 #[.string s, .slice (some ⟨b, 0, none⟩) 1 1] w fun e w' => e = .returned (.tuple #[.int .i64 v, .bool true]) ∧ Below w.heap.size w w' := by
  have HT := Lib.hid ht
  have Hx := Lib.hid hx
  clear ht hx
  go_enter Tryd.func11, Tryd.ntmps11
  go_wp2_with (fail)
  refine (hF.out _ HT.out).mono ?_
  rintro e w1 ⟨rfl, b1⟩
  have B1 := Lib.hid b1
  have g0 : w1.cell? ⟨b, 0, none⟩ = some (.int .i64 x) := (b1.cell (p := ⟨b, 0, none⟩) hb).trans h0
  have hz := b1.size
  clear b1 h0
  go_wp2_with (fail)
  refine (count_one _ _ s s _ _ (by kernel_rfl)).mono ?_
  rintro e w2 ⟨rfl, b2⟩
  have hz1 : b < w1.heap.size := by omega
  have k0 : w2.cell? ⟨b, 0, none⟩ = some (.int .i64 x) := by rw [b2.cell (p := ⟨b, 0, none⟩) (by go_size)]; go_cell
  have p1 : w2.cell? ⟨w1.heap.size, 1, none⟩ = some (.string ⟨#[98, 111, 111, 108]⟩) := by rw [b2.cell (p := ⟨w1.heap.size, 1, none⟩) (by go_size)]; go_cell
  have hz2 := b2.size
  have B2 := Lib.hid (bt B1.out (bt (by go_grown) b2))
  have hz3 : b < w2.heap.size := by simp at hz2; omega
  clear b2 hz2 g0
  go_wp2_with (fail)
  refine wp_loop_rounds 2 ?_
  rw [rounds_succ]
  go_wp2_with (fail)
  refine (valid_bool x _ Hx.out).mono ?_
  rintro e w' ⟨rfl, rfl⟩
  go_wp2_with (fail)
  rw [rounds_succ]
  have hsz : (Tryd.prog.info? 3).map (·.size) = some 1 := by kernel_rfl
  have B2b := Lib.hid (Below.refl w2.heap.size w2)
  have hsrc : ∀ (j : Nat) (v : Value), [Value.int .i64 x][j]? = some v → (w2.alloc (.cells #[.int .i64 0, .int .i64 0, .int .i64 0] 53)).cell? ((⟨b, 0, none⟩ : Addr).add j) = some v := by
    intro j v hj
    match j, hj with
    | 0, hj => obtain rfl := Option.some.inj hj; exact (by go_cell)
    | n + 1, hj => simp at hj
  have HSRC := Lib.hid hsrc
  clear hsrc
  go_wp2_with (with_reducible refine stop_at (o := ⟨some 46, _, _, _, _, _⟩) ?_)
  unfold Stop
  refine wpList_copy_splice rfl (.tmp 44) (.tmp 45) 22 22 rfl 3 Tryd.underlying22 hsz (some ⟨w2.heap.size, 0, none⟩) (some ⟨b, 0, none⟩) 3 3 1 1 rfl rfl w2.heap.size 0 [.int .i64 0, .int .i64 0, .int .i64 0] _ (heap_new w2 _) [Value.int .i64 x] rfl (fun _ => ⟨rfl, ⟨b, 0, none⟩, rfl, HSRC.out⟩) (by simp) (by simp [Value.oneCell']) w2.heap.size w2 (B2b.out.alloc (Nat.le_refl _) _) (Nat.le_refl _) ?_
  intro w3 hh3 hb3
  have d0 : w3.cell? ⟨w2.heap.size, 0, none⟩ = some (.int .i64 x) := at_row w3 _ 0 _ _ _ hh3.out
  have d1 : w3.cell? ⟨w2.heap.size, 1, none⟩ = some (.int .i64 0) := at_row w3 _ 1 _ _ _ hh3.out
  have d2 : w3.cell? ⟨w2.heap.size, 2, none⟩ = some (.int .i64 0) := at_row w3 _ 2 _ _ _ hh3.out
  go_wp2_with (fail)
  refine (hG.out _).mono ?_
  rintro e w4 ⟨rfl, rfl⟩
  go_wp2
  exact bodyPost_ret (v := .tuple #[.int .i64 v, .bool true]) (by simp [results, Tryd.results11, go_sem]) rfl ⟨rfl, bt B2.out hb3⟩

set_option maxRecDepth 100000 in
set_option maxHeartbeats 2000000 in
theorem apply_baa (s r : ByteArray) (x y z v : Int) (b : Nat) (w : World) (ht : Tab w) (hF : Hid (Finds s #[.string s, .string ⟨#[98, 111, 111, 108]⟩, .string ⟨#[65]⟩, .string ⟨#[65]⟩, .string r])) (hG : Hid (Gives s x y z v)) (hx : isB x) (hy : isI y) (hz : isI z) (hb : b < w.heap.size) (h0 : w.cell? ⟨b, 0, none⟩ = some (.int .i64 x)) (h1 : w.cell? ⟨b, 1, none⟩ = some (.int .i64 y)) (h2 : w.cell? ⟨b, 2, none⟩ = some (.int .i64 z)) :
    Calls Tryd.prog 11 #[.string s, .slice (some ⟨b, 0, none⟩) 3 3] w fun e w' => e = .returned (.tuple #[.int .i64 v, .bool true]) ∧ Below w.heap.size w w' := by
  have HT := Lib.hid ht
  have Hx := Lib.hid hx
  have Hy := Lib.hid hy
  have Hz := Lib.hid hz
  clear ht hx hy hz
  go_enter Tryd.func11, Tryd.ntmps11
  go_wp2_with (fail)
  refine (hF.out _ HT.out).mono ?_
  rintro e w1 ⟨rfl, b1⟩
  have B1 := Lib.hid b1
  have g0 : w1.cell? ⟨b, 0, none⟩ = some (.int .i64 x) := (b1.cell (p := ⟨b, 0, none⟩) hb).trans h0
  have g1 : w1.cell? ⟨b, 1, none⟩ = some (.int .i64 y) := (b1.cell (p := ⟨b, 1, none⟩) hb).trans h1
  have g2 : w1.cell? ⟨b, 2, none⟩ = some (.int .i64 z) := (b1.cell (p := ⟨b, 2, none⟩) hb).trans h2
  have hz := b1.size
  clear b1 h0 h1 h2
  go_wp2_with (fail)
  refine (count_three _ _ _ _ _ _ (by kernel_rfl) (by kernel_rfl) (by kernel_rfl)).mono ?_
  rintro e w2 ⟨rfl, b2⟩
  have hz1 : b < w1.heap.size := by omega
  have k0 : w2.cell? ⟨b, 0, none⟩ = some (.int .i64 x) := by rw [b2.cell (p := ⟨b, 0, none⟩) (by go_size)]; go_cell
  have k1 : w2.cell? ⟨b, 1, none⟩ = some (.int .i64 y) := by rw [b2.cell (p := ⟨b, 1, none⟩) (by go_size)]; go_cell
  have k2 : w2.cell? ⟨b, 2, none⟩ = some (.int .i64 z) := by rw [b2.cell (p := ⟨b, 2, none⟩) (by go_size)]; go_cell
  have p1 : w2.cell? ⟨w1.heap.size, 1, none⟩ = some (.string ⟨#[98, 111, 111, 108]⟩) := by rw [b2.cell (p := ⟨w1.heap.size, 1, none⟩) (by go_size)]; go_cell
  have p2 : w2.cell? ⟨w1.heap.size, 2, none⟩ = some (.string ⟨#[65]⟩) := by rw [b2.cell (p := ⟨w1.heap.size, 2, none⟩) (by go_size)]; go_cell
  have p3 : w2.cell? ⟨w1.heap.size, 3, none⟩ = some (.string ⟨#[65]⟩) := by rw [b2.cell (p := ⟨w1.heap.size, 3, none⟩) (by go_size)]; go_cell
  have hz2 := b2.size
  have B2 := Lib.hid (bt B1.out (bt (by go_grown) b2))
  have hz3 : b < w2.heap.size := by simp at hz2; omega
  clear b2 hz2 g0 g1 g2
  go_wp2_with (fail)
  refine wp_loop_rounds 4 ?_
  rw [rounds_succ]
  go_wp2_with (fail)
  refine (valid_bool x _ Hx.out).mono ?_
  rintro e w' ⟨rfl, rfl⟩
  go_wp2_with (fail)
  rw [rounds_succ]
  go_wp2_with (fail)
  refine (valid_int y _ Hy.out).mono ?_
  rintro e w' ⟨rfl, rfl⟩
  go_wp2_with (fail)
  rw [rounds_succ]
  go_wp2_with (fail)
  refine (valid_int z _ Hz.out).mono ?_
  rintro e w' ⟨rfl, rfl⟩
  go_wp2_with (fail)
  rw [rounds_succ]
  have hsz : (Tryd.prog.info? 3).map (·.size) = some 1 := by kernel_rfl
  have B2b := Lib.hid (Below.refl w2.heap.size w2)
  have hsrc : ∀ (j : Nat) (v : Value), [Value.int .i64 x, Value.int .i64 y, Value.int .i64 z][j]? = some v → (w2.alloc (.cells #[.int .i64 0, .int .i64 0, .int .i64 0] 53)).cell? ((⟨b, 0, none⟩ : Addr).add j) = some v := by
    intro j v hj
    match j, hj with
    | 0, hj => obtain rfl := Option.some.inj hj; exact (by go_cell)
    | 1, hj => obtain rfl := Option.some.inj hj; exact (by go_cell)
    | 2, hj => obtain rfl := Option.some.inj hj; exact (by go_cell)
    | n + 3, hj => simp at hj
  have HSRC := Lib.hid hsrc
  clear hsrc
  go_wp2_with (with_reducible refine stop_at (o := ⟨some 46, _, _, _, _, _⟩) ?_)
  unfold Stop
  refine wpList_copy_splice rfl (.tmp 44) (.tmp 45) 22 22 rfl 3 Tryd.underlying22 hsz (some ⟨w2.heap.size, 0, none⟩) (some ⟨b, 0, none⟩) 3 3 3 3 rfl rfl w2.heap.size 0 [.int .i64 0, .int .i64 0, .int .i64 0] _ (heap_new w2 _) [Value.int .i64 x, Value.int .i64 y, Value.int .i64 z] rfl (fun _ => ⟨rfl, ⟨b, 0, none⟩, rfl, HSRC.out⟩) (by simp) (by simp [Value.oneCell']) w2.heap.size w2 (B2b.out.alloc (Nat.le_refl _) _) (Nat.le_refl _) ?_
  intro w3 hh3 hb3
  have d0 : w3.cell? ⟨w2.heap.size, 0, none⟩ = some (.int .i64 x) := at_row w3 _ 0 _ _ _ hh3.out
  have d1 : w3.cell? ⟨w2.heap.size, 1, none⟩ = some (.int .i64 y) := at_row w3 _ 1 _ _ _ hh3.out
  have d2 : w3.cell? ⟨w2.heap.size, 2, none⟩ = some (.int .i64 z) := at_row w3 _ 2 _ _ _ hh3.out
  go_wp2_with (fail)
  refine (hG.out _).mono ?_
  rintro e w4 ⟨rfl, rfl⟩
  go_wp2
  exact bodyPost_ret (v := .tuple #[.int .i64 v, .bool true]) (by simp [results, Tryd.results11, go_sem]) rfl ⟨rfl, bt B2.out hb3⟩

end Go.Proofs.YtdhpmkaggojgbaaDoor.ElemApply
