/- Bytes written behind each other: rows of the call's own, 'slices.Clone', 'Same'. -/
import Derived.Test.YtcibkgmochikmaaRow
import Derived.Test.YtcibkgmochikmaaStop
import Derived.Laws.EntriesVeiled
import Derived.Laws.BytesArg
import Derived.Laws.CopyOwn
import Derived.Deep.QuietTactic
import Derived.BigQuiet
import Derived.Outline
import Derived.PlainAid
import Derived.Shelf.Bytes.SlEqualAll
namespace Go.Proofs.Ytcibkgmochikmaa.WireBase
set_option linter.unusedVariables false
open Go.RowKit

def Bytes (zs : List Int) : Prop := ∀ n ∈ zs, 0 ≤ n ∧ n ≤ 255

theorem byte_info : (Try.prog.info? 5).map (fun i => (i.zero, i.size, i.bytes)) = some (some (.int .u8 0), 1, 1) := by kernel_rfl

/-- A row of bytes of the call's own. -/
def Own (w : World) (base : Nat) (v : Value) (zs : List Int) : Prop := w.ownsRow base 5 1 v zs.length (zs.map (Value.int .u8))

set_option maxHeartbeats 1000000 in
theorem clone_any (A : Option Addr) (cap : Nat) (zs : List Int) (w : World) (hl : Lies w .u8 w.heap.size A zs) (hlen : zs.length ≤ 70368744177664) (hn : A = none → cap = 0) :
    Calls Try.prog 36 #[.slice A zs.length cap] w fun e w' => ∃ v, e = .returned v ∧ Own w' w.heap.size v zs ∧ Below w.heap.size w w' := by
  obtain ⟨i0, hi, hz0, hz1, hz2⟩ := info_parts byte_info
  cases A with
  | none =>
    have h0 : zs = [] := by
      cases zs with
      | nil => rfl
      | cons a l =>
        obtain ⟨ad, h, _⟩ := hl (by simp)
        cases h
    subst h0
    obtain rfl := hn rfl
    have hq := fun (w : World) => Lib.run_eql_slice_nil (P := Try.prog) w 22 5 none 0 0 0 0 Try.underlying22
    go_enter Try.func36, Try.ntmps36
    go_wp2
    go_ret
    exact ⟨_, rfl, World.ownsRow_nil _ _ _ _, Below.refl _ _⟩
  | some ad =>
    have hq := fun (w : World) (n c : Nat) => Lib.run_eql_slice_nil (P := Try.prog) w 22 5 (some ad) n c 0 0 Try.underlying22
    have HL := Lib.hid hl
    clear hl
    go_enter Try.func36, Try.ntmps36
    go_wp2_with (at_builtin; refine wp_app_ints _ rfl (.tmp 5) (.tmp 6) 22 rfl w.heap.size 5 i0 (.int .u8 0) 1 Try.underlying22 hi hz0 hz1 hz2 rfl (.slice (some ⟨w.heap.size, 0, none⟩) 0 0) 0 [] rfl (World.ownsRow_made w #[] 0 (Nat.le_refl _) (by decide) rfl) .u8 w.heap.size (some ad) cap zs rfl (HL.out.below ((Below.refl _ _).alloc (Nat.le_refl _) _)) (by unfold maxLen; omega) (by omega) (by simp) ?_; intro v w1 hown hg _)
    go_ret
    have hb : Below w.heap.size w w1 := ((Below.refl _ _).alloc (Nat.le_refl _) _).grown hg (by simp) (by intro k hk; simp [Value.ownBlock] at hk; omega)
    refine ⟨v, rfl, ?_, hb⟩
    unfold Own
    simpa using hown

theorem own_below {w w' : World} {base : Nat} {v : Value} {zs : List Int} (h : Own w base v zs) (hb : Below w.heap.size w w') : Own w' base v zs := by
  refine ⟨h.1, ?_⟩
  rcases h.2 with h0 | ⟨g, cap, cur, hv, hbg, hg, rest⟩
  · exact Or.inl h0
  · exact Or.inr ⟨g, cap, cur, hv, hbg, (hb.block g (Array.getElem?_eq_some_iff.1 hg).1).trans hg, rest⟩

theorem add_plain (b o i : Nat) : (⟨b, o, none⟩ : Addr).add i = ⟨b, o + i, none⟩ := by unfold Addr.add; split <;> simp_all

/-- Bytes as the library counts them. -/
theorem bytes_eq {xs ys : List Int} (hx : Bytes xs) (hy : Bytes ys) : (Lib.bytesOf xs == Lib.bytesOf ys) = decide (xs = ys) := by
  by_cases h : xs = ys
  · subst h; simp
  · rw [decide_eq_false h]
    refine beq_eq_false_iff_ne.2 fun e => h ?_
    clear h
    unfold Lib.bytesOf at e
    induction xs generalizing ys with
    | nil => cases ys with
      | nil => rfl
      | cons _ _ => cases e
    | cons a l ih => cases ys with
      | nil => cases e
      | cons b k =>
        simp only [List.map_cons, List.cons.injEq] at e
        have ha := hx a (by simp)
        have hb := hy b (by simp)
        have e1 := congrArg UInt8.toNat e.1
        simp at e1
        rw [ih (fun n hn => hx n (by simp [hn])) (fun n hn => hy n (by simp [hn])) e.2]
        rw [show a = b by omega]

theorem own_down {w : World} {b b' : Nat} {e : TypeId} {c : Nat} {v : Value} {n : Nat} {xs : List Value} (h : w.ownsRow b e c v n xs) (hb : b' ≤ b) : w.ownsRow b' e c v n xs := by
  refine ⟨h.1, ?_⟩
  rcases h.2 with h0 | ⟨g, cap, cur, hv, hbg, hg, rest⟩
  · exact Or.inl h0
  · exact Or.inr ⟨g, cap, cur, hv, Nat.le_trans hb hbg, hg, rest⟩

theorem convert_lies {w : World} {A : Option Addr} {B n cap : Nat} {xs : List Int} (h : Lies w .u8 B A xs) (hn : xs.length = n) :
    (convert 22 9 (.slice A n cap)).run Try.prog w = .ok (.string (strOfNums xs)) w := by
  by_cases h0 : 0 < xs.length
  · obtain ⟨ad, rfl, hlt, hc⟩ := h h0
    obtain ⟨b, o, spot⟩ := ad
    have hs : spot = none := by
      have := World.cell?_spot (hc 0 h0)
      simpa [Addr.add] using this
    subst hs
    refine run_convert_bytes_arg w 22 5 Try.underlying22 Try.underlying5 b o n cap xs hn (fun i hi => ?_) 9 Try.underlying9
    have := hc i (by omega)
    rwa [add_plain] at this
  · have hx : xs = [] := List.eq_nil_of_length_eq_zero (by omega)
    subst hx
    subst hn
    exact Go.Proofs.run_convert_bytes_zero w 22 5 Try.underlying22 Try.underlying5 A cap 9 Try.underlying9

set_option maxHeartbeats 1000000 in
theorem same_raw (A1 A2 : Option Addr) (B1 B2 n c m d : Nat) (xs ys : List Int) (w : World) (h1 : Lies w .u8 B1 A1 xs) (h2 : Lies w .u8 B2 A2 ys) (hx : xs.length = n) (hy : ys.length = m) :
    Calls Try.prog 13 #[.slice A1 n c, .slice A2 m d] w fun e w' => e = .returned (.bool ((strOfNums xs).toList == (strOfNums ys).toList)) ∧ Below w.heap.size w w' := by
  have c1 := convert_lies (cap := c) h1 hx
  have c2 := convert_lies (cap := d) h2 hy
  clear h1 h2 hx hy
  go_enter Try.func13, Try.ntmps13
  go_wp2
  go_ret
  exact ⟨rfl, Below.refl _ _⟩

theorem same_any (A1 A2 : Option Addr) (B1 B2 n c m d : Nat) (xs ys : List Int) (w : World) (h1 : Lies w .u8 B1 A1 xs) (h2 : Lies w .u8 B2 A2 ys) (bx : Bytes xs) (by' : Bytes ys) (hx : xs.length = n) (hy : ys.length = m) :
    Calls Try.prog 13 #[.slice A1 n c, .slice A2 m d] w fun e w' => e = .returned (.bool (decide (xs = ys))) ∧ Below w.heap.size w w' := by
  refine (same_raw A1 A2 B1 B2 n c m d xs ys w h1 h2 hx hy).mono ?_
  rintro e w' ⟨rfl, b⟩
  refine ⟨?_, b⟩
  rw [Lib.strOfNums_toList, Lib.strOfNums_toList, bytes_eq bx by']

theorem own_at {w w' : World} {base : Nat} {v : Value} {zs : List Int} (h : Own w base v zs) (hb : Below w.heap.size w w') : Own w' base v zs := own_below h hb

theorem new_one (wk : World) (x : Int) (T : TypeId) : Lies (wk.alloc (.cells #[.int .u8 x] T)) .u8 (wk.heap.size + 1) (some ⟨wk.heap.size, 0, none⟩) [x] := fun _ => ⟨_, rfl, by simp, fun i hi => by
  have : i = 0 := by simpa using hi
  subst this
  simp [Addr.add, go_sem]⟩

/-- Appending one byte, in a block of its own, onto a row of the call's own. -/
theorem app_one {ops : Array Oper} {rest : List Oper} {o : Oper} {a : Act} {Q : Exit → Act → World → Prop} (hgd : o.guard = none) (s x : Operand) (ho : o.op = .call { callee := .builtin .append, args := #[s, x], argTypes := #[22, 22] })
    (base : Nat) (w0 wk : World) (T : TypeId) (v : Value) (zs : List Int) (n : Int) (hs : a.eval s = v) (hx : a.eval x = .slice (some ⟨wk.heap.size, 0, none⟩) 1 1) (hown : Hid (Own wk base v zs)) (hlen : ((zs.length : Nat) : Int) ≤ 200000) (hbase : base ≤ w0.heap.size) (hB : Hid (Below base w0 wk))
    (h : ∀ v' w', Hid (Own w' base v' (zs ++ [n])) → Hid (Below base w0 w') → wpList Try.prog ops Q rest (a.put o.dst v') w') : wpList Try.prog ops Q (o :: rest) a (wk.alloc (.cells #[.int .u8 n] T)) := by
  obtain ⟨i0, hi, hz0, hz1, hz2⟩ := info_parts byte_info
  have hal : Below wk.heap.size wk (wk.alloc (.cells #[.int .u8 n] T)) := (Below.refl _ _).alloc (Nat.le_refl _) _
  have hbk : base ≤ wk.heap.size := Nat.le_trans hbase hB.out.size
  have hBk : Below base w0 (wk.alloc (.cells #[.int .u8 n] T)) := hB.out.trans (hal.mono hbk)
  have hown' := own_below hown.out hal
  unfold Own at hown'
  refine wp_app_ints _ hgd s x 22 ho base 5 i0 (.int .u8 0) 1 Try.underlying22 hi hz0 hz1 hz2 rfl v zs.length (zs.map (Value.int .u8)) hs hown' .u8 (wk.heap.size + 1) (some ⟨wk.heap.size, 0, none⟩) 1 [n] hx (new_one wk n T) (by unfold maxLen; simp; omega) (by simp; omega) (Nat.le_trans hbase hBk.size) ?_
  intro v' w' h1 h2 _
  refine h v' w' (Lib.hid ?_) (Lib.hid (hBk.grown h2 (Nat.le_trans hbase hBk.size) (fun k hk => (hown'.lt k hk).1)))
  unfold Own
  rw [List.length_append, List.map_append]
  exact h1

end Go.Proofs.Ytcibkgmochikmaa.WireBase
