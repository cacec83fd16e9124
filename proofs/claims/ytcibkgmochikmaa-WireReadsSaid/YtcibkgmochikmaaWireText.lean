/- Writing texts and lists: the program's walks. -/
import Derived.Test.YtcibkgmochikmaaWireCanon
import Derived.Lib.AppendStr
import Derived.Test.YtcibkgmochikmaaTexts
namespace Go.Proofs.Ytcibkgmochikmaa.WireText
set_option linter.unusedVariables false
open Go.RowKit Go.Proofs.Ytcibkgmochikmaa.WireBase Go.Proofs.Ytcibkgmochikmaa.WireInt Go.Proofs.Ytcibkgmochikmaa.WireAppend Go.Proofs.Ytcibkgmochikmaa.WireAwake Go.Proofs.Ytcibkgmochikmaa.WireCanon

/-- The bytes of a text. -/
def bytesL (s : ByteArray) : List Int := s.data.toList.map fun b => ((b.toNat : Nat) : Int)
theorem bytesL_length (s : ByteArray) : (bytesL s).length = s.size := by simp [bytesL]
theorem bytesL_bytes (s : ByteArray) : Bytes (bytesL s) := fun n h => by
  obtain ⟨b, _, rfl⟩ := List.mem_map.1 h
  have := UInt8.toNat_lt b
  omega
theorem bytesL_cells (s : ByteArray) : Lib.strCells s = (bytesL s).map (Value.int .u8) := by
  unfold Lib.strCells bytesL
  simp

def encT (s : ByteArray) : List Int := enc ((s.size : Nat) : Int) ++ bytesL s

/-- Appending a text's bytes onto a row of the call's own. -/
theorem app_text {ops : Array Oper} {rest : List Oper} {o : Oper} {a : Act} {Q : Exit → Act → World → Prop} (hgd : o.guard = none) (s x : Operand) (ho : o.op = .call { callee := .builtin .append, args := #[s, x], argTypes := #[22, 9] })
    (base : Nat) (w0 wk : World) (v : Value) (zs : List Int) (t : ByteArray) (hs : a.eval s = v) (hx : a.eval x = .string t) (hown : Hid (Own wk base v zs)) (hlen : ((zs.length : Nat) : Int) + t.size ≤ 200000) (hbase : base ≤ w0.heap.size) (hB : Hid (Below base w0 wk))
    (h : ∀ v' w', Hid (Own w' base v' (zs ++ bytesL t)) → Hid (Below base w0 w') → wpList Try.prog ops Q rest (a.put o.dst v') w') : wpList Try.prog ops Q (o :: rest) a wk := by
  obtain ⟨i0, hi, hz0, hz1, hz2⟩ := info_parts byte_info
  have hown' := hown.out
  unfold Own at hown'
  refine Lib.wpList_append_own_string wk hgd s x 22 9 ho base 5 i0 Try.underlying22 Try.underlying9 hi hz0 hz1 hz2 v zs.length (zs.map (Value.int .u8)) hs hown' t hx (by unfold maxLen; omega) (by omega) (Nat.le_trans hbase hB.out.size) ?_
  intro v' w' h1 h2 _
  refine h v' w' (Lib.hid ?_) (Lib.hid (hB.out.grown h2 (Nat.le_trans hbase hB.out.size) (fun k hk => (hown'.lt k hk).1)))
  unfold Own
  rw [List.length_append, List.map_append, bytesL_length, ← bytesL_cells]
  exact h1

set_option maxHeartbeats 1000000 in
theorem appendText_any (base : Nat) (v : Value) (Z : List Int) (s : ByteArray) (w : World) (hown : Own w base v Z) (hbase : base ≤ w.heap.size) (hlen : ((Z.length : Nat) : Int) + s.size ≤ 50000) :
    Calls Try.prog 40 #[v, .string s] w fun e w' => ∃ v', e = .returned v' ∧ Own w' base v' (Z ++ encT s) ∧ Below base w w' := by
  have hi : isI ((s.size : Nat) : Int) := ⟨by omega, by omega⟩
  have HA := Lib.hid (append_any base v Z ((s.size : Nat) : Int) w hown hbase (by omega) hi)
  have HE := Lib.hid (enc_length _ hi)
  have HT : Hid (∀ L, Z ++ enc ((s.size : Nat) : Int) ++ L = Z ++ (enc ((s.size : Nat) : Int) ++ L)) := Lib.hid fun L => List.append_assoc _ _ _
  unfold encT
  clear hown hi
  generalize enc ((s.size : Nat) : Int) = E at *
  go_enter Try.func40, Try.ntmps40
  go_wp2_with (fail)
  refine HA.out.mono ?_
  rintro e w1 ⟨v1, rfl, hown1, b1⟩
  have H1 := Lib.hid hown1
  have B1 := Lib.hid b1
  clear hown1 b1
  go_wp2_with (with_reducible refine stop_at (o := ⟨some 10, _, _, _, _, _⟩) ?_)
  unfold Stop
  refine app_text rfl (.tmp 8) (.tmp 9) rfl base w w1 v1 (Z ++ E) s rfl rfl H1 (by have := HE.out; rw [List.length_append]; omega) hbase B1 ?_
  intro v2 w2 H2 B2
  go_wp2
  go_ret
  refine ⟨v2, rfl, ?_, B2.out⟩
  rw [← HT.out]
  exact H2.out

set_option maxHeartbeats 1000000 in
theorem text_any (A : Option Addr) (cap : Nat) (Z : List Int) (s : ByteArray) (w : World) (hl : Lies w .u8 w.heap.size A Z) (hlen : ((Z.length : Nat) : Int) + s.size ≤ 50000) (hA : A = none → cap = 0) :
    Calls Try.prog 16 #[.slice A Z.length cap, .string s] w fun e w' => ∃ v, e = .returned v ∧ Own w' w.heap.size v (Z ++ encT s) ∧ Below w.heap.size w w' := by
  have HC := Lib.hid (clone_any A cap Z w hl (by omega) hA)
  have HAP := Lib.hid (fun (v : Value) (w1 : World) (h1 : Own w1 w.heap.size v Z) (h2 : w.heap.size ≤ w1.heap.size) => appendText_any w.heap.size v Z s w1 h1 h2 hlen)
  clear hl hlen hA
  generalize encT s = E at *
  go_enter Try.func16, Try.ntmps16
  go_wp2_with (fail)
  refine HC.out.mono ?_
  rintro e w1 ⟨v1, rfl, hown1, b1⟩
  go_wp2_with (fail)
  refine (HAP.out v1 w1 hown1 b1.size).mono ?_
  rintro e w2 ⟨v2, rfl, hown2, b2⟩
  go_wp2
  go_ret
  exact ⟨v2, rfl, hown2, b1.trans b2⟩

theorem bool_write (A : Option Addr) (cap : Nat) (Z : List Int) (t : Bool) (w : World) (hl : Lies w .u8 w.heap.size A Z) (hlen : ((Z.length : Nat) : Int) ≤ 50000) (hA : A = none → cap = 0) :
    Calls Try.prog 18 #[.slice A Z.length cap, .bool t] w fun e w' => ∃ v, e = .returned v ∧ Own w' w.heap.size v (Z ++ enc (if t then 1 else 0)) ∧ Below w.heap.size w w' := by
  have HI := Lib.hid (int_any A cap Z (if t then 1 else 0) w hl (by omega) hA (by cases t <;> exact ⟨by decide, by decide⟩))
  clear hl hlen hA
  cases t
  all_goals
    go_enter Try.func18, Try.ntmps18
    go_wp2_with (fail)
    refine HI.out.mono ?_
    rintro e w1 ⟨v1, rfl, hown1, b1⟩
    go_wp2
    go_ret
    exact ⟨v1, rfl, hown1, b1⟩

set_option maxHeartbeats 2000000 in
theorem appendInts_any (A : Option Addr) (cap : Nat) (Z : List Int) (B : Option Addr) (cb : Nat) (l : List Int) (w : World) (hl : Lies w .u8 w.heap.size A Z) (hm : Lies w .i64 w.heap.size B l) (hlen : (((Z ++ (enc ((l.length : Nat) : Int) ++ l.flatMap enc)).length : Nat) : Int) ≤ 40000) (hll : ((l.length : Nat) : Int) ≤ 40000) (hA : A = none → cap = 0) (hi : ∀ n ∈ l, isI n) :
    Calls Try.prog 41 #[.slice A Z.length cap, .slice B l.length cb, .func (.func 35) #[] #[]] w fun e w' => ∃ v, e = .returned v ∧ Own w' w.heap.size v (Z ++ (enc ((l.length : Nat) : Int) ++ l.flatMap enc)) ∧ Below w.heap.size w w' := by
  have hz : ((Z.length : Nat) : Int) ≤ 40000 := by rw [List.length_append] at hlen; omega
  have HC := Lib.hid (clone_any A cap Z w hl (by omega) hA)
  have HM := Lib.hid hm
  have hin : isI ((l.length : Nat) : Int) := ⟨by omega, by omega⟩
  have HAP := Lib.hid (fun (v : Value) (w1 : World) (h1 : Own w1 w.heap.size v Z) (h2 : w.heap.size ≤ w1.heap.size) => append_any w.heap.size v Z ((l.length : Nat) : Int) w1 h1 h2 (by omega) hin)
  obtain ⟨G, hG⟩ : ∃ G, G = Z ++ (enc ((l.length : Nat) : Int) ++ l.flatMap enc) := ⟨_, rfl⟩
  rw [← hG] at hlen ⊢
  have HG : Hid ((Z ++ enc ((l.length : Nat) : Int)) ++ (l.drop 0).flatMap enc = G) := Lib.hid (by rw [hG, List.drop_zero, List.append_assoc])
  have HLEN := Lib.hid hlen
  have HPUT := Lib.hid (fun (k : Nat) (hk : k < l.length) (v : Value) (D : List Int) (w1 : World) (h1 : Own w1 w.heap.size v D) (h2 : w.heap.size ≤ w1.heap.size) (h3 : (((D ++ enc (l.getD k 0)).length : Nat) : Int) ≤ 40000) => append_any w.heap.size v D (l.getD k 0) w1 h1 h2 (by rw [List.length_append] at h3; omega) (hi _ (getD_mem l k hk)))
  have HSTEP : Hid (∀ k, k < l.length → (l.drop k).flatMap enc = enc (l.getD k 0) ++ (l.drop (k + 1)).flatMap enc) := Lib.hid fun k hk => by
    rw [List.drop_eq_getElem_cons hk, List.flatMap_cons]
    simp [List.getD, hk]
  clear hl hA hm hG hlen hin hz
  go_enter Try.func41, Try.ntmps41
  go_wp2_with (fail)
  refine HC.out.mono ?_
  rintro e w1 ⟨v1, rfl, hown1, b1⟩
  have H1 := Lib.hid hown1
  have B1 := Lib.hid b1
  clear hown1 b1
  go_wp2_with (fail)
  refine (HAP.out v1 w1 H1.out B1.out.size).mono ?_
  rintro e w2 ⟨v2, rfl, hown2, b2⟩
  have H2 := Lib.hid hown2
  have B2 := Lib.hid (B1.out.trans b2)
  clear hown2 b2
  go_wp2_with (fail)
  go_loopw [0, 8, 16] (fun s0 s8 s16 wr => ∃ (v : Value) (k : Nat) (D : List Int), s0 = v ∧ s16 = .int .i64 k ∧ k ≤ l.length ∧ Hid (Own wr w.heap.size v D) ∧ Hid (Below w.heap.size w wr) ∧ Hid (D ++ (l.drop k).flatMap enc = G)) (fun _ _ s16 _ => l.length - (intOf s16).toNat)
  case atStart => exact ⟨v2, 0, _, rfl, rfl, Nat.zero_le _, H2, B2, HG⟩
  case round =>
    obtain ⟨v, k, D, rfl, rfl, hk, HD, HB, HE⟩ := hrel
    by_cases hlt : k < l.length
    · obtain ⟨ad, rfl, hcell⟩ := (HM.out.below HB.out).at_ hlt
      have hk' : ((k : Nat) : Int) < ((l.length : Nat) : Int) := by omega
      have HN : Hid (D ++ enc (l.getD k 0) ++ (l.drop (k + 1)).flatMap enc = G) := Lib.hid (by rw [List.append_assoc, ← HSTEP.out k hlt]; exact HE.out)
      have HP := Lib.hid (HPUT.out k hlt _ D wr HD.out HB.out.size (by have := HLEN.out; rw [← HN.out, List.length_append] at this; omega))
      have HE2 : Hid (∃ E, E = enc (l.getD k 0)) := Lib.hid ⟨_, rfl⟩
      generalize enc (l.getD k 0) = E at *
      generalize (l.getD k 0) = x at *
      go_wp2_with (fail)
      refine HP.out.mono ?_
      rintro e w3 ⟨v3, rfl, hown3, b3⟩
      have H3 := Lib.hid hown3
      have B3 := Lib.hid (HB.out.trans b3)
      clear hown3 b3
      go_wp2
      go_roundw
      case rel => exact ⟨v3, k + 1, _, rfl, by go_num, by omega, H3, B3, HN⟩
      case measure => simp [intOf]; omega
    · obtain rfl : k = l.length := by omega
      have hD : D = G := by have := HE.out; simpa using this
      subst hD
      clear hk hlt
      go_wp2
      go_ret
      exact ⟨_, rfl, HD.out, HB.out⟩

set_option maxHeartbeats 2000000 in
theorem appendTexts_any (A : Option Addr) (cap : Nat) (Z : List Int) (B : Option Addr) (cb : Nat) (l : List ByteArray) (w : World) (hl : Lies w .u8 w.heap.size A Z) (hm : LiesV w w.heap.size B (l.map Value.string)) (hlen : (((Z ++ (enc ((l.length : Nat) : Int) ++ l.flatMap encT)).length : Nat) : Int) ≤ 40000) (hll : ((l.length : Nat) : Int) ≤ 40000) (hA : A = none → cap = 0) :
    Calls Try.prog 42 #[.slice A Z.length cap, .slice B l.length cb, .func (.func 40) #[] #[]] w fun e w' => ∃ v, e = .returned v ∧ Own w' w.heap.size v (Z ++ (enc ((l.length : Nat) : Int) ++ l.flatMap encT)) ∧ Below w.heap.size w w' := by
  have hz : ((Z.length : Nat) : Int) ≤ 40000 := by rw [List.length_append] at hlen; omega
  have HC := Lib.hid (clone_any A cap Z w hl (by omega) hA)
  have HM := Lib.hid hm
  have hin : isI ((l.length : Nat) : Int) := ⟨by omega, by omega⟩
  have HAP := Lib.hid (fun (v : Value) (w1 : World) (h1 : Own w1 w.heap.size v Z) (h2 : w.heap.size ≤ w1.heap.size) => append_any w.heap.size v Z ((l.length : Nat) : Int) w1 h1 h2 (by omega) hin)
  obtain ⟨G, hG⟩ : ∃ G, G = Z ++ (enc ((l.length : Nat) : Int) ++ l.flatMap encT) := ⟨_, rfl⟩
  rw [← hG] at hlen ⊢
  have HG : Hid ((Z ++ enc ((l.length : Nat) : Int)) ++ (l.drop 0).flatMap encT = G) := Lib.hid (by rw [hG, List.drop_zero, List.append_assoc])
  have HLEN := Lib.hid hlen
  have HPUT := Lib.hid (fun (k : Nat) (hk : k < l.length) (v : Value) (D : List Int) (w1 : World) (h1 : Own w1 w.heap.size v D) (h2 : w.heap.size ≤ w1.heap.size) (h3 : (((D ++ encT (l.getD k ByteArray.empty)).length : Nat) : Int) ≤ 40000) => appendText_any w.heap.size v D (l.getD k ByteArray.empty) w1 h1 h2 (by unfold encT at h3; rw [List.length_append, List.length_append, bytesL_length] at h3; omega))
  have HSTEP : Hid (∀ k, k < l.length → (l.drop k).flatMap encT = encT (l.getD k ByteArray.empty) ++ (l.drop (k + 1)).flatMap encT) := Lib.hid fun k hk => by
    rw [List.drop_eq_getElem_cons hk, List.flatMap_cons]
    simp [List.getD, hk]
  clear hl hA hm hG hlen hin hz
  go_enter Try.func42, Try.ntmps42
  go_wp2_with (fail)
  refine HC.out.mono ?_
  rintro e w1 ⟨v1, rfl, hown1, b1⟩
  have H1 := Lib.hid hown1
  have B1 := Lib.hid b1
  clear hown1 b1
  go_wp2_with (fail)
  refine (HAP.out v1 w1 H1.out B1.out.size).mono ?_
  rintro e w2 ⟨v2, rfl, hown2, b2⟩
  have H2 := Lib.hid hown2
  have B2 := Lib.hid (B1.out.trans b2)
  clear hown2 b2
  go_wp2_with (fail)
  go_loopw [0, 8, 16] (fun s0 s8 s16 wr => ∃ (v : Value) (k : Nat) (D : List Int), s0 = v ∧ s16 = .int .i64 k ∧ k ≤ l.length ∧ Hid (Own wr w.heap.size v D) ∧ Hid (Below w.heap.size w wr) ∧ Hid (D ++ (l.drop k).flatMap encT = G)) (fun _ _ s16 _ => l.length - (intOf s16).toNat)
  case atStart => exact ⟨v2, 0, _, rfl, rfl, Nat.zero_le _, H2, B2, HG⟩
  case round =>
    obtain ⟨v, k, D, rfl, rfl, hk, HD, HB, HE⟩ := hrel
    by_cases hlt : k < l.length
    · obtain ⟨ad, rfl, hcell⟩ := (HM.out.below HB.out).textAt hlt
      have hk' : ((k : Nat) : Int) < ((l.length : Nat) : Int) := by omega
      have HN : Hid (D ++ encT (l.getD k ByteArray.empty) ++ (l.drop (k + 1)).flatMap encT = G) := Lib.hid (by rw [List.append_assoc, ← HSTEP.out k hlt]; exact HE.out)
      have HP := Lib.hid (HPUT.out k hlt _ D wr HD.out HB.out.size (by have := HLEN.out; rw [← HN.out, List.length_append] at this; omega))
      have HE2 : Hid (∃ E, E = encT (l.getD k ByteArray.empty)) := Lib.hid ⟨_, rfl⟩
      generalize encT (l.getD k ByteArray.empty) = E at *
      generalize (l.getD k ByteArray.empty) = x at *
      go_wp2_with (fail)
      refine HP.out.mono ?_
      rintro e w3 ⟨v3, rfl, hown3, b3⟩
      have H3 := Lib.hid hown3
      have B3 := Lib.hid (HB.out.trans b3)
      clear hown3 b3
      go_wp2
      go_roundw
      case rel => exact ⟨v3, k + 1, _, rfl, by go_num, by omega, H3, B3, HN⟩
      case measure => simp [intOf]; omega
    · obtain rfl : k = l.length := by omega
      have hD : D = G := by have := HE.out; simpa using this
      subst hD
      clear hk hlt
      go_wp2
      go_ret
      exact ⟨_, rfl, HD.out, HB.out⟩

set_option maxHeartbeats 1000000 in
theorem ints_write (A : Option Addr) (cap : Nat) (Z : List Int) (B : Option Addr) (cb : Nat) (l : List Int) (w : World) (hl : Lies w .u8 w.heap.size A Z) (hm : Lies w .i64 w.heap.size B l) (hlen : (((Z ++ (enc ((l.length : Nat) : Int) ++ l.flatMap enc)).length : Nat) : Int) ≤ 40000) (hll : ((l.length : Nat) : Int) ≤ 40000) (hA : A = none → cap = 0) (hi : ∀ n ∈ l, isI n) :
    Calls Try.prog 20 #[.slice A Z.length cap, .slice B l.length cb] w fun e w' => ∃ v, e = .returned v ∧ Own w' w.heap.size v (Z ++ (enc ((l.length : Nat) : Int) ++ l.flatMap enc)) ∧ Below w.heap.size w w' := by
  have HA := Lib.hid (appendInts_any A cap Z B cb l w hl hm hlen hll hA hi)
  clear hl hm hlen hA
  generalize Z ++ (enc ((l.length : Nat) : Int) ++ l.flatMap enc) = G at *
  go_enter Try.func20, Try.ntmps20
  go_wp2_with (fail)
  refine HA.out.mono ?_
  rintro e w1 ⟨v1, rfl, hown1, b1⟩
  go_wp2
  go_ret
  exact ⟨v1, rfl, hown1, b1⟩

set_option maxHeartbeats 1000000 in
theorem texts_write (A : Option Addr) (cap : Nat) (Z : List Int) (B : Option Addr) (cb : Nat) (l : List ByteArray) (w : World) (hl : Lies w .u8 w.heap.size A Z) (hm : LiesV w w.heap.size B (l.map Value.string)) (hlen : (((Z ++ (enc ((l.length : Nat) : Int) ++ l.flatMap encT)).length : Nat) : Int) ≤ 40000) (hll : ((l.length : Nat) : Int) ≤ 40000) (hA : A = none → cap = 0) :
    Calls Try.prog 22 #[.slice A Z.length cap, .slice B l.length cb] w fun e w' => ∃ v, e = .returned v ∧ Own w' w.heap.size v (Z ++ (enc ((l.length : Nat) : Int) ++ l.flatMap encT)) ∧ Below w.heap.size w w' := by
  have HA := Lib.hid (appendTexts_any A cap Z B cb l w hl hm hlen hll hA)
  clear hl hm hlen hA
  generalize Z ++ (enc ((l.length : Nat) : Int) ++ l.flatMap encT) = G at *
  go_enter Try.func22, Try.ntmps22
  go_wp2_with (fail)
  refine HA.out.mono ?_
  rintro e w1 ⟨v1, rfl, hown1, b1⟩
  go_wp2
  go_ret
  exact ⟨v1, rfl, hown1, b1⟩

end Go.Proofs.Ytcibkgmochikmaa.WireText
