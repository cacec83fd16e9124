/- The reference's methods of a source: texts and lists. -/
import Derived.Test.YtcibkgmochikmaaWireRMeth
namespace Go.Proofs.Ytcibkgmochikmaa.WireRMeth
set_option linter.unusedVariables false
open Go.RowKit Go.Proofs.Ytcibkgmochikmaa.WireBase Go.Proofs.Ytcibkgmochikmaa.WireInt Go.Proofs.Ytcibkgmochikmaa.WireAppend Go.Proofs.Ytcibkgmochikmaa.WireRead Go.Proofs.Ytcibkgmochikmaa.WireParse Go.Proofs.Ytcibkgmochikmaa.WireCode Go.Proofs.Ytcibkgmochikmaa.WireCanon Go.Proofs.Ytcibkgmochikmaa.WireRInt Go.Proofs.Ytcibkgmochikmaa.WireRRaw Go.Proofs.Ytcibkgmochikmaa.WireText
open Go.Proofs.Ytcibkgmochikmaa.WireSrc (Only Cut not_byte dec_range)
open Go.Proofs.Ytcibkgmochikmaa.WireRd (rdI rdT rdI_ok rdI_error)
open Go.Proofs.Ytcibkgmochikmaa.WireLst (rdN rdL OwnV From app_val join join_nil join_step join_stop int_info string_info)
open Go.Proofs.Ytcibkgmochikmaa.WireMeth (ends_imp rdI_less rdI_bytes rdT_less)
open Go.Proofs.Ytcibkgmochikmaa.WireBack (rdN_both)


set_option maxHeartbeats 2000000 in
theorem textR_err (g : Nat) (A : Option Addr) (n cap : Nat) (most e : Int) (w : World) (hs : WireRS.Src w g (.slice A n cap) 0) (he : e = 3 ∨ e = 4)
    (HW : Hid (Calls Try.prog 58 #[.pointer (some ⟨g, 0, none⟩), .int .i64 0, .int .i64 most, .int .i64 3] w fun r w' => r = .returned (.int .i64 0) ∧ Only g w w' ∧ WireRS.Src w' g (.slice A n cap) e)) :
    Calls Try.prog 45 #[.pointer (some ⟨g, 0, none⟩), .int .i64 most] w fun r w' => r = .returned (.string ⟨#[]⟩) ∧ Only g w w' ∧ WireRS.Src w' g (.slice A n cap) e := by
  have q0 := hs.rest
  have q1 := hs.err
  clear hs
  rcases he with rfl | rfl
  all_goals
    go_enter Try.func45, Try.ntmps45
    go_wp2_with (fail)
    refine HW.out.mono ?_
    rintro r w1 ⟨rfl, ho, S1⟩
    have HO := Lib.hid ho
    have c0 := S1.rest
    have c1 := S1.err
    have HS := Lib.hid S1
    clear ho S1
    go_wp2
    go_ret
    exact ⟨rfl, HO.out, HS.out⟩

set_option maxHeartbeats 2000000 in
theorem textR_short (g v m : Nat) (A : Option Addr) (n cap : Nat) (most : Int) (w : World) (hs : WireRS.Src w g (.slice A n cap) 0) (hv : (m : Int) < (v : Int))
    (HW : Hid (Calls Try.prog 58 #[.pointer (some ⟨g, 0, none⟩), .int .i64 0, .int .i64 most, .int .i64 3] w fun r w' => r = .returned (.int .i64 v) ∧ Only g w w' ∧ ∃ A c, WireRS.Src w' g (.slice A m c) 0)) :
    Calls Try.prog 45 #[.pointer (some ⟨g, 0, none⟩), .int .i64 most] w fun r w' => r = .returned (.string ⟨#[]⟩) ∧ Only g w w' ∧ WireRS.Src w' g (.slice A n cap) 4 := by
  have q0 := hs.rest
  have q1 := hs.err
  clear hs
  go_enter Try.func45, Try.ntmps45
  go_wp2_with (fail)
  refine HW.out.mono ?_
  rintro r w1 ⟨rfl, ho, A1, c, S1⟩
  have HO := Lib.hid ho
  have c0 := S1.rest
  have c1 := S1.err
  have HS := Lib.hid S1
  clear ho S1 q0 q1
  go_wp2_with (fail)
  refine (fail_any g A n cap 4 _ 0 w1 HS.out).mono ?_
  rintro r w2 ⟨rfl, ho2, S2⟩
  have HO2 := Lib.hid (HO.out.trans ho2)
  have HS2 := Lib.hid S2
  clear ho2 S2
  go_wp2
  go_ret
  exact ⟨rfl, HO2.out, HS2.out⟩

set_option maxHeartbeats 2000000 in
theorem textR_ok (g v B n cap : Nat) (A0 : Option Addr) (most : Int) (w : World) (Y : List Int) (hs : WireRS.Src w g (.slice A0 n cap) 0) (hv : v ≤ Y.length)
    (HW : Hid (Calls Try.prog 58 #[.pointer (some ⟨g, 0, none⟩), .int .i64 0, .int .i64 most, .int .i64 3] w fun r w' => r = .returned (.int .i64 v) ∧ Only g w w' ∧ WireRS.Here w' g B Y)) :
    Calls Try.prog 45 #[.pointer (some ⟨g, 0, none⟩), .int .i64 most] w fun r w' => r = .returned (.string (strOfNums (Y.take v))) ∧ Only g w w' ∧ WireRS.Here w' g B (Y.drop v) := by
  have q0 := hs.rest
  have q1 := hs.err
  clear hs
  go_enter Try.func45, Try.ntmps45
  go_wp2_with (fail)
  refine HW.out.mono ?_
  rintro r w1 ⟨rfl, ho, hh⟩
  obtain ⟨A, c, hf⟩ := Here.full hh
  have HO := Lib.hid ho
  have c0 := hf.src.rest
  have c1 := hf.src.err
  have f0 := hf.src.free 0
  have HF := Lib.hid hf
  have hcv := convert_lies (n := v) (cap := c) (xs := Y.take v) (B := B) (A := A) (w := w1) (fun h0 => by
    obtain ⟨ad, e, hl, hc⟩ := HF.out.lies (by rw [List.length_take] at h0; omega)
    refine ⟨ad, e, hl, fun i hi => ?_⟩
    rw [List.length_take] at hi
    rw [hc i (by omega)]
    simp [List.getD, show i < v by omega]) (by rw [List.length_take]; omega)
  have hcl : ((Y.length : Nat) : Int) ≤ (c : Int) := by have := hf.room; omega
  have h2 := hf.top
  have hvl : ((v : Nat) : Int) ≤ ((Y.length : Nat) : Int) := by omega
  obtain ⟨s, hs⟩ : ∃ s, s = strOfNums (Y.take v) := ⟨_, rfl⟩
  rw [← hs] at hcv
  have HSV := Lib.hid hs
  have HVN := Lib.hid hv
  clear ho hf hh hv hs q0 q1
  go_wp2
  · go_ret
    exact ⟨by show Ending.returned (Value.string s) = _; rw [HSV.out], HO.out.trans (WireSrc.Only.set 0 _), Full.here (WireRS.full_cut HF.out HVN.out (Or.inr ⟨rfl, rfl, by first | rfl | assumption⟩))⟩
  · go_ret
    exact ⟨by show Ending.returned (Value.string s) = _; rw [HSV.out], HO.out.trans (WireSrc.Only.set 0 _), Full.here (WireRS.full_cut HF.out HVN.out (Or.inl ⟨rfl, rfl⟩))⟩

theorem text_r (g B cap : Nat) (A : Option Addr) (Z : List Int) (most : Int) (w : World) (hf : WireRS.Full w g B A cap Z) :
    Calls Try.prog 45 #[.pointer (some ⟨g, 0, none⟩), .int .i64 most] w fun r w' => ∃ v : ByteArray, r = .returned (.string v) ∧ Only g w w' ∧ WireMeth.Ends (rdT most Z) (fun e => v = ⟨#[]⟩ ∧ WireRS.Src w' g (.slice A Z.length cap) e) (fun x Y => v = x ∧ WireRS.Here w' g B Y) := by
  have HW := raw_m g B cap A Z 0 most 3 w hf (by decide)
  cases hres : rdI 0 most 3 Z with
  | error e =>
    have e1 : rdT most Z = .error e := by unfold rdT; rw [hres]
    rw [hres] at HW
    rw [e1]
    refine (textR_err g A Z.length cap most e w hf.src (rdI_error hres) (Lib.hid (HW.mono ?_))).mono ?_
    · rintro r w' ⟨v, rfl, ho, _, rfl, h⟩
      exact ⟨rfl, ho, h⟩
    · rintro r w' ⟨rfl, ho, h⟩
      exact ⟨_, rfl, ho, by have := rdI_error hres; omega, rfl, h⟩
  | ok p =>
    obtain ⟨n, Y⟩ := p
    have h0 := (rdI_ok hres).1
    obtain ⟨k, rfl⟩ : ∃ k : Nat, n = k := ⟨n.toNat, by omega⟩
    rw [hres] at HW
    by_cases hk : (k : Int) ≤ Y.length
    · have e1 : rdT most Z = .ok (strOfNums (Y.take k), Y.drop k) := by unfold rdT; rw [hres]; exact if_pos hk
      rw [e1]
      refine (textR_ok g k B _ _ A most w Y hf.src (by omega) (Lib.hid (HW.mono ?_))).mono ?_
      · rintro r w' ⟨v, rfl, ho, rfl, h⟩
        exact ⟨rfl, ho, h⟩
      · rintro r w' ⟨rfl, ho, h⟩
        exact ⟨_, rfl, ho, rfl, h⟩
    · have e1 : rdT most Z = .error 4 := by unfold rdT; rw [hres]; exact if_neg hk
      rw [e1]
      refine (textR_short g k Y.length A Z.length cap most w hf.src (by omega) (Lib.hid (HW.mono ?_))).mono ?_
      · rintro r w' ⟨v, rfl, ho, rfl, h⟩
        obtain ⟨A, c, hf⟩ := Here.full h
        exact ⟨rfl, ho, A, c, hf.src⟩
      · rintro r w' ⟨rfl, ho, h⟩
        exact ⟨_, rfl, ho, by decide, rfl, h⟩

set_option maxHeartbeats 1000000 in
theorem intsR_err (g : Nat) (A : Option Addr) (n cap : Nat) (most lo hi e : Int) (w : World) (hs : WireRS.Src w g (.slice A n cap) 0) (he : e = 3 ∨ e = 4)
    (HW : Hid (Calls Try.prog 58 #[.pointer (some ⟨g, 0, none⟩), .int .i64 0, .int .i64 most, .int .i64 3] w fun r w' => r = .returned (.int .i64 0) ∧ Only g w w' ∧ WireRS.Src w' g (.slice A n cap) e)) :
    Calls Try.prog 46 #[.pointer (some ⟨g, 0, none⟩), .int .i64 most, .int .i64 lo, .int .i64 hi] w fun r w' => r = .returned (.slice none 0 0) ∧ Only g w w' ∧ WireRS.Src w' g (.slice A n cap) e := by
  have q0 := hs.rest
  have q1 := hs.err
  clear hs
  rcases he with rfl | rfl
  all_goals
    go_enter Try.func46, Try.ntmps46
    go_wp2_with (fail)
    refine HW.out.mono ?_
    rintro r w1 ⟨rfl, ho, S1⟩
    have HO := Lib.hid ho
    have c0 := S1.rest
    have c1 := S1.err
    have f0 := S1.free 0
    have hlt := S1.lt
    have HS := Lib.hid S1
    clear ho S1 q0 q1
    go_wp2_with (fail)
    refine wp_loop_rounds 1 ?_
    rw [rounds_succ]
    go_wp2
    go_ret
    exact ⟨rfl, HO.out.trans (WireSrc.Only.set 0 _), HS.out.setRest _⟩

set_option maxHeartbeats 4000000 in
theorem intsR_loop (t B n cap : Nat) (A : Option Addr) (Z Y : List Int) (most lo hi : Int) (w : World) (hf : WireRS.Full w t B A cap Z) (hlen : Z.length ≤ 100000) (hYl : Y.length ≤ 100000) (hn : ((n : Nat) : Int) ≤ 9223372036854775807)
    (HW : Hid (Calls Try.prog 58 #[.pointer (some ⟨t, 0, none⟩), .int .i64 0, .int .i64 most, .int .i64 3] w fun r w' => r = .returned (.int .i64 n) ∧ Only t w w' ∧ WireRS.Here w' t B Y)) :
    Calls Try.prog 46 #[.pointer (some ⟨t, 0, none⟩), .int .i64 most, .int .i64 lo, .int .i64 hi] w fun r w' => ∃ v, r = .returned v ∧ Only t w w' ∧ WireMeth.Ends (rdN (rdI lo hi 2) n Y) (fun e => v = .slice none 0 0 ∧ WireRS.Src w' t (.slice A Z.length cap) e) (fun xs Y => (∃ base, w.heap.size ≤ base ∧ OwnV w' base 3 v (xs.map (Value.int .i64))) ∧ WireRS.Here w' t B Y) := by
  have q0 := hf.src.rest
  have q1 := hf.src.err
  have ht := hf.src.lt
  have hB := hf.bound
  obtain ⟨R, hR⟩ : ∃ R, R = rdN (rdI lo hi 2) n Y := ⟨_, rfl⟩
  rw [← hR]
  have HR : Hid (R = join [] (rdN (rdI lo hi 2) n Y)) := Lib.hid (by rw [join_nil, hR])
  clear hR hf
  go_enter Try.func46, Try.ntmps46
  go_wp2_with (fail)
  refine HW.out.mono ?_
  rintro r w2 ⟨rfl, ho, hh⟩
  have HH := Lib.hid hh
  have HF : Hid (From t w.heap.size w w2) := Lib.hid (From.of_only ho (Nat.le_refl _))
  clear ho hh q0 q1
  go_wp2_with (fail)
  go_loopw [11, 12] (fun so si wr => ∃ (v : Value) (m : Nat) (vs : List Int), so = v ∧ si = .int .i64 m ∧ m ≤ n ∧ Hid (OwnV wr w.heap.size 3 v (vs.map (Value.int .i64))) ∧ Hid (From t w.heap.size w wr) ∧ ((∃ Y, Hid (WireRS.Here wr t B Y) ∧ Hid (R = join vs (rdN (rdI lo hi 2) (n - m) Y)) ∧ Hid (vs.length + Y.length ≤ 100000)) ∨ (∃ e A n c, Hid (WireRS.Src wr t (.slice A n c) e) ∧ (e == 0) = false ∧ Hid (R = .error e)))) (fun _ si _ => n - (intOf si).toNat)
  case atStart => exact ⟨_, 0, [], rfl, rfl, Nat.zero_le _, Lib.hid (World.ownsRow_nil _ _ _ _), HF, Or.inl ⟨Y, HH, HR, Lib.hid (by simpa using hYl)⟩⟩
  case round =>
    obtain ⟨v, m, vs, rfl, rfl, hmn, HO, HF, h⟩ := hrel
    rcases h with ⟨Y, HH, HR, HLEN⟩ | ⟨e, A', n', c, HS, he, HR⟩
    · obtain ⟨AY, cY, hfull⟩ := Here.full HH.out
      have c1 := hfull.src.err
      have HFU := Lib.hid hfull
      clear hfull
      by_cases hlt : m < n
      · have hm : ((m : Nat) : Int) < ((n : Nat) : Int) := by omega
        have HTT := Lib.hid (raw_m t B cY AY Y lo hi 2 wr HFU.out (by decide))
        go_wp2_with (fail)
        refine HTT.out.mono ?_
        rintro r w3 ⟨x, rfl, ho3, hin⟩
        have HF3 := Lib.hid (HF.out.trans (From.of_only ho3 HF.out.size))
        have HO3 := Lib.hid (WireLst.OwnV.only HO.out ho3 ht)
        have HLV : Hid ((((vs.map (Value.int .i64)).length : Nat) : Int) ≤ 200000) := Lib.hid (by rw [List.length_map]; have := HLEN.out; omega)
        go_wp2_with (with_reducible refine stop_at (o := ⟨some 47, _, _, _, _, _⟩) ?_)
        unfold Stop
        refine app_val 23 3 Try.underlying23 (.int .i64 0) 8 int_info rfl (by decide) rfl (.tmp 41) (.tmp 46) rfl t w.heap.size w w3 (Value.int .i64 x) _ rfl (vs.map (Value.int .i64)) rfl rfl HO3 HLV.out (Nat.le_refl _) HF3 ht ?_
        intro v4 w4 HO4 HF4 _ HK4
        have HO4' : Hid (OwnV w4 w.heap.size 3 v4 ((vs ++ [x]).map (Value.int .i64))) := Lib.hid (by rw [List.map_append]; exact HO4.out)
        have hsub : n - m = (n - (m + 1)) + 1 := by omega
        have hnext : (∃ Y, Hid (WireRS.Here w4 t B Y) ∧ Hid (R = join (vs ++ [x]) (rdN (rdI lo hi 2) (n - (m + 1)) Y)) ∧ Hid ((vs ++ [x]).length + Y.length ≤ 100000)) ∨ (∃ e A n c, Hid (WireRS.Src w4 t (.slice A n c) e) ∧ (e == 0) = false ∧ Hid (R = .error e)) := by
          cases hres : (rdI lo hi 2) Y with
          | error e =>
            have hres' : rdI lo hi 2 Y = .error e := hres
            rw [hres'] at hin
            obtain ⟨he, _, hs⟩ := hin
            exact Or.inr ⟨e, _, _, _, Lib.hid ((HK4.out t ht).trans hs), beq_eq_false_iff_ne.2 he, Lib.hid (by rw [HR.out, hsub]; exact join_stop (rdI lo hi 2) vs Y _ e hres)⟩
          | ok p =>
            obtain ⟨x', Y'⟩ := p
            have hres' : rdI lo hi 2 Y = .ok (x', Y') := hres
            rw [hres'] at hin
            obtain ⟨rfl, hh⟩ := hin
            have hl := rdI_less HH.out.1 hres
            exact Or.inl ⟨Y', Lib.hid (here_keptR hh HK4.out ht hB HF4.out.size), Lib.hid (by rw [HR.out, hsub]; exact join_step (rdI lo hi 2) vs _ Y Y' _ hres), Lib.hid (by have := HLEN.out; rw [List.length_append]; simp; omega)⟩
        have HNEXT := Lib.hid hnext
        clear hnext hin ho3 hsub
        go_wp2
        go_roundw
        case rel => exact ⟨v4, m + 1, vs ++ [x], rfl, by go_num, by omega, HO4', HF4, HNEXT.out⟩
        case measure => simp [intOf]; omega
      · obtain rfl : m = n := by omega
        have hnn : ¬ ((m : Nat) : Int) < ((m : Nat) : Int) := by omega
        clear hlt
        go_wp2
        go_ret
        refine ⟨_, rfl, HF.out.only, ?_⟩
        have hr : R = .ok (vs, Y) := by
          rw [HR.out, Nat.sub_self]
          show Except.ok (vs ++ [], Y) = _
          rw [List.append_nil]
        rw [hr]
        exact ⟨⟨_, Nat.le_refl _, HO.out⟩, HH.out⟩
    · have c1 := HS.out.err
      have c0 := HS.out.rest
      have f0 := HS.out.free 0
      have hlt1 := HS.out.lt
      have he2 : (e != 0) = true := by simpa using he
      rcases (show ((m : Nat) : Int) < ((n : Nat) : Int) ∨ ((n : Nat) : Int) ≤ ((m : Nat) : Int) by omega) with hm | hm
      all_goals
        go_wp2
        go_ret
        refine ⟨_, rfl, (HF.out.only).trans (WireSrc.Only.set 0 _), ?_⟩
        rw [HR.out]
        exact ⟨by simpa using he, rfl, HS.out.setRest _⟩

theorem intsR_r (g B cap : Nat) (A : Option Addr) (Z : List Int) (most lo hi : Int) (w : World) (hf : WireRS.Full w g B A cap Z) (hlen : Z.length ≤ 100000) (hm : most ≤ 9223372036854775807) :
    Calls Try.prog 46 #[.pointer (some ⟨g, 0, none⟩), .int .i64 most, .int .i64 lo, .int .i64 hi] w fun r w' => ∃ v, r = .returned v ∧ Only g w w' ∧ WireMeth.Ends (rdL (rdI lo hi 2) most Z) (fun e => v = .slice none 0 0 ∧ WireRS.Src w' g (.slice A Z.length cap) e) (fun xs Y => (∃ base, w.heap.size ≤ base ∧ OwnV w' base 3 v (xs.map (Value.int .i64))) ∧ WireRS.Here w' g B Y) := by
  have HW := raw_m g B cap A Z 0 most 3 w hf (by decide)
  cases hres : rdI 0 most 3 Z with
  | error e =>
    have e1 : rdL (rdI lo hi 2) most Z = .error e := by unfold rdL; rw [hres]
    rw [hres] at HW
    rw [e1]
    refine (intsR_err g A Z.length cap most lo hi e w hf.src (rdI_error hres) (Lib.hid (HW.mono ?_))).mono ?_
    · rintro r w' ⟨v, rfl, ho, _, rfl, h⟩
      exact ⟨rfl, ho, h⟩
    · rintro r w' ⟨rfl, ho, h⟩
      exact ⟨_, rfl, ho, by have := rdI_error hres; omega, rfl, h⟩
  | ok p =>
    obtain ⟨n, Y⟩ := p
    have h0 := rdI_ok hres
    have hY := rdI_bytes hf.bytes hres
    obtain ⟨k, rfl⟩ : ∃ k : Nat, n = k := ⟨n.toNat, by omega⟩
    rw [hres] at HW
    have e1 : rdL (rdI lo hi 2) most Z = rdN (rdI lo hi 2) k Y := by unfold rdL; rw [hres]; rfl
    rw [e1]
    refine intsR_loop g B k cap A Z Y most lo hi w hf hlen (by omega) (by omega) (Lib.hid (HW.mono ?_))
    rintro r w' ⟨v, rfl, ho, rfl, h⟩
    exact ⟨rfl, ho, h⟩

set_option maxHeartbeats 1000000 in
theorem textsR_err (g : Nat) (A : Option Addr) (n cap : Nat) (most long e : Int) (w : World) (hs : WireRS.Src w g (.slice A n cap) 0) (he : e = 3 ∨ e = 4)
    (HW : Hid (Calls Try.prog 58 #[.pointer (some ⟨g, 0, none⟩), .int .i64 0, .int .i64 most, .int .i64 3] w fun r w' => r = .returned (.int .i64 0) ∧ Only g w w' ∧ WireRS.Src w' g (.slice A n cap) e)) :
    Calls Try.prog 47 #[.pointer (some ⟨g, 0, none⟩), .int .i64 most, .int .i64 long] w fun r w' => r = .returned (.slice none 0 0) ∧ Only g w w' ∧ WireRS.Src w' g (.slice A n cap) e := by
  have q0 := hs.rest
  have q1 := hs.err
  clear hs
  rcases he with rfl | rfl
  all_goals
    go_enter Try.func47, Try.ntmps47
    go_wp2_with (fail)
    refine HW.out.mono ?_
    rintro r w1 ⟨rfl, ho, S1⟩
    have HO := Lib.hid ho
    have c0 := S1.rest
    have c1 := S1.err
    have f0 := S1.free 0
    have hlt := S1.lt
    have HS := Lib.hid S1
    clear ho S1 q0 q1
    go_wp2_with (fail)
    refine wp_loop_rounds 1 ?_
    rw [rounds_succ]
    go_wp2
    go_ret
    exact ⟨rfl, HO.out.trans (WireSrc.Only.set 0 _), HS.out.setRest _⟩

set_option maxHeartbeats 4000000 in
theorem textsR_loop (t B n cap : Nat) (A : Option Addr) (Z Y : List Int) (most long : Int) (w : World) (hf : WireRS.Full w t B A cap Z) (hlen : Z.length ≤ 100000) (hYl : Y.length ≤ 100000) (hn : ((n : Nat) : Int) ≤ 9223372036854775807)
    (HW : Hid (Calls Try.prog 58 #[.pointer (some ⟨t, 0, none⟩), .int .i64 0, .int .i64 most, .int .i64 3] w fun r w' => r = .returned (.int .i64 n) ∧ Only t w w' ∧ WireRS.Here w' t B Y)) :
    Calls Try.prog 47 #[.pointer (some ⟨t, 0, none⟩), .int .i64 most, .int .i64 long] w fun r w' => ∃ v, r = .returned v ∧ Only t w w' ∧ WireMeth.Ends (rdN (rdT long) n Y) (fun e => v = .slice none 0 0 ∧ WireRS.Src w' t (.slice A Z.length cap) e) (fun xs Y => (∃ base, w.heap.size ≤ base ∧ OwnV w' base 9 v (xs.map (Value.string))) ∧ WireRS.Here w' t B Y) := by
  have q0 := hf.src.rest
  have q1 := hf.src.err
  have ht := hf.src.lt
  have hB := hf.bound
  obtain ⟨R, hR⟩ : ∃ R, R = rdN (rdT long) n Y := ⟨_, rfl⟩
  rw [← hR]
  have HR : Hid (R = join [] (rdN (rdT long) n Y)) := Lib.hid (by rw [join_nil, hR])
  clear hR hf
  go_enter Try.func47, Try.ntmps47
  go_wp2_with (fail)
  refine HW.out.mono ?_
  rintro r w2 ⟨rfl, ho, hh⟩
  have HH := Lib.hid hh
  have HF : Hid (From t w.heap.size w w2) := Lib.hid (From.of_only ho (Nat.le_refl _))
  clear ho hh q0 q1
  go_wp2_with (fail)
  go_loopw [9, 10] (fun so si wr => ∃ (v : Value) (m : Nat) (vs : List ByteArray), so = v ∧ si = .int .i64 m ∧ m ≤ n ∧ Hid (OwnV wr w.heap.size 9 v (vs.map (Value.string))) ∧ Hid (From t w.heap.size w wr) ∧ ((∃ Y, Hid (WireRS.Here wr t B Y) ∧ Hid (R = join vs (rdN (rdT long) (n - m) Y)) ∧ Hid (vs.length + Y.length ≤ 100000)) ∨ (∃ e A n c, Hid (WireRS.Src wr t (.slice A n c) e) ∧ (e == 0) = false ∧ Hid (R = .error e)))) (fun _ si _ => n - (intOf si).toNat)
  case atStart => exact ⟨_, 0, [], rfl, rfl, Nat.zero_le _, Lib.hid (World.ownsRow_nil _ _ _ _), HF, Or.inl ⟨Y, HH, HR, Lib.hid (by simpa using hYl)⟩⟩
  case round =>
    obtain ⟨v, m, vs, rfl, rfl, hmn, HO, HF, h⟩ := hrel
    rcases h with ⟨Y, HH, HR, HLEN⟩ | ⟨e, A', n', c, HS, he, HR⟩
    · obtain ⟨AY, cY, hfull⟩ := Here.full HH.out
      have c1 := hfull.src.err
      have HFU := Lib.hid hfull
      clear hfull
      by_cases hlt : m < n
      · have hm : ((m : Nat) : Int) < ((n : Nat) : Int) := by omega
        have HTT := Lib.hid (text_r t B cY AY Y long wr HFU.out)
        go_wp2_with (fail)
        refine HTT.out.mono ?_
        rintro r w3 ⟨x, rfl, ho3, hin⟩
        have HF3 := Lib.hid (HF.out.trans (From.of_only ho3 HF.out.size))
        have HO3 := Lib.hid (WireLst.OwnV.only HO.out ho3 ht)
        have HLV : Hid ((((vs.map (Value.string)).length : Nat) : Int) ≤ 200000) := Lib.hid (by rw [List.length_map]; have := HLEN.out; omega)
        go_wp2_with (with_reducible refine stop_at (o := ⟨some 44, _, _, _, _, _⟩) ?_)
        unfold Stop
        refine app_val 24 9 Try.underlying24 (.string ⟨#[]⟩) 16 string_info rfl (by decide) rfl (.tmp 39) (.tmp 43) rfl t w.heap.size w w3 (Value.string x) _ rfl (vs.map (Value.string)) rfl rfl HO3 HLV.out (Nat.le_refl _) HF3 ht ?_
        intro v4 w4 HO4 HF4 _ HK4
        have HO4' : Hid (OwnV w4 w.heap.size 9 v4 ((vs ++ [x]).map (Value.string))) := Lib.hid (by rw [List.map_append]; exact HO4.out)
        have hsub : n - m = (n - (m + 1)) + 1 := by omega
        have hnext : (∃ Y, Hid (WireRS.Here w4 t B Y) ∧ Hid (R = join (vs ++ [x]) (rdN (rdT long) (n - (m + 1)) Y)) ∧ Hid ((vs ++ [x]).length + Y.length ≤ 100000)) ∨ (∃ e A n c, Hid (WireRS.Src w4 t (.slice A n c) e) ∧ (e == 0) = false ∧ Hid (R = .error e)) := by
          cases hres : (rdT long) Y with
          | error e =>
            have hres' : rdT long Y = .error e := hres
            rw [hres'] at hin
            obtain ⟨he, _, hs⟩ := hin
            exact Or.inr ⟨e, _, _, _, Lib.hid ((HK4.out t ht).trans hs), beq_eq_false_iff_ne.2 he, Lib.hid (by rw [HR.out, hsub]; exact join_stop (rdT long) vs Y _ e hres)⟩
          | ok p =>
            obtain ⟨x', Y'⟩ := p
            have hres' : rdT long Y = .ok (x', Y') := hres
            rw [hres'] at hin
            obtain ⟨rfl, hh⟩ := hin
            have hl := rdT_less HH.out.1 hres
            exact Or.inl ⟨Y', Lib.hid (here_keptR hh HK4.out ht hB HF4.out.size), Lib.hid (by rw [HR.out, hsub]; exact join_step (rdT long) vs _ Y Y' _ hres), Lib.hid (by have := HLEN.out; rw [List.length_append]; simp; omega)⟩
        have HNEXT := Lib.hid hnext
        clear hnext hin ho3 hsub
        go_wp2
        go_roundw
        case rel => exact ⟨v4, m + 1, vs ++ [x], rfl, by go_num, by omega, HO4', HF4, HNEXT.out⟩
        case measure => simp [intOf]; omega
      · obtain rfl : m = n := by omega
        have hnn : ¬ ((m : Nat) : Int) < ((m : Nat) : Int) := by omega
        clear hlt
        go_wp2
        go_ret
        refine ⟨_, rfl, HF.out.only, ?_⟩
        have hr : R = .ok (vs, Y) := by
          rw [HR.out, Nat.sub_self]
          show Except.ok (vs ++ [], Y) = _
          rw [List.append_nil]
        rw [hr]
        exact ⟨⟨_, Nat.le_refl _, HO.out⟩, HH.out⟩
    · have c1 := HS.out.err
      have c0 := HS.out.rest
      have f0 := HS.out.free 0
      have hlt1 := HS.out.lt
      have he2 : (e != 0) = true := by simpa using he
      rcases (show ((m : Nat) : Int) < ((n : Nat) : Int) ∨ ((n : Nat) : Int) ≤ ((m : Nat) : Int) by omega) with hm | hm
      all_goals
        go_wp2
        go_ret
        refine ⟨_, rfl, (HF.out.only).trans (WireSrc.Only.set 0 _), ?_⟩
        rw [HR.out]
        exact ⟨by simpa using he, rfl, HS.out.setRest _⟩

theorem textsR_r (g B cap : Nat) (A : Option Addr) (Z : List Int) (most long : Int) (w : World) (hf : WireRS.Full w g B A cap Z) (hlen : Z.length ≤ 100000) (hm : most ≤ 9223372036854775807) :
    Calls Try.prog 47 #[.pointer (some ⟨g, 0, none⟩), .int .i64 most, .int .i64 long] w fun r w' => ∃ v, r = .returned v ∧ Only g w w' ∧ WireMeth.Ends (rdL (rdT long) most Z) (fun e => v = .slice none 0 0 ∧ WireRS.Src w' g (.slice A Z.length cap) e) (fun xs Y => (∃ base, w.heap.size ≤ base ∧ OwnV w' base 9 v (xs.map (Value.string))) ∧ WireRS.Here w' g B Y) := by
  have HW := raw_m g B cap A Z 0 most 3 w hf (by decide)
  cases hres : rdI 0 most 3 Z with
  | error e =>
    have e1 : rdL (rdT long) most Z = .error e := by unfold rdL; rw [hres]
    rw [hres] at HW
    rw [e1]
    refine (textsR_err g A Z.length cap most long e w hf.src (rdI_error hres) (Lib.hid (HW.mono ?_))).mono ?_
    · rintro r w' ⟨v, rfl, ho, _, rfl, h⟩
      exact ⟨rfl, ho, h⟩
    · rintro r w' ⟨rfl, ho, h⟩
      exact ⟨_, rfl, ho, by have := rdI_error hres; omega, rfl, h⟩
  | ok p =>
    obtain ⟨n, Y⟩ := p
    have h0 := rdI_ok hres
    have hY := rdI_bytes hf.bytes hres
    obtain ⟨k, rfl⟩ : ∃ k : Nat, n = k := ⟨n.toNat, by omega⟩
    rw [hres] at HW
    have e1 : rdL (rdT long) most Z = rdN (rdT long) k Y := by unfold rdL; rw [hres]; rfl
    rw [e1]
    refine textsR_loop g B k cap A Z Y most long w hf hlen (by omega) (by omega) (Lib.hid (HW.mono ?_))
    rintro r w' ⟨v, rfl, ho, rfl, h⟩
    exact ⟨rfl, ho, h⟩

end Go.Proofs.Ytcibkgmochikmaa.WireRMeth
