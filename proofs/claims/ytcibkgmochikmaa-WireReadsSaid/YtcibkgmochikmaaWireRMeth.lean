/- The reference's methods of a source. -/
import Derived.Test.YtcibkgmochikmaaWireRRaw
namespace Go.Proofs.Ytcibkgmochikmaa.WireRMeth
set_option linter.unusedVariables false
open Go.RowKit Go.Proofs.Ytcibkgmochikmaa.WireBase Go.Proofs.Ytcibkgmochikmaa.WireInt Go.Proofs.Ytcibkgmochikmaa.WireAppend Go.Proofs.Ytcibkgmochikmaa.WireRead Go.Proofs.Ytcibkgmochikmaa.WireParse Go.Proofs.Ytcibkgmochikmaa.WireCode Go.Proofs.Ytcibkgmochikmaa.WireCanon Go.Proofs.Ytcibkgmochikmaa.WireRInt Go.Proofs.Ytcibkgmochikmaa.WireRRaw Go.Proofs.Ytcibkgmochikmaa.WireText
open Go.Proofs.Ytcibkgmochikmaa.WireSrc (Only Cut not_byte dec_range)
open Go.Proofs.Ytcibkgmochikmaa.WireRd (rdI rdT rdI_ok rdI_error)
open Go.Proofs.Ytcibkgmochikmaa.WireLst (rdN rdL OwnV From app_val join join_nil join_step join_stop int_info string_info)
open Go.Proofs.Ytcibkgmochikmaa.WireMeth (ends_imp rdI_less rdI_bytes rdT_less)
open Go.Proofs.Ytcibkgmochikmaa.WireBack (rdN_both)

theorem Here.full {w : World} {g B : Nat} {Z : List Int} (h : WireRS.Here w g B Z) : ∃ A cap, WireRS.Full w g B A cap Z := by
  obtain ⟨h1, h2, A, c, h3, h4, h5, h6⟩ := h
  exact ⟨A, c, h1, h2, h3, h4, h5, h6⟩
theorem Full.here {w : World} {g B cap : Nat} {A : Option Addr} {Z : List Int} (h : WireRS.Full w g B A cap Z) : WireRS.Here w g B Z := ⟨h.bytes, h.bound, A, cap, h.room, h.top, h.src, h.lies⟩

theorem here_keptR {w w' : World} {t B base : Nat} {Y : List Int} (h : WireRS.Here w t B Y) (hk : ∀ k, k < base → w'.heap[k]? = w.heap[k]?) (ht : t < base) (hB : B ≤ base) (hs : base ≤ w'.heap.size) : WireRS.Here w' t B Y := by
  obtain ⟨hb, h0, A, c, h1, h2, h3, h4⟩ := h
  refine ⟨hb, by omega, A, c, h1, h2, (hk t ht).trans h3, fun h0 => ?_⟩
  obtain ⟨ad, e, hlt, hc⟩ := h4 h0
  refine ⟨ad, e, hlt, fun i hi => ?_⟩
  rw [← hc i hi]
  exact World.cell?_of_block (by rw [block_add_of]; exact hk _ (by omega))

set_option maxHeartbeats 1000000 in
theorem raw_m (g B cap : Nat) (A : Option Addr) (Z : List Int) (lo hi e' : Int) (w : World) (hf : WireRS.Full w g B A cap Z) (he : e' ≠ 0) :
    Calls Try.prog 58 #[.pointer (some ⟨g, 0, none⟩), .int .i64 lo, .int .i64 hi, .int .i64 e'] w fun r w' => ∃ v : Int, r = .returned (.int .i64 v) ∧ Only g w w' ∧ WireMeth.Ends (rdI lo hi e' Z) (fun e => v = 0 ∧ WireRS.Src w' g (.slice A Z.length cap) e) (fun x Y => v = x ∧ WireRS.Here w' g B Y) := by
  have c0 := hf.src.rest
  have c1 := hf.src.err
  have f0 := hf.src.free 0
  have f1 := hf.src.free 1
  have hlt := hf.src.lt
  have HI := Lib.hid (integer_any A cap Z w (hf.lies.more hf.bound) hf.bytes hf.room hf.top)
  have HFU := Lib.hid hf
  have HE := Lib.hid he
  clear hf he
  go_enter Try.func58, Try.ntmps58
  go_wp2_with (fail)
  refine HI.out.mono ?_
  rintro r w1 ⟨hfound, b1⟩
  have HB := Lib.hid b1
  have S1 := HFU.out.src.below b1
  have d0 := S1.rest
  have d1 := S1.err
  have k0 := S1.free 0
  have k1 := S1.free 1
  have hlt1 := S1.lt
  have HS1 := Lib.hid S1
  have HF1 : Hid (WireRS.Full w1 g B A cap Z) := Lib.hid ⟨HFU.out.bytes, Nat.le_trans HFU.out.bound b1.size, HFU.out.room, HFU.out.top, S1, HFU.out.lies.below (b1.mono HFU.out.bound)⟩
  clear b1 S1 c0 c1 f0 f1
  rcases hfound with ⟨hd, rfl⟩ | ⟨m, s, A', c', hd, rfl, hcut⟩
  · have HD := Lib.hid hd
    clear hd
    go_wp2
    go_ret
    have e1 : rdI lo hi e' Z = .error 4 := by unfold rdI; rw [HD.out]
    rw [e1]
    exact ⟨0, rfl, (Only.of_below HB.out).trans (WireSrc.Only.set 1 _), by decide, rfl, HS1.out.setErr 4⟩
  · have HD := Lib.hid hd
    have HCUT := Lib.hid hcut
    clear hd hcut
    by_cases hm : lo ≤ m ∧ m ≤ hi
    · obtain ⟨m1, m2⟩ := hm
      have e1 : rdI lo hi e' Z = .ok (m, Z.drop s.toNat) := by unfold rdI; rw [HD.out]; exact if_pos ⟨m1, m2⟩
      have HE1 := Lib.hid e1
      clear e1
      go_wp2
      go_ret
      rw [HE1.out]
      have hr := dec_range Z m s HD.out
      exact ⟨m, rfl, (Only.of_below HB.out).trans (WireSrc.Only.set 0 _), rfl, Full.here (WireRS.full_cut HF1.out (by omega) HCUT.out)⟩
    · have e1 : rdI lo hi e' Z = .error e' := by unfold rdI; rw [HD.out]; exact if_neg hm
      have HE1 := Lib.hid e1
      clear e1
      rcases (show m < lo ∨ (lo ≤ m ∧ hi < m) by omega) with h1 | ⟨h1, h2⟩
      all_goals
        clear hm
        go_wp2
        go_ret
        rw [HE1.out]
        exact ⟨0, rfl, (Only.of_below HB.out).trans (WireSrc.Only.set 1 _), HE.out, rfl, HS1.out.setErr e'⟩

set_option maxHeartbeats 1000000 in
theorem int_r (g B cap : Nat) (A : Option Addr) (Z : List Int) (lo hi : Int) (w : World) (hf : WireRS.Full w g B A cap Z) :
    Calls Try.prog 43 #[.pointer (some ⟨g, 0, none⟩), .int .i64 lo, .int .i64 hi] w fun r w' => ∃ v : Int, r = .returned (.int .i64 v) ∧ Only g w w' ∧ WireMeth.Ends (rdI lo hi 2 Z) (fun e => v = 0 ∧ WireRS.Src w' g (.slice A Z.length cap) e) (fun x Y => v = x ∧ WireRS.Here w' g B Y) := by
  have HR := Lib.hid (raw_m g B cap A Z lo hi 2 w hf (by decide))
  clear hf
  go_enter Try.func43, Try.ntmps43
  go_wp2_with (fail)
  refine HR.out.mono ?_
  rintro r w1 ⟨v, rfl, ho, hend⟩
  have HO := Lib.hid ho
  have HE := Lib.hid hend
  clear ho hend
  go_wp2
  go_ret
  exact ⟨v, rfl, HO.out, HE.out⟩

set_option maxHeartbeats 1000000 in
theorem bool_r (g B cap : Nat) (A : Option Addr) (Z : List Int) (w : World) (hf : WireRS.Full w g B A cap Z) :
    Calls Try.prog 44 #[.pointer (some ⟨g, 0, none⟩)] w fun r w' => ∃ v : Bool, r = .returned (.bool v) ∧ Only g w w' ∧ WireMeth.Ends (rdI 0 1 2 Z) (fun e => v = false ∧ WireRS.Src w' g (.slice A Z.length cap) e) (fun x Y => v = (x == 1) ∧ WireRS.Here w' g B Y) := by
  have HR := Lib.hid (raw_m g B cap A Z 0 1 2 w hf (by decide))
  clear hf
  go_enter Try.func44, Try.ntmps44
  go_wp2_with (fail)
  refine HR.out.mono ?_
  rintro r w1 ⟨v, rfl, ho, hend⟩
  have HO := Lib.hid ho
  have HE := Lib.hid hend
  clear ho hend
  go_wp2
  go_ret
  exact ⟨_, rfl, HO.out, ends_imp HE.out (fun e h => ⟨by rw [h.1]; rfl, h.2⟩) fun x Y h => ⟨by rw [h.1], h.2⟩⟩

theorem fail_any (g : Nat) (A : Option Addr) (n cap : Nat) (e : Int) (v : Value) (k : Int) (w : World) (hs : WireRS.Src w g v k) :
    Calls Try.prog 59 #[.pointer (some ⟨g, 0, none⟩), .slice A n cap, .int .i64 e] w fun r w' => r = .returned (.tuple #[]) ∧ Only g w w' ∧ WireRS.Src w' g (.slice A n cap) e := by
  have c0 := hs.rest
  have c1 := hs.err
  have f0 := hs.free 0
  have f1 := hs.free 1
  have hlt := hs.lt
  have HS := Lib.hid hs
  clear hs
  go_enter Try.func59, Try.ntmps59
  go_wp2
  go_end0
  exact ⟨rfl, (WireSrc.Only.set 0 _).trans (WireSrc.Only.set 1 _), (HS.out.setRest _).setErr e⟩

end Go.Proofs.Ytcibkgmochikmaa.WireRMeth
