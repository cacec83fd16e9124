/- Reserved words and names: the reference's walks. -/
import Derived.Test.YtanhljpmknfabaaDoorLexAwake
namespace Go.Proofs.YtanhljpmknfabaaDoor.LexRef1
set_option linter.unusedVariables false
open Go.RowKit Go.Proofs.YtanhljpmknfabaaDoor.LexModel Go.Proofs.YtanhljpmknfabaaDoor.LexMath Go.Proofs.YtanhljpmknfabaaDoor.LexSkip Go.Proofs.YtanhljpmknfabaaDoor.LexTok Go.Proofs.YtanhljpmknfabaaDoor.LexLex Go.Proofs.YtanhljpmknfabaaDoor.LexAwake

set_option maxRecDepth 100000 in
set_option maxHeartbeats 4000000 in
theorem refReserved_any (l : List UInt8) (w : World) : Calls Tryd.prog 18 #[.string (sv l)] w fun e w' => e = .returned (.bool (reserved.contains l)) ∧ w = w' := by
  have f0 : ((sv l).toList == [98, 111, 111, 108]) = (l == [98, 111, 111, 108]) := (by rw [ByteArray.toList_eq]; rfl)
  have f1 : ((sv l).toList == [100, 101, 102]) = (l == [100, 101, 102]) := (by rw [ByteArray.toList_eq]; rfl)
  have f2 : ((sv l).toList == [101, 120, 112, 111, 114, 116]) = (l == [101, 120, 112, 111, 114, 116]) := (by rw [ByteArray.toList_eq]; rfl)
  have f3 : ((sv l).toList == [102, 97, 108, 115, 101]) = (l == [102, 97, 108, 115, 101]) := (by rw [ByteArray.toList_eq]; rfl)
  have f4 : ((sv l).toList == [102, 111, 108, 100]) = (l == [102, 111, 108, 100]) := (by rw [ByteArray.toList_eq]; rfl)
  have f5 : ((sv l).toList == [105, 109, 112, 111, 114, 116]) = (l == [105, 109, 112, 111, 114, 116]) := (by rw [ByteArray.toList_eq]; rfl)
  have f6 : ((sv l).toList == [105, 110]) = (l == [105, 110]) := (by rw [ByteArray.toList_eq]; rfl)
  have f7 : ((sv l).toList == [105, 110, 116]) = (l == [105, 110, 116]) := (by rw [ByteArray.toList_eq]; rfl)
  have f8 : ((sv l).toList == [108, 101, 116]) = (l == [108, 101, 116]) := (by rw [ByteArray.toList_eq]; rfl)
  have f9 : ((sv l).toList == [109, 111, 100, 117, 108, 101]) = (l == [109, 111, 100, 117, 108, 101]) := (by rw [ByteArray.toList_eq]; rfl)
  have f10 : ((sv l).toList == [115, 99, 97, 110]) = (l == [115, 99, 97, 110]) := (by rw [ByteArray.toList_eq]; rfl)
  have f11 : ((sv l).toList == [115, 105, 122, 101]) = (l == [115, 105, 122, 101]) := (by rw [ByteArray.toList_eq]; rfl)
  have f12 : ((sv l).toList == [116, 114, 117, 101]) = (l == [116, 114, 117, 101]) := (by rw [ByteArray.toList_eq]; rfl)
  have f13 : ((sv l).toList == [119, 104, 101, 114, 101]) = (l == [119, 104, 101, 114, 101]) := (by rw [ByteArray.toList_eq]; rfl)
  have HR : Hid (reserved.contains l = ((l == [98, 111, 111, 108]) || ((l == [100, 101, 102]) || ((l == [101, 120, 112, 111, 114, 116]) || ((l == [102, 97, 108, 115, 101]) || ((l == [102, 111, 108, 100]) || ((l == [105, 109, 112, 111, 114, 116]) || ((l == [105, 110]) || ((l == [105, 110, 116]) || ((l == [108, 101, 116]) || ((l == [109, 111, 100, 117, 108, 101]) || ((l == [115, 99, 97, 110]) || ((l == [115, 105, 122, 101]) || ((l == [116, 114, 117, 101]) || ((l == [119, 104, 101, 114, 101])))))))))))))))) := Lib.hid (by
    unfold reserved
    simp only [List.contains_cons, List.contains_nil, Bool.or_false])
  rw [HR.out]
  clear HR
  generalize (l == [98, 111, 111, 108]) = b0 at *
  generalize (l == [100, 101, 102]) = b1 at *
  generalize (l == [101, 120, 112, 111, 114, 116]) = b2 at *
  generalize (l == [102, 97, 108, 115, 101]) = b3 at *
  generalize (l == [102, 111, 108, 100]) = b4 at *
  generalize (l == [105, 109, 112, 111, 114, 116]) = b5 at *
  generalize (l == [105, 110]) = b6 at *
  generalize (l == [105, 110, 116]) = b7 at *
  generalize (l == [108, 101, 116]) = b8 at *
  generalize (l == [109, 111, 100, 117, 108, 101]) = b9 at *
  generalize (l == [115, 99, 97, 110]) = b10 at *
  generalize (l == [115, 105, 122, 101]) = b11 at *
  generalize (l == [116, 114, 117, 101]) = b12 at *
  generalize (l == [119, 104, 101, 114, 101]) = b13 at *
  go_enter Tryd.func18, Tryd.ntmps18
  go_wp2
  all_goals (go_ret; exact ⟨by simp_all, rfl⟩)

theorem small_any (c : UInt8) (w : World) : Calls Tryd.prog 37 #[.int .u8 c.toNat] w fun e w' => e = .returned (.bool (letters.contains c)) ∧ w = w' := by
  rw [letters_iff]
  by_cases h1 : (97 : Int) ≤ c.toNat
  · by_cases h2 : (c.toNat : Int) ≤ 122
    · have e : (decide (97 ≤ c.toNat) && decide (c.toNat ≤ 122)) = true := by simp; omega
      rw [e]
      go_enter Tryd.func37, Tryd.ntmps37
      go_wp2
      go_ret
      exact ⟨rfl, rfl⟩
    · have e : (decide (97 ≤ c.toNat) && decide (c.toNat ≤ 122)) = false := by simp; omega
      rw [e]
      go_enter Tryd.func37, Tryd.ntmps37
      go_wp2
      go_ret
      exact ⟨rfl, rfl⟩
  · have e : (decide (97 ≤ c.toNat) && decide (c.toNat ≤ 122)) = false := by simp; omega
    rw [e]
    go_enter Tryd.func37, Tryd.ntmps37
    go_wp2
    go_ret
    exact ⟨rfl, rfl⟩

theorem digit_any (c : UInt8) (w : World) : Calls Tryd.prog 35 #[.int .u8 c.toNat] w fun e w' => e = .returned (.bool (digits.contains c)) ∧ w = w' := by
  rw [digits_iff]
  by_cases h1 : (48 : Int) ≤ c.toNat
  · by_cases h2 : (c.toNat : Int) ≤ 57
    · have e : (decide (48 ≤ c.toNat) && decide (c.toNat ≤ 57)) = true := by simp; omega
      rw [e]
      go_enter Tryd.func35, Tryd.ntmps35
      go_wp2
      go_ret
      exact ⟨rfl, rfl⟩
    · have e : (decide (48 ≤ c.toNat) && decide (c.toNat ≤ 57)) = false := by simp; omega
      rw [e]
      go_enter Tryd.func35, Tryd.ntmps35
      go_wp2
      go_ret
      exact ⟨rfl, rfl⟩
  · have e : (decide (48 ≤ c.toNat) && decide (c.toNat ≤ 57)) = false := by simp; omega
    rw [e]
    go_enter Tryd.func35, Tryd.ntmps35
    go_wp2
    go_ret
    exact ⟨rfl, rfl⟩

end Go.Proofs.YtanhljpmknfabaaDoor.LexRef1
