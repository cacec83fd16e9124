/- What comes in as parameters of the laws. -/
import Derived.Test.YtgjamefpphhobaaD7P
import Derived.Test.YtgjamefpphhobaaD7L
import Derived.Test.YtgjamefpphhobaaEngUp
namespace Go.Proofs.Ytgjamefpphhobaa.F7U
open Go Go.Proofs.Ytgjamefpphhobaa.Eng Go.Proofs.Ytgjamefpphhobaa Go.RowKit Go.Proofs.Ytgjamefpphhobaa.D7P Go.Proofs.Ytgjamefpphhobaa.D7L
set_option linter.unusedSimpArgs false
set_option linter.unusedVariables false
set_option linter.unusedSectionVars false
set_option maxRecDepth 100000

abbrev b_int (x : Int) : Prop := (Lit.int .i64 x).wf = true
theorem ft_int {n : Nat} {a : List AV} (h : FitsU Try.prog 1048576 n 3 a) : ∃ x : Int, a = [.c (.int .i64 x)] ∧ b_int x := fitU_int Try.underlying3 h

abbrev b_string (x : ByteArray) : Prop := x.size ≤ 1048576
theorem ft_string {n : Nat} {a : List AV} (h : FitsU Try.prog 1048576 n 9 a) : ∃ x : ByteArray, a = [.c (.string x)] ∧ b_string x := fitU_str Try.underlying9 h

abbrev b_api_Coef (x : ByteArray × Int) : Prop := b_string x.1 ∧ b_int x.2
theorem ft_api_Coef {n : Nat} {a : List AV} (h : FitsU Try.prog 1048576 n 71 a) : ∃ x : ByteArray × Int, a = [.c (.string x.1), .c (.int .i64 x.2)] ∧ b_api_Coef x := by
  obtain ⟨m, _, h⟩ := fitU_struct Try.underlying71 h
  obtain ⟨a0, b0, rfl, h0, a1, b1, rfl, h1, rfl⟩ := (h : FitsL _ [_, _] _)
  obtain ⟨x0, rfl, q0⟩ := ft_string h0
  obtain ⟨x1, rfl, q1⟩ := ft_int h1
  exact ⟨(x0, x1), rfl, q0, q1⟩

abbrev b_L_api_Coef (x : List (ByteArray × Int)) : Prop := x.length ≤ 1048576 ∧ ∀ y ∈ x, b_api_Coef y
theorem ft_L_api_Coef {n : Nat} {a : List AV} (h : FitsU Try.prog 1048576 n 24 a) : ∃ x : List (ByteArray × Int), a = [.sl false 2 (x.map e_api_Coef)] ∧ b_L_api_Coef x := by
  obtain ⟨m, es, _, rfl, hl, h⟩ := fitU_slice (c := 2) Try.underlying24 (by kernel_rfl) rfl h
  obtain ⟨l, rfl, h2, h3⟩ := list_ofP (f := e_api_Coef) fun a ha => ft_api_Coef (h a ha)
  exact ⟨l, rfl, by omega, h3⟩

abbrev b_api_Linear (x : Int × (List (ByteArray × Int))) : Prop := b_int x.1 ∧ b_L_api_Coef x.2
theorem ft_api_Linear {n : Nat} {a : List AV} (h : FitsU Try.prog 1048576 n 26 a) : ∃ x : Int × (List (ByteArray × Int)), a = [.c (.int .i64 x.1), .sl false 2 (x.2.map e_api_Coef)] ∧ b_api_Linear x := by
  obtain ⟨m, _, h⟩ := fitU_struct Try.underlying26 h
  obtain ⟨a0, b0, rfl, h0, a1, b1, rfl, h1, rfl⟩ := (h : FitsL _ [_, _] _)
  obtain ⟨x0, rfl, q0⟩ := ft_int h0
  obtain ⟨x1, rfl, q1⟩ := ft_L_api_Coef h1
  exact ⟨(x0, x1), rfl, q0, q1⟩

abbrev b_L_api_Linear (x : List (Int × (List (ByteArray × Int)))) : Prop := x.length ≤ 1048576 ∧ ∀ y ∈ x, b_api_Linear y
theorem ft_L_api_Linear {n : Nat} {a : List AV} (h : FitsU Try.prog 1048576 n 44 a) : ∃ x : List (Int × (List (ByteArray × Int))), a = [.sl false 2 (x.map e_api_Linear)] ∧ b_L_api_Linear x := by
  obtain ⟨m, es, _, rfl, hl, h⟩ := fitU_slice (c := 2) Try.underlying44 (by kernel_rfl) rfl h
  obtain ⟨l, rfl, h2, h3⟩ := list_ofP (f := e_api_Linear) fun a ha => ft_api_Linear (h a ha)
  exact ⟨l, rfl, by omega, h3⟩

abbrev b_L_int (x : List Int) : Prop := x.length ≤ 1048576 ∧ ∀ y ∈ x, b_int y
theorem ft_L_int {n : Nat} {a : List AV} (h : FitsU Try.prog 1048576 n 23 a) : ∃ x : List Int, a = [.sl false 1 (x.map e_int)] ∧ b_L_int x := by
  obtain ⟨m, es, _, rfl, hl, h⟩ := fitU_slice (c := 1) Try.underlying23 (by kernel_rfl) rfl h
  obtain ⟨l, rfl, h2, h3⟩ := list_ofP (f := e_int) fun a ha => ft_int (h a ha)
  exact ⟨l, rfl, by omega, h3⟩

mutual
def b_api_Cert : T_api_Cert → Prop
  | ⟨a0, a1, a2, a3⟩ => b_int a0 ∧ b_L_int a1 ∧ b_api_Linear a2 ∧ (a3.length ≤ 1048576 ∧ bs_api_Cert a3)
def bs_api_Cert : List T_api_Cert → Prop
  | [] => True
  | x :: l => b_api_Cert x ∧ bs_api_Cert l
end
theorem bs_api_Cert_is : ∀ l, bs_api_Cert l ↔ ∀ y ∈ l, b_api_Cert y
  | [] => by simp [bs_api_Cert]
  | x :: l => by simp [bs_api_Cert, bs_api_Cert_is l]
theorem b_api_Cert_is (x : T_api_Cert) : b_api_Cert x ↔ b_int x.f0 ∧ b_L_int x.f1 ∧ b_api_Linear x.f2 ∧ (x.f3.length ≤ 1048576 ∧ ∀ y ∈ x.f3, b_api_Cert y) := by
  cases x
  simp only [b_api_Cert, bs_api_Cert_is]
theorem ft_api_Cert : ∀ (n : Nat) {a : List AV}, FitsU Try.prog 1048576 n 29 a → ∃ x : T_api_Cert, a = e_api_Cert x ∧ b_api_Cert x
  | n, a, h => by
    obtain ⟨m, hm, h⟩ := fitU_struct Try.underlying29 h
    obtain ⟨a0, b0, rfl, h0, a1, b1, rfl, h1, a2, b2, rfl, h2, a3, b3, rfl, h3, rfl⟩ := (h : FitsL _ [_, _, _, _] _)
    obtain ⟨x0, rfl, q0⟩ := ft_int h0
    obtain ⟨x1, rfl, q1⟩ := ft_L_int h1
    obtain ⟨x2, rfl, q2⟩ := ft_api_Linear h2
    obtain ⟨m3, es3, hm3, rfl, hl3, h3⟩ := fitU_slice (c := 5) Try.underlying27 (by kernel_rfl) rfl h3
    obtain ⟨x3, rfl, r3, s3⟩ := list_ofP (f := e_api_Cert) fun a ha => ft_api_Cert m3 (h3 a ha)
    have q3 : x3.length ≤ 1048576 ∧ ∀ y ∈ x3, b_api_Cert y := ⟨by omega, s3⟩
    refine ⟨⟨x0, x1, x2, x3⟩, ?_, (b_api_Cert_is _).2 ⟨q0, q1, q2, q3⟩⟩
    rw [e_api_Cert_is]
    rfl
termination_by n => n
decreasing_by all_goals omega

end Go.Proofs.Ytgjamefpphhobaa.F7U
