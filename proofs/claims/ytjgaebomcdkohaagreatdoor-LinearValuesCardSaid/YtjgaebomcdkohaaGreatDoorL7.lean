/- Linear expressions: one sorted list; parsing, as a function of bytes. -/
import Derived.Test.YtjgaebomcdkohaaGreatDoorL1
namespace Go.Proofs.YtjgaebomcdkohaaGreatDoor.L7
open Go Go.Proofs.YtjgaebomcdkohaaGreatDoor.Eng Go.Proofs.YtjgaebomcdkohaaGreatDoor Go.RowKit Go.Proofs.YtjgaebomcdkohaaGreatDoor.L1
set_option linter.unusedSimpArgs false
set_option linter.unusedVariables false
set_option linter.unusedSectionVars false
set_option maxRecDepth 100000

/-! One sorted list. -/
def insL (k : List UInt8) : List (List UInt8) → List (List UInt8)
  | [] => [k]
  | x :: r => if leB k x = true then k :: x :: r else x :: insL k r
def isort (l : List (List UInt8)) : List (List UInt8) := l.foldr insL []
theorem leB_tr (a b c : List UInt8) (h1 : leB a b = true) (h2 : leB b c = true) : leB a c = true := by
  simp only [leB, decide_eq_true_eq] at *; exact List.le_trans h1 h2
theorem leB_to (a b : List UInt8) : (leB a b || leB b a) = true := by
  simp only [leB, Bool.or_eq_true, decide_eq_true_eq]; exact List.le_total a b
theorem leB_as {a b : List UInt8} (h1 : leB a b = true) (h2 : leB b a = true) : a = b := by
  simp only [leB, decide_eq_true_eq] at *; exact List.le_antisymm h1 h2
theorem insL_perm (k : List UInt8) : ∀ l, (insL k l).Perm (k :: l)
  | [] => .refl _
  | x :: r => by
    unfold insL
    split
    · exact .refl _
    · exact ((insL_perm k r).cons x).trans (.swap k x r)
theorem isort_perm : ∀ l, (isort l).Perm l
  | [] => .refl _
  | k :: l => (insL_perm k _).trans ((isort_perm l).cons k)
theorem insL_sorted (k : List UInt8) : ∀ l, l.Pairwise (fun a b => leB a b = true) → (insL k l).Pairwise (fun a b => leB a b = true)
  | [], _ => by simp [insL]
  | x :: r, h => by
    obtain ⟨h1, h2⟩ := List.pairwise_cons.1 h
    unfold insL
    split
    · rename_i hk
      exact List.pairwise_cons.2 ⟨fun y hy => (List.mem_cons.1 hy).elim (fun e => e ▸ hk) (fun hy => leB_tr _ _ _ hk (h1 y hy)), h⟩
    · rename_i hk
      have hx : leB x k = true := by
        have := leB_to k x
        rcases Bool.or_eq_true_iff.1 this with h | h
        · exact absurd h hk
        · exact h
      refine List.pairwise_cons.2 ⟨fun y hy => ?_, insL_sorted k r h2⟩
      rcases List.mem_cons.1 ((insL_perm k r).mem_iff.1 hy) with rfl | hy
      · exact hx
      · exact h1 y hy
theorem isort_sorted : ∀ l, (isort l).Pairwise (fun a b => leB a b = true)
  | [] => List.Pairwise.nil
  | k :: l => insL_sorted k _ (isort_sorted l)
theorem sorted_one {l l' : List (List UInt8)} (hp : l.Perm l') (h : l.Pairwise (fun a b => leB a b = true)) (h' : l'.Pairwise (fun a b => leB a b = true)) : l = l' :=
  List.Perm.eq_of_pairwise (le := fun a b => leB a b = true) (fun a b _ _ h1 h2 => leB_as h1 h2) h h' hp
theorem mergeSort_isort (l : List (List UInt8)) : l.mergeSort leB = isort l :=
  sorted_one ((List.mergeSort_perm l leB).trans (isort_perm l).symm) (List.pairwise_mergeSort leB_tr leB_to l) (isort_sorted l)
theorem sortK_is (cs : List Tm) : sortK cs = (isort (cs.map fun t => bs t.1)).map ofL := by
  unfold sortK; rw [mergeSort_isort]

/-! Parsing. -/
def trimE (l : List UInt8) : List UInt8 := l.dropWhile fun b => b == 32
def varE (l : List UInt8) : Option (List UInt8 × List UInt8) :=
  let e := if hd l = 95 then 1 + spanN nbI (l.drop 1) else spanN nbI l
  if nameL (l.take e) = true then some (l.take e, l.drop e) else none
def numE (l : List UInt8) : Int := l.foldl (fun n b => 10 * n + (b.toNat - 48)) 0
def addS (k c : Int) (ts : List Tm) (st : Int × List Tm) : Int × List Tm := (addC st.1 k c, addT k ts st.2)
def oneV (v : List UInt8) : List Tm := [(ofL v, 1)]
def itemE (sg : Int) (l : List UInt8) (st : Int × List Tm) : Option (List UInt8 × (Int × List Tm)) :=
  if spanN digI l = 0 ∨ 7 < spanN digI l ∨ (1 < spanN digI l ∧ hd l = 48) then
    (varE l).map fun p => (trimE p.2, addS sg 0 (oneV p.1) st)
  else match varE (l.drop (spanN digI l)) with
    | some p => some (trimE p.2, addS (W (sg * numE (l.take (spanN digI l)))) 0 (oneV p.1) st)
    | none =>
      if hd (trimE (l.drop (spanN digI l))) = 42 then
        (varE (trimE ((trimE (l.drop (spanN digI l))).drop 1))).map fun p => (trimE p.2, addS (W (sg * numE (l.take (spanN digI l)))) 0 (oneV p.1) st)
      else some (trimE (trimE (l.drop (spanN digI l))), addS sg (numE (l.take (spanN digI l))) [] st)
def signedE (first : Bool) (l : List UInt8) : Option (Int × List UInt8) :=
  if hd l = 45 then some (-1, trimE (l.drop 1)) else if hd l = 43 then some (1, trimE (l.drop 1)) else if first = true then some (1, l) else none
def parseL : Nat → Bool → List UInt8 → Int × List Tm → Option (Int × List Tm)
  | 0, _, _, _ => none
  | n + 1, first, l, st =>
    if first = false ∧ l = [] then some st
    else match signedE first l with
      | none => none
      | some p => match itemE p.1 p.2 st with
        | none => none
        | some q => parseL n false q.1 q.2
def parseE (s : List UInt8) : (Int × List Tm) × Int :=
  match parseL (s.length + 1) true (trimE s) (0, []) with
  | none => ((0, []), 6)
  | some st => linearE st.1 st.2

theorem ofL_size (l : List UInt8) : (ofL l).size = l.length := by simp [ofL, ByteArray.size]
theorem ofL_get (l : List UInt8) (k : Nat) : (ofL l)[k]? = l[k]? := by rw [bs_get, bs_ofL]
theorem ofL_ext (l : List UInt8) (a b : Nat) : (ofL l).extract a b = ofL ((l.take b).drop a) := by
  apply bs_inj
  rw [bs_ofL]
  simp [bs, ByteArray.data_extract, List.drop_take]
theorem ofL_toList (l : List UInt8) : (ofL l).toList = l := by rw [ByteArray.toList_eq]
theorem spanN_le' (p : Int → Bool) (l : List UInt8) (k : Nat) : spanN p (l.drop k) ≤ l.length - k := by
  have := spanN_le p (l.drop k); simpa using this

end Go.Proofs.YtjgaebomcdkohaaGreatDoor.L7
