/- Linear expressions: values, names, sums; their arithmetic. -/
import Derived.Test.YtjgaebomcdkohaaGreatDoorEng
import Derived.Test.YtjgaebomcdkohaaGreatDoorTy
import Derived.Test.YtjgaebomcdkohaaGreatDoorBase
import Derived.Laws.EntriesVeiled
namespace Go.Proofs.YtjgaebomcdkohaaGreatDoor.L1
open Go Go.Proofs.YtjgaebomcdkohaaGreatDoor.Eng Go.Proofs.YtjgaebomcdkohaaGreatDoor Go.RowKit
set_option linter.unusedSimpArgs false
set_option linter.unusedVariables false
set_option linter.unusedSectionVars false
set_option maxRecDepth 100000

abbrev I (n : Int) : AV := .c (.int .i64 n)
abbrev B (b : Bool) : AV := .c (.bool b)
abbrev S (s : ByteArray) : AV := .c (.string s)
abbrev U (n : Int) : AV := .c (.int .u8 n)
abbrev W (n : Int) : Int := IntKind.i64.wrap n
abbrev Tm := ByteArray × Int
abbrev tmV (t : Tm) : List AV := [S t.1, I t.2]
abbrev tms (ts : List Tm) : AV := .sl false 2 (ts.map tmV)
abbrev ln (c : Int) (ts : List Tm) : AV := .agg [I c, tms ts]

theorem wrap_in {x : Int} (h1 : -9223372036854775808 ≤ x) (h2 : x ≤ 9223372036854775807) : IntKind.i64.wrap x = x := by
  rw [IntKind.wrap_i64]; omega

abbrev bs (s : ByteArray) : List UInt8 := s.data.toList
theorem bs_size (s : ByteArray) : (bs s).length = s.size := Array.length_toList
theorem bs_get (s : ByteArray) (k : Nat) : s[k]? = (bs s)[k]? := by
  by_cases h : k < s.size
  · have h' : k < s.data.size := h
    rw [getElem?_pos s k h]
    show some (s.data[k]'h') = _
    simp [bs, h']
  · have h' : ¬ k < s.data.size := h
    rw [getElem?_neg s k h]
    simp [bs]
    exact Nat.le_of_not_lt h'
theorem bs_inj {a b : ByteArray} (h : bs a = bs b) : a = b := by
  cases a; cases b
  simp only [bs] at h
  rw [Array.toList_inj.1 h]

/-! Names. -/
def letterI (n : Int) : Bool := decide (97 ≤ n) && decide (n ≤ 122)
def digI (n : Int) : Bool := decide (48 ≤ n) && decide (n ≤ 57)
def nbI (n : Int) : Bool := letterI n || digI n
def spanN (p : Int → Bool) (l : List UInt8) : Nat := (l.takeWhile fun b => p b.toNat).length
theorem spanN_le (p : Int → Bool) (l : List UInt8) : spanN p l ≤ l.length := (List.takeWhile_prefix _).length_le
def hd (l : List UInt8) : Int := match l with | [] => 0 | b :: _ => b.toNat
def nameL (l : List UInt8) : Bool :=
  if 1 < l.length ∧ hd l = 95 then !decide (hd (l.drop 1) = 48) && (decide (l.length - 1 ≤ 9) && decide (1 + spanN digI (l.drop 1) = l.length))
  else decide (0 < l.length) && (decide (l.length ≤ 30) && (letterI (hd l) && decide (1 + spanN nbI (l.drop 1) = l.length)))
abbrev nameE (s : ByteArray) : Bool := nameL (bs s)
def fitsI (n : Int) : Bool := decide (-1000000 ≤ n) && decide (n ≤ 1000000)

/-! What is valid. -/
def ltS (a b : ByteArray) : Bool := Op.bytesLess a.toList b.toList
def termsE : Option ByteArray → List Tm → Bool
  | _, [] => true
  | p, t :: r => !decide (t.2 = 0) && (fitsI t.2 && (nameE t.1 && ((match p with | none => true | some q => ltS q t.1) && termsE (some t.1) r)))
theorem termsE_cons (p : Option ByteArray) (t : Tm) (r : List Tm) : termsE p (t :: r) = (!decide (t.2 = 0) && (fitsI t.2 && (nameE t.1 && ((match p with | none => true | some q => ltS q t.1) && termsE (some t.1) r)))) := by cases p <;> rfl
def validE (c : Int) (ts : List Tm) : Bool := fitsI c && (decide (ts.length ≤ 12) && termsE none ts)

/-! Sums: the terms in the order in which they came. -/
def aget (v : ByteArray) : List Tm → Int
  | [] => 0
  | t :: r => if t.1 = v then t.2 else aget v r
def aput (v : ByteArray) (x : Int) : List Tm → List Tm
  | [] => [(v, x)]
  | t :: r => if t.1 = v then (v, x) :: r else t :: aput v x r
def addT (k : Int) : List Tm → List Tm → List Tm
  | [], cs => cs
  | t :: r, cs => addT k r (aput t.1 (W (aget t.1 cs + W (k * t.2))) cs)
/-- The map of a sum. -/
def ents (cs : List Tm) : List (MK × AV) := cs.map fun t => (.s t.1, I t.2)
theorem mget_ents (v : ByteArray) : ∀ cs : List Tm, (mget (.s v) (ents cs) = none ∧ aget v cs = 0) ∨ mget (.s v) (ents cs) = some (I (aget v cs))
  | [] => Or.inl ⟨rfl, rfl⟩
  | t :: r => by
    simp only [ents, List.map_cons, mget, aget, MK.s.injEq]
    by_cases h : t.1 = v
    · rw [if_pos h, if_pos h]; exact Or.inr rfl
    · rw [if_neg h, if_neg h]; exact mget_ents v r
theorem look_ents (v : ByteArray) (cs : List Tm) (K : AV → Prop) : lookK false (I 0) K (mget (.s v) (ents cs)) = K (I (aget v cs)) := by
  rcases mget_ents v cs with ⟨h1, h2⟩ | h
  · rw [h1, h2, lookK_nf]
  · rw [h, lookK_sf]
theorem mput_ents (v : ByteArray) (x : Int) : ∀ cs : List Tm, mput (.s v) (I x) (ents cs) = ents (aput v x cs)
  | [] => rfl
  | t :: r => by
    simp only [ents, List.map_cons, mput, aput, MK.s.injEq]
    by_cases h : t.1 = v
    · rw [if_pos h, if_pos h]; rfl
    · rw [if_neg h, if_neg h, List.map_cons]
      congr 1
      exact mput_ents v x r
def keysD (cs : List Tm) : Prop := (cs.map (·.1)).Nodup
theorem aput_keys (v : ByteArray) (x : Int) : ∀ cs : List Tm, (v ∈ cs.map (·.1) ∧ (aput v x cs).map (·.1) = cs.map (·.1)) ∨ (v ∉ cs.map (·.1) ∧ (aput v x cs).map (·.1) = cs.map (·.1) ++ [v])
  | [] => Or.inr ⟨by simp, by simp [aput]⟩
  | t :: r => by
    simp only [aput]
    by_cases h : t.1 = v
    · rw [if_pos h]; exact Or.inl ⟨by simp [h], by simp [h]⟩
    · rw [if_neg h]
      have h' : ¬ v = t.1 := fun e => h e.symm
      rcases aput_keys v x r with ⟨h1, h2⟩ | ⟨h1, h2⟩
      · exact Or.inl ⟨List.mem_cons_of_mem _ h1, by rw [List.map_cons, h2]; rfl⟩
      · refine Or.inr ⟨fun hm => ?_, by rw [List.map_cons, h2]; rfl⟩
        rcases List.mem_cons.1 hm with hm | hm
        · exact h' hm
        · exact h1 hm
theorem aput_d {v : ByteArray} {x : Int} {cs : List Tm} (h : keysD cs) : keysD (aput v x cs) := by
  unfold keysD at *
  rcases aput_keys v x cs with ⟨_, h2⟩ | ⟨h1, h2⟩
  · rw [h2]; exact h
  · rw [h2]
    exact List.nodup_append.2 ⟨h, by simp, fun a ha b hb => by simp at hb; subst hb; exact fun e => h1 (e ▸ ha)⟩
theorem addT_d (k : Int) : ∀ (ts : List Tm) {cs : List Tm}, keysD cs → keysD (addT k ts cs)
  | [], _, h => h
  | t :: r, _, h => addT_d k r (aput_d h)
theorem aput_len (v : ByteArray) (x : Int) (cs : List Tm) : (aput v x cs).length ≤ cs.length + 1 := by
  rcases aput_keys v x cs with ⟨_, h⟩ | ⟨_, h⟩ <;>
  · have := congrArg List.length h
    simp at this
    omega
theorem addT_len (k : Int) : ∀ (ts cs : List Tm), (addT k ts cs).length ≤ cs.length + ts.length
  | [], cs => by simp [addT]
  | t :: r, cs => by
    have h1 := addT_len k r (aput t.1 (W (aget t.1 cs + W (k * t.2))) cs)
    have h2 := aput_len t.1 (W (aget t.1 cs + W (k * t.2))) cs
    simp only [addT, List.length_cons]
    omega

/-! Sorted keys. -/
abbrev ofL (l : List UInt8) : ByteArray := ⟨l.toArray⟩
theorem ofL_bs (s : ByteArray) : ofL (bs s) = s := by simp [ofL, bs]
theorem bs_ofL (l : List UInt8) : bs (ofL l) = l := by simp [ofL, bs]
def sortK (cs : List Tm) : List ByteArray := ((cs.map fun t => bs t.1).mergeSort leB).map ofL
theorem sorted_ents (cs : List Tm) : ((sortedK (ents cs)).map fun k => [AV.c (Proofs.encStr k)]) = (sortK cs).map fun v => [S v] := by
  unfold sortedK sortK ents
  rw [List.map_map, List.map_map]
  rfl
def linT (cs : List Tm) : List Tm := (sortK cs).filterMap fun v => if aget v cs = 0 then none else some (v, aget v cs)
/-- What a sum comes to: an expression and an error. -/
def linearE (c : Int) (cs : List Tm) : (Int × List Tm) × Int := if validE c (linT cs) = true then ((c, linT cs), 0) else ((0, []), 3)
abbrev linR (r : (Int × List Tm) × Int) : AV := .tup [ln r.1.1 r.1.2, I r.2]
def addC (c0 k c : Int) : Int := W (c0 + W (k * c))
def combineE (a b : Int × List Tm) (k : Int) : (Int × List Tm) × Int :=
  if (!validE a.1 a.2 || !validE b.1 b.2) = true then ((0, []), 1)
  else linearE (addC (addC 0 1 a.1) k b.1) (addT k b.2 (addT 1 a.2 []))

end Go.Proofs.YtjgaebomcdkohaaGreatDoor.L1
