/- What was written is read again; what was cut is not. -/
import Derived.Test.YtcibkgmochikmaaWireMeth3
namespace Go.Proofs.Ytcibkgmochikmaa.WireBack
set_option linter.unusedVariables false
open Go.RowKit Go.Proofs.Ytcibkgmochikmaa.WireBase Go.Proofs.Ytcibkgmochikmaa.WireInt Go.Proofs.Ytcibkgmochikmaa.WireAppend Go.Proofs.Ytcibkgmochikmaa.WireOrd Go.Proofs.Ytcibkgmochikmaa.WireRead Go.Proofs.Ytcibkgmochikmaa.WireParse Go.Proofs.Ytcibkgmochikmaa.WireSrc Go.Proofs.Ytcibkgmochikmaa.WireCode Go.Proofs.Ytcibkgmochikmaa.WireCanon Go.Proofs.Ytcibkgmochikmaa.WireText Go.Proofs.Ytcibkgmochikmaa.WireRd Go.Proofs.Ytcibkgmochikmaa.WireLst Go.Proofs.Ytcibkgmochikmaa.WireMeth

theorem rdI_enc (lo hi e n : Int) (hn : isI n) (R : List Int) (h : lo ≤ n ∧ n ≤ hi) : rdI lo hi e (enc n ++ R) = .ok (n, R) := by
  unfold rdI
  rw [enc_dec n hn R]
  show (if lo ≤ n ∧ n ≤ hi then Except.ok (n, (enc n ++ R).drop (((enc n).length : Nat) : Int).toNat) else Except.error e) = _
  rw [if_pos h, Int.toNat_natCast, List.drop_left]

theorem rdI_out (lo hi e n : Int) (hn : isI n) (R : List Int) (h : ¬ (lo ≤ n ∧ n ≤ hi)) : rdI lo hi e (enc n ++ R) = .error e := by
  unfold rdI
  rw [enc_dec n hn R]
  exact if_neg h

theorem txt_back (s : ByteArray) : strOfNums (bytesL s) = s := by
  apply ByteArray.ext
  apply Array.ext'
  rw [strOfNums_data]
  unfold bytesL
  rw [List.map_map]
  refine (List.map_congr_left fun b _ => ?_).trans (List.map_id _)
  show UInt8.ofNat ((b.toNat : Nat) : Int).toNat = b
  rw [Int.toNat_natCast, UInt8.ofNat_toNat]

theorem rdT_enc (most : Int) (s : ByteArray) (R : List Int) (h : (s.size : Int) ≤ most) (hs : s.size ≤ 100000) : rdT most (encT s ++ R) = .ok (s, R) := by
  unfold rdT encT
  rw [List.append_assoc, rdI_enc 0 most 3 _ ⟨by omega, by omega⟩ _ ⟨by omega, h⟩]
  show (if ((s.size : Nat) : Int) ≤ (bytesL s ++ R).length then Except.ok (strOfNums ((bytesL s ++ R).take ((s.size : Nat) : Int).toNat), (bytesL s ++ R).drop ((s.size : Nat) : Int).toNat) else Except.error 4) = _
  rw [if_pos (by rw [List.length_append, bytesL_length]; omega), Int.toNat_natCast, ← bytesL_length, List.take_left, List.drop_left, txt_back]

theorem rdN_both {α : Type} {take : List Int → Except Int (α × List Int)} {n : Nat} {Z Y Y' : List Int} {x : α} {xs : List α} (h : take Z = .ok (x, Y)) (h2 : rdN take n Y = .ok (xs, Y')) : rdN take (n + 1) Z = .ok (x :: xs, Y') := by simp only [rdN, h, h2]
theorem rdN_first {α : Type} {take : List Int → Except Int (α × List Int)} {n : Nat} {Z : List Int} {e : Int} (h : take Z = .error e) : rdN take (n + 1) Z = .error e := by simp only [rdN, h]
theorem rdN_second {α : Type} {take : List Int → Except Int (α × List Int)} {n : Nat} {Z Y : List Int} {x : α} {e : Int} (h : take Z = .ok (x, Y)) (h2 : rdN take n Y = .error e) : rdN take (n + 1) Z = .error e := by simp only [rdN, h, h2]

theorem rdN_enc {α : Type} (take : List Int → Except Int (α × List Int)) (f : α → List Int) (l : List α) (h : ∀ x ∈ l, ∀ R, take (f x ++ R) = .ok (x, R)) (R : List Int) : rdN take l.length (l.flatMap f ++ R) = .ok (l, R) := by
  induction l with
  | nil => rfl
  | cons a l ih =>
    rw [List.flatMap_cons, List.append_assoc, List.length_cons]
    exact rdN_both (h a (by simp) _) (ih fun x hx => h x (by simp [hx]))

theorem rdL_enc {α : Type} (take : List Int → Except Int (α × List Int)) (f : α → List Int) (l : List α) (most : Int) (hm : ((l.length : Nat) : Int) ≤ most) (hl : l.length ≤ 100000) (h : ∀ x ∈ l, ∀ R, take (f x ++ R) = .ok (x, R)) (R : List Int) :
    rdL take most (enc ((l.length : Nat) : Int) ++ l.flatMap f ++ R) = .ok (l, R) := by
  unfold rdL
  rw [List.append_assoc, rdI_enc 0 most 3 _ ⟨by omega, by omega⟩ _ ⟨by omega, hm⟩]
  show rdN take ((l.length : Nat) : Int).toNat _ = _
  rw [Int.toNat_natCast]
  exact rdN_enc take f l h R

theorem dec_cut (n : Int) (hn : isI n) (p : Nat) (hp : p < (enc n).length) : dec ((enc n).take p) = none := by
  have key : ∀ (c : Int) (neg : Bool) (V : Int), enc n = c :: be (WireAppend.flip neg) V (cnt V).toNat → 0 ≤ V → V < 18446744073709551616 → c = (if neg then 8 - cnt V else 247 + cnt V) → dec ((enc n).take p) = none := by
    intro c neg V he h0 h1 hc
    have r := cnt_range V h0 h1
    rw [he] at hp ⊢
    rw [List.length_cons, be_length] at hp
    cases p with
    | zero => rfl
    | succ p =>
      rw [List.take_succ_cons]
      unfold dec
      rw [if_neg (by simp)]
      have hout : ¬ (8 ≤ (c :: (be (WireAppend.flip neg) V (cnt V).toNat).take p).getD 0 0 ∧ (c :: (be (WireAppend.flip neg) V (cnt V).toNat).take p).getD 0 0 ≤ 247) := by
        show ¬ (8 ≤ c ∧ c ≤ 247)
        cases neg <;> simp at hc <;> omega
      rw [if_neg hout, if_neg]
      unfold ok
      have hk : kOf ((c :: (be (WireAppend.flip neg) V (cnt V).toNat).take p).getD 0 0) = cnt V := by
        show kOf c = _
        unfold kOf
        cases neg <;> simp at hc ⊢ <;> omega
      rw [hk, decide_eq_false]
      · simp
      · rw [List.length_cons, List.length_take, be_length]; omega
  obtain ⟨n1, n2⟩ := hn
  by_cases c1 : n < -120
  · exact key _ true _ (enc_neg n c1) (by omega) (by omega) rfl
  · by_cases c2 : n ≤ 119
    · rw [enc_one n (by omega) c2] at hp ⊢
      obtain rfl : p = 0 := by simpa using hp
      rfl
    · exact key _ false _ (enc_pos n (by omega)) (by omega) (by omega) rfl

/-- The beginning of an integer and what is behind it: cut inside, or behind. -/
theorem rdI_cut (lo hi e n : Int) (hn : isI n) (h : lo ≤ n ∧ n ≤ hi) (R : List Int) (p : Nat) : (p < (enc n).length ∧ rdI lo hi e ((enc n ++ R).take p) = .error 4) ∨ ((enc n).length ≤ p ∧ rdI lo hi e ((enc n ++ R).take p) = .ok (n, R.take (p - (enc n).length))) := by
  by_cases hp : p < (enc n).length
  · refine Or.inl ⟨hp, ?_⟩
    rw [List.take_append_of_le_length (by omega)]
    unfold rdI
    rw [dec_cut n hn p hp]
  · refine Or.inr ⟨by omega, ?_⟩
    rw [List.take_append, List.take_of_length_le (by omega)]
    exact rdI_enc lo hi e n hn _ h

theorem rdT_cut (most : Int) (s : ByteArray) (h : (s.size : Int) ≤ most) (hs : s.size ≤ 100000) (R : List Int) (p : Nat) : (p < (encT s).length ∧ rdT most ((encT s ++ R).take p) = .error 4) ∨ ((encT s).length ≤ p ∧ rdT most ((encT s ++ R).take p) = .ok (s, R.take (p - (encT s).length))) := by
  have hl : (encT s).length = (enc ((s.size : Nat) : Int)).length + s.size := by unfold encT; rw [List.length_append, bytesL_length]
  by_cases hp : p < (encT s).length
  · refine Or.inl ⟨hp, ?_⟩
    have hc := rdI_cut 0 most 3 ((s.size : Nat) : Int) ⟨by omega, by omega⟩ ⟨by omega, h⟩ (bytesL s ++ R) p
    unfold rdT encT
    rw [List.append_assoc]
    rcases hc with ⟨_, h2⟩ | ⟨h1, h2⟩
    · rw [h2]
    · rw [h2]
      refine if_neg ?_
      rw [List.length_take]
      omega
  · refine Or.inr ⟨by omega, ?_⟩
    rw [List.take_append, List.take_of_length_le (by omega)]
    exact rdT_enc most s _ h hs

theorem rdN_cut (most : Int) (l : List ByteArray) (h : ∀ s ∈ l, (s.size : Int) ≤ most ∧ s.size ≤ 100000) : ∀ p, p < (l.flatMap encT).length → rdN (rdT most) l.length ((l.flatMap encT).take p) = .error 4 := by
  induction l with
  | nil => intro p hp; simp at hp
  | cons a l ih =>
    intro p hp
    rw [List.flatMap_cons] at hp ⊢
    have ha := h a (by simp)
    have hc := rdT_cut most a ha.1 ha.2 (l.flatMap encT) p
    rw [List.length_cons]
    rcases hc with ⟨_, h2⟩ | ⟨h1, h2⟩
    · exact rdN_first h2
    · rw [List.length_append] at hp
      exact rdN_second h2 (ih (fun s hs => h s (by simp [hs])) _ (by omega))

/-- A cut list of texts is an error. -/
theorem rdL_cut (most many : Int) (l : List ByteArray) (h : ∀ s ∈ l, (s.size : Int) ≤ most ∧ s.size ≤ 100000) (hm : ((l.length : Nat) : Int) ≤ many) (hl : l.length ≤ 100000) (p : Nat) (hp : p < (enc ((l.length : Nat) : Int) ++ l.flatMap encT).length) :
    rdL (rdT most) many ((enc ((l.length : Nat) : Int) ++ l.flatMap encT).take p) = .error 4 := by
  have hc := rdI_cut 0 many 3 ((l.length : Nat) : Int) ⟨by omega, by omega⟩ ⟨by omega, hm⟩ (l.flatMap encT) p
  unfold rdL
  rcases hc with ⟨_, h2⟩ | ⟨h1, h2⟩
  · rw [h2]
  · rw [h2]
    show rdN (rdT most) ((l.length : Nat) : Int).toNat _ = _
    rw [Int.toNat_natCast]
    rw [List.length_append] at hp
    exact rdN_cut most l h _ (by omega)

end Go.Proofs.Ytcibkgmochikmaa.WireBack
