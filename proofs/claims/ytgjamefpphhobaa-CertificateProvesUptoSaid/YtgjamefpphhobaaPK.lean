/- Loops of functions of values: what they come to. -/
import Derived.Test.YtgjamefpphhobaaEngD
namespace Go.Proofs.Ytgjamefpphhobaa.PK
open Go Go.Proofs.Ytgjamefpphhobaa.Eng Go.Proofs.Ytgjamefpphhobaa Go.RowKit
set_option linter.unusedSimpArgs false
set_option linter.unusedVariables false
set_option linter.unusedSectionVars false

section
variable {S R A : Type}
abbrev on (V : S → Option (S ⊕ R)) : St S R → Option (S ⊕ R) := St.on V (fun s' => some (.inl s')) (fun r => some (.inr r))
theorem on_nx (V : S → Option (S ⊕ R)) (s : S) : on V (.nx s) = V s := rfl
theorem on_br (V : S → Option (S ⊕ R)) (s : S) : on V (.br s) = some (.inl s) := rfl
theorem on_rt (V : S → Option (S ⊕ R)) (r : R) : on V (.rt r) = some (.inr r) := rfl

theorem forI_val {f : Nat → S → Option (St S R)} {n : Nat} (V : Nat → S → Option (S ⊕ R)) (I : Nat → S → Prop)
    (h0 : ∀ s, I n s → V n s = some (.inl s))
    (h1 : ∀ k s, k < n → I k s → V k s = (f k s).bind (on (V (k + 1))))
    (hI : ∀ k s s', k < n → I k s → f k s = some (.nx s') → I (k + 1) s') : ∀ (m k : Nat) (s : S), k + m = n → I k s → forI f m k s = V k s
  | 0, k, s, hk, hs => by
    obtain rfl : k = n := by omega
    rw [h0 s hs]; rfl
  | m + 1, k, s, hk, hs => by
    rw [forI, h1 k s (by omega) hs]
    cases hf : f k s with
    | none => rfl
    | some x =>
      cases x with
      | nx s' => exact forI_val V I h0 h1 hI m (k + 1) s' (by omega) (hI k s s' (by omega) hs hf)
      | br s' => rfl
      | rt r => rfl
theorem forC_val {f : Nat → S → Option (St S R)} {n : Nat} {s : S} (hn : n ≤ 9223372036854775807) (V : Nat → S → Option (S ⊕ R)) (I : Nat → S → Prop) (hs : I 0 s)
    (h0 : ∀ s, I n s → V n s = some (.inl s))
    (h1 : ∀ k s, k < n → I k s → V k s = (f k s).bind (on (V (k + 1))))
    (hI : ∀ k s s', k < n → I k s → f k s = some (.nx s') → I (k + 1) s') : forC n s f = V 0 s := by
  unfold forC
  rw [if_pos hn]
  exact forI_val V I h0 h1 hI n 0 s (by omega) hs
/-- Round by round along a list. -/
def lrec (F : S → A → Option (St S R)) : List A → S → Option (S ⊕ R)
  | [], s => some (.inl s)
  | x :: l, s => (F s x).bind (on (lrec F l))
theorem forC_list {f : Nat → S → Option (St S R)} {xs : List A} {s : S} (hn : xs.length ≤ 9223372036854775807) (F : S → A → Option (St S R)) (I : S → Prop) (hs : I s)
    (hf : ∀ (k : Nat) (s : S) (x : A), xs[k]? = some x → I s → f k s = F s x)
    (hI : ∀ (s s' : S) (x : A), x ∈ xs → I s → F s x = some (.nx s') → I s') : forC xs.length s f = lrec F xs s := by
  have key := forC_val (f := f) (n := xs.length) (s := s) hn (fun k s => lrec F (xs.drop k) s) (fun _ s => I s) hs (fun s _ => by rw [List.drop_length]; rfl) (fun k s hk hi => by
    have hx : xs[k]? = some xs[k] := List.getElem?_eq_getElem hk
    show lrec F (xs.drop k) s = _
    rw [List.drop_eq_getElem_cons hk, lrec, hf k s _ hx hi]) (fun k s s' hk hi h => by
    have hx : xs[k]? = some xs[k] := List.getElem?_eq_getElem hk
    rw [hf k s _ hx hi] at h
    exact hI s s' _ (List.getElem_mem hk) hi h)
  rw [key, List.drop_zero]
/-- A loop that asks each. -/
theorem forC_all {f : Nat → S → Option (St S R)} {xs : List A} {s : S} {r : R} (hn : xs.length ≤ 9223372036854775807) (p : A → Bool)
    (hf : ∀ (k : Nat) (x : A), xs[k]? = some x → f k s = some (if p x = true then .nx s else .rt r)) : forC xs.length s f = some (if xs.all p = true then .inl s else .inr r) := by
  rw [forC_list hn (fun s' x => some (if p x = true then .nx s else .rt r)) (fun s' => s' = s) rfl (fun k s' x hx e => by subst e; exact hf k x hx) (fun s1 s2 x _ e h => by
    subst e
    split at h <;> simp at h
    exact h.symm)]
  clear hf hn
  induction xs with
  | nil => rfl
  | cons x l ih =>
    rw [lrec, List.all_cons]
    cases h : p x with
    | false => simp [on, St.on]
    | true => simpa [on, St.on] using ih
/-- A loop that turns a value by each. -/
theorem forC_fold {f : Nat → S → Option (St S R)} {xs : List A} {s : S} (hn : xs.length ≤ 9223372036854775807) (g : S → A → S) (I : S → Prop) (hs : I s)
    (hf : ∀ (k : Nat) (s : S) (x : A), xs[k]? = some x → I s → f k s = some (.nx (g s x)))
    (hI : ∀ (s : S) (x : A), x ∈ xs → I s → I (g s x)) : forC xs.length s f = some (.inl (xs.foldl g s)) := by
  rw [forC_list hn (fun s x => some (.nx (g s x))) I hs hf (fun s s' x hx hi h => by
    simp at h
    subst h
    exact hI s x hx hi)]
  clear hf hn hI hs
  induction xs generalizing s with
  | nil => rfl
  | cons x l ih =>
    rw [lrec]
    exact ih

theorem whlI_val {f : S → Option (St S R)} (V : S → Option (S ⊕ R)) (I : S → Prop) (μ : S → Nat)
    (h1 : ∀ s, I s → V s = (f s).bind (on V))
    (hI : ∀ s s', I s → f s = some (.nx s') → I s' ∧ μ s' < μ s) : ∀ (m : Nat) (s : S), I s → μ s < m → whlI f m s = V s
  | 0, s, _, h => by omega
  | m + 1, s, hs, hm => by
    rw [whlI, h1 s hs]
    cases hf : f s with
    | none => rfl
    | some x =>
      cases x with
      | nx s' =>
        obtain ⟨a, b⟩ := hI s s' hs hf
        exact whlI_val V I μ h1 hI m s' a (by omega)
      | br s' => rfl
      | rt r => rfl
theorem whlC_val {f : S → Option (St S R)} {s : S} (V : S → Option (S ⊕ R)) (I : S → Prop) (μ : S → Nat) (hs : I s) (hm : μ s < 18446744073709551616)
    (h1 : ∀ s, I s → V s = (f s).bind (on V))
    (hI : ∀ s s', I s → f s = some (.nx s') → I s' ∧ μ s' < μ s) : whlC s f = V s := whlI_val V I μ h1 hI _ s hs hm
theorem forI_inv {f : Nat → S → Option (St S R)} {n : Nat} (I : Nat → S → Prop)
    (h : ∀ k s, k < n → I k s → ∃ s', f k s = some (.nx s') ∧ I (k + 1) s') : ∀ (m k : Nat) (s : S), k + m = n → I k s → ∃ s', forI f m k s = some (.inl s') ∧ I n s'
  | 0, k, s, hk, hs => by
    obtain rfl : k = n := by omega
    exact ⟨s, rfl, hs⟩
  | m + 1, k, s, hk, hs => by
    obtain ⟨s', h1, h2⟩ := h k s (by omega) hs
    rw [forI, h1]
    exact forI_inv I h m (k + 1) s' (by omega) h2
/-- A loop that goes to its end. -/
theorem forC_inv {f : Nat → S → Option (St S R)} {n : Nat} {s : S} (hn : n ≤ 9223372036854775807) (I : Nat → S → Prop) (hs : I 0 s)
    (h : ∀ k s, k < n → I k s → ∃ s', f k s = some (.nx s') ∧ I (k + 1) s') : ∃ s', forC n s f = some (.inl s') ∧ I n s' := by
  unfold forC
  rw [if_pos hn]
  exact forI_inv I h n 0 s (by omega) hs
theorem whlI_inv {f : S → Option (St S R)} (I : S → Prop) (J : S → Prop) (μ : S → Nat)
    (h : ∀ s, I s → (∃ s', f s = some (.nx s') ∧ I s' ∧ μ s' < μ s) ∨ ∃ s', f s = some (.br s') ∧ J s') : ∀ (m : Nat) (s : S), I s → μ s < m → ∃ s', whlI f m s = some (.inl s') ∧ J s'
  | 0, s, _, h => by omega
  | m + 1, s, hs, hm => by
    rcases h s hs with ⟨s', h1, h2, h3⟩ | ⟨s', h1, h2⟩
    · rw [whlI, h1]
      exact whlI_inv I J μ h m s' h2 (by omega)
    · exact ⟨s', by rw [whlI, h1]; rfl, h2⟩
theorem whlC_inv {f : S → Option (St S R)} {s : S} (I : S → Prop) (J : S → Prop) (μ : S → Nat) (hs : I s) (hm : μ s < 18446744073709551616)
    (h : ∀ s, I s → (∃ s', f s = some (.nx s') ∧ I s' ∧ μ s' < μ s) ∨ ∃ s', f s = some (.br s') ∧ J s') : ∃ s', whlC s f = some (.inl s') ∧ J s' := whlI_inv I J μ h _ s hs hm
end
theorem idxO_nat {α : Type} (l : List α) (n : Nat) : idxO l (n : Int) = l[n]? := by
  unfold idxO
  rw [if_pos (Int.natCast_nonneg n), Int.toNat_natCast]
theorem idxB_nat (s : ByteArray) (n : Nat) : idxB s (n : Int) = s[n]? := by
  unfold idxB
  rw [if_pos (Int.natCast_nonneg n), Int.toNat_natCast]
theorem iffO_t {α : Type} {c : Bool} {x : Option α} (h : c = true) : iffO c x = x := if_pos h
theorem iffO_d {α : Type} {p : Prop} [Decidable p] {x : Option α} (h : p) : iffO (decide p) x = x := if_pos (decide_eq_true h)
theorem elim_l {α β γ : Type} (f : α → γ) (g : β → γ) (a : α) : Sum.elim f g (.inl a) = f a := rfl
theorem elim_r {α β γ : Type} (f : α → γ) (g : β → γ) (b : β) : Sum.elim f g (.inr b) = g b := rfl
theorem bind_s {α β : Type} (a : α) (f : α → Option β) : (some a).bind f = f a := rfl

end Go.Proofs.Ytgjamefpphhobaa.PK
