/- A walk over values in the place of memory, the third part: why the machine does as the walk says, and the walk's rules. No program is named here. -/
import Derived.Sort.KeysCollected
import Derived.Test.YtgjamefpphhobaaEngB
namespace Go.Proofs.Ytgjamefpphhobaa.Eng
set_option linter.unusedVariables false
set_option linter.unusedSimpArgs false
set_option linter.unusedSectionVars false

-- part 17
section
open RowKit
variable {Y : YT} {X : Bool}

theorem HRel.pad {w0 : World} {ok0 : Nat → Prop} {m : List (Option Nat)} {ok : Nat → Prop} {h : Heap} {w : World} (r : HRel w0 ok0 m ok h w) (k : Nat) : HRel w0 ok0 (m ++ List.replicate k none) ok (h ++ List.replicate k none) w := by
  have up : ∀ (L : Nat) b, m[L]? = some b → (m ++ List.replicate k none)[L]? = some b := fun L b h => by rw [List.getElem?_append_left (List.getElem?_eq_some_iff.1 h).1]; exact h
  have get : ∀ {L b : Nat}, (m ++ List.replicate k none)[L]? = some (some b) → m[L]? = some (some b) := fun {L b} h => by
    rcases app_cases h with h | ⟨_, h⟩
    · exact h
    · rw [List.getElem?_replicate] at h
      split at h <;> cases h
  have hget : ∀ {L : Nat} {b : Blk}, (h ++ List.replicate k none)[L]? = some (some b) → h[L]? = some (some b) := fun {L b} e => by
    rw [List.getElem?_append] at e
    split at e
    · exact e
    · rw [List.getElem?_replicate] at e
      split at e <;> cases e
  exact ⟨by simp [r.len], fun L blk hL => (r.own L blk (hget hL)).up up, fun L L' b h1 h2 => r.inj L L' b (get h1) (get h2), fun L b blk hL hm => r.nok L b blk (hget hL) (get hm), fun L b hm => r.new L b (get hm), r.okb, r.oko, r.bel, r.tab⟩

/-- What a walk asks of the code itself. -/
def okC (n : Nat) : Code → Bool
  | .region _ ops d => ops.all (opsLt n) && (!d || (drawOk ops && (tailOk ops || !lastOnly ops.toList)))
  | .seq a b => okC n a && okC n b
  | .cond c a b => opLt n c && okC n a && okC n b
  | .block _ a => okC n a
  | .loop a => okC n a
  | .rangeFunc g _ _ _ => opLt n g
  | _ => true

/-- No range over a function. -/
def noRange : Code → Bool
  | .seq a b => noRange a && noRange b
  | .cond _ a b => noRange a && noRange b
  | .block _ a => noRange a
  | .loop a => noRange a
  | .rangeFunc _ _ _ _ => false
  | _ => true

theorem Weak.slot {t : List (Nat × AV)} {m : List (Option Nat)} {ok : Nat → Prop} {w : World} : ∀ {t' : List (Nat × AV)} (i : Nat) {v : Value}, Weak t t' → RepV m ok w (slot t i) v → RepV m ok w (slot t' i) v
  | [], _, _, _, _ => trivial
  | (j, x) :: r, i, v, ⟨h1, h2⟩, hv => by
    unfold Eng.slot
    split
    · rename_i e
      subst e
      rw [← h1]; exact hv
    · exact Weak.slot i h2 hv

theorem WeakO.slot {t t' : List (Nat × AV)} {m : List (Option Nat)} {ok : Nat → Prop} {w : World} (i : Nat) {v : Value} (h : WeakO t t') (hv : RepV m ok w (slot t i) v) : RepV m ok w (slot t' i) v := by
  rcases h with h | h
  · exact Weak.slot i h hv
  · rcases h i with h | h
    · rw [h]; trivial
    · rw [← h]; exact hv
theorem WeakH.get : ∀ {h h' : Heap} {L : Nat} {b : Blk}, WeakH h h' → h'[L]? = some (some b) → h[L]? = some (some b)
  | _, [], _, _, _, e => by simp at e
  | [], _ :: _, _, _, h, _ => h.elim
  | a :: r, b :: r', 0, _, ⟨h, _⟩, e => by
    simp at e
    subst e
    rcases h with h | h
    · cases h
    · simp [h]
  | a :: r, b :: r', L + 1, _, ⟨_, h⟩, e => by
    have := WeakH.get (L := L) h (by simpa using e)
    simpa using this
theorem WeakH.trim : ∀ {h h' : Heap}, h.take h'.length = h' → WeakH h h'
  | _, [], _ => by unfold WeakH; trivial
  | [], _ :: _, e => by simp at e
  | a :: r, b :: r', e => by
    simp only [List.length_cons, List.take_succ_cons, List.cons.injEq] at e
    exact ⟨Or.inr e.1, WeakH.trim e.2⟩

theorem HRel.trim {w0 : World} {ok0 : Nat → Prop} {m : List (Option Nat)} {ok : Nat → Prop} {h h' : Heap} {w : World} (r : HRel w0 ok0 m ok h w) (hlen : h'.length ≤ h.length) (e : WeakH h h') (hr : refsH h'.length h' = true) : HRel w0 ok0 (m.take h'.length) ok h' w := by
  have get : ∀ {L : Nat} {b : Option Nat}, (m.take h'.length)[L]? = some b → m[L]? = some b := fun {L b} hm => by
    rw [List.getElem?_take] at hm
    split at hm
    · exact hm
    · cases hm
  have hget : ∀ {L : Nat} {b : Blk}, h'[L]? = some (some b) → h[L]? = some (some b) ∧ L < h'.length := fun {L b} hL => ⟨e.get hL, (List.getElem?_eq_some_iff.1 hL).1⟩
  refine ⟨by rw [List.length_take, r.len]; omega, fun L blk hL => ?_, fun L L' b h1 h2 => r.inj L L' b (get h1) (get h2), fun L b blk hL hm => r.nok L b blk (hget hL).1 (get hm), fun L b hm => r.new L b (get hm), r.okb, r.oko, r.bel, r.tab⟩
  obtain ⟨h1, h2⟩ := hget hL
  have ho := r.own L blk h1
  cases blk with
  | var t xs =>
    obtain ⟨b, cs, hm, hb, hx, hone⟩ := ho
    exact ⟨b, cs, trim_get h2 hm, hb, RepL.trim xs (refsH_get hr hL) hx, hone⟩
  | row e st es =>
    obtain ⟨ob, hm, hx⟩ := ho
    exact ⟨ob, trim_get h2 hm, hx⟩
  | map k es =>
    obtain ⟨b, l, clock, hm, hx⟩ := ho
    exact ⟨b, l, clock, trim_get h2 hm, hx⟩

theorem LeS.of {σ σ' : AS} (ht : WeakO σ.t σ'.t) (hn : σ.n = σ'.n) (hh : HW σ.h σ') : LeS σ σ' := ⟨hn, fun w0 ok0 m ok w ρ h4 h3 => by
  rcases hh with hh | ⟨hlen, e, k1, k2⟩
  · exact ⟨m, ok, by rw [← hh]; exact h4, fun i => WeakO.slot i ht (h3 i)⟩
  · exact ⟨m.take σ'.h.length, ok, h4.trim hlen e k2, fun i => RepV.trim _ (refsT_slot i k1) (WeakO.slot i ht (h3 i))⟩⟩
theorem LeS.refl (σ : AS) : LeS σ σ := ⟨rfl, fun w0 ok0 m ok w ρ h4 h3 => ⟨m, ok, h4, h3⟩⟩
theorem LeS.trans {a b c : AS} (h : LeS a b) (k : LeS b c) : LeS a c := ⟨h.1.trans k.1, fun w0 ok0 m ok w ρ h4 h3 => by
  obtain ⟨m1, ok1, h5, h6⟩ := h.2 w0 ok0 m ok w ρ h4 h3
  exact k.2 w0 ok0 m1 ok1 w ρ h5 h6⟩
theorem RelS.le {w0 : World} {ok0 : Nat → Prop} {rr : Option Nat} {wS : World} {ρx : Nat → Value} {σ σ' : AS} {a : Act} {w : World} (h : RelS w0 ok0 rr wS ρx σ a w) (hl : LeS σ σ') : RelS w0 ok0 rr wS ρx σ' a w := by
  obtain ⟨m, ok, h1, h2, h3, h4⟩ := h
  obtain ⟨m', ok', h5, h6⟩ := hl.2 w0 ok0 m ok w _ h4 h3
  exact ⟨m', ok', h1, by rw [← hl.1]; exact h2, fun i => by rw [← hl.1]; exact h6 i, h5⟩

theorem rel_weak {w0 : World} {ok0 : Nat → Prop} {rr : Option Nat} {wS : World} {ρx : Nat → Value} {σ : AS} {a : Act} {w : World} {c : Operand} {v : Value} (h : RelS w0 ok0 rr wS ρx σ a w) (hc : opLt σ.n c = true) (hv : aev σ c = .c v) : a.eval c = v := by
  obtain ⟨m, ok, _, _, ht, r⟩ := h
  have := aev_ok r.tab ht hc
  rw [hv] at this
  exact this

theorem awp_ok {P : Program} (hm : P.follows .mixedOrders = true) {w0 : World} {ok0 : Nat → Prop} {rr : Option Nat} {wS : World} {ρx : Nat → Value} {n : Nat} (hY : YSound P Y w0 wS ρx) : ∀ (c : Code) (Q : AX → AS → Prop) (σ : AS) (a : Act) (w : World), okC n c = true → (rr = none ∨ noRange c = true) → σ.n = n → awp X P Y c Q σ → RelS w0 ok0 rr wS ρx σ a w → c.wpIn (FW rr) 0 P (Post w0 ok0 rr wS ρx n Q) a w
  | .skip, Q, σ, a, w, _, _, hn, h, hr => wpIn_skip ⟨.norm, σ, rfl, hn, h, hr⟩
  | .region id ops false, Q, σ, a, w, hc, hrr, hn, h, hr => by
    simp only [okC, Bool.not_false, Bool.true_or, Bool.and_true] at hc
    exact wpIn_region_list (awpOps_ok hY (fun j o hj => by
      have := Array.all_eq_true_iff_forall_mem.1 hc o (Array.mem_of_getElem? hj)
      simp only [opsLt, Bool.and_eq_true] at this
      exact this.1) (fun σ a w hn hK hr => ⟨.norm, σ, rfl, hn, hK, hr⟩) ops.toList σ a w hn (fun o ho => Array.all_eq_true_iff_forall_mem.1 hc o (by simpa using ho)) h hr)
  | .region id ops true, Q, σ, a, w, hc, hrr, hn, h, hr => by
    simp only [okC, Bool.not_true, Bool.false_or, Bool.and_eq_true] at hc
    obtain ⟨hd, hdr, htl⟩ := hc
    have core : ∀ σ : AS, σ.n = n → RelS w0 ok0 rr wS ρx σ a w → (((!X && lastOnly ops.toList) = true ∧ awpOpsD P Y ops (Q .norm) ops.toList σ) ∨ DrawC P Y ops (Q .norm) σ) → (Code.region id ops true).wpIn (FW rr) 0 P (Post w0 ok0 rr wS ρx n Q) a w := by
      intro σ hn hr h
      have hds : ∀ o ∈ ops.toList, opsLt σ.n o = true := fun o ho => by rw [hn]; exact Array.all_eq_true_iff_forall_mem.1 hd o (by simpa using ho)
      have tailn : ∀ N, N ≤ ops.size → tailAt N ops = true → (∃ vs, vs.length = N ∧ TrD P ops σ (ops.toList.take N) vs ∧ ∀ k, awpOps P Y ops (Q .norm) (ops.toList.drop N) ⟨σ.n, cur (fun _ => true) (ops.toList.take N) vs k σ.t, σ.h⟩) → (Code.region id ops true).wpIn (FW rr) 0 P (Post w0 ok0 rr wS ρx n Q) a w := fun N hN htl h => by
        obtain ⟨vs, h1, h2, h3⟩ := h
        refine wpIn_region_any hm (draw_ok hY hdr htl hN h1 h2 hds (fun σ' a w hn' hK hr => ⟨.norm, σ', rfl, hn'.trans hn, hK, hr⟩) (h3 0) ops.size _ a _ ?_ ?_)
        · refine Nat.le_trans List.countP_le_length ?_
          simp
        · obtain ⟨m, ok, hdf, hs, ht, r⟩ := hr
          obtain ⟨g, r'⟩ := r.grown (w' := w.drew) ((Below.refl _ _).drew) (ok' := ok) (fun _ h => h) (fun _ h => Or.inl h)
          refine ⟨by simp, fun j o _ hj => ?_, fun j hj => ?_, ⟨m, ok, hdf.step g.others rfl, hs, fun i => ?_, r'⟩⟩
          · simp only [Array.getD_eq_getD_getElem?, Array.getElem?_replicate] at hj
            split at hj <;> simp at hj
          · simp only [Array.getD_eq_getD_getElem?, Array.getElem?_replicate] at hj
            split at hj <;> simp at hj
          · rw [cur_none _ _ _ _ _ fun j _ => by
              simp only [Array.getD_eq_getD_getElem?, Array.getElem?_replicate]
              split <;> rfl]
            exact RepV.mono g _ (ht i)
      have tail : tailOk ops = true → awpOpsD P Y ops (Q .norm) ops.toList σ → (Code.region id ops true).wpIn (FW rr) 0 P (Post w0 ok0 rr wS ρx n Q) a w := fun htl h => tailn _ (by simpa using keepN_le ops.toList) htl (trace ops.toList σ h)
      rcases h with ⟨hlo, h⟩ | h
      · skip
        simp only [Bool.and_eq_true] at hlo
        rw [hlo.2] at htl
        exact tail (by simpa using htl) h
      · rcases h with ⟨h1, h2⟩ | ⟨N, hN, h1, h2⟩ | ⟨hs0, hh0, h⟩
        · exact tail h1 h2
        · exact tailn N hN h1 (traceN N ops.toList σ (by simpa using hN) h2)
        · obtain ⟨ses, σE, prs, e1, e2, e3, e4, _, e6⟩ := traceW ops.toList [] [] σ h
          have hzl : (ops.toList.zip ses).length = ops.size := by simp [e1]
          have hfalse : (fun j => (Array.replicate ops.size false).getD j false) = fun _ => false := funext fun j => by
            simp only [Array.getD_eq_getD_getElem?, Array.getElem?_replicate]
            split <;> rfl
          refine wpIn_region_any hm (drawW_ok (σ := σ) (σE := σE) (z := ops.toList.zip ses) hdr hzl (fun i p hp => ?_) e2 (fun a b pa pb hab ha hb hc => ?_) hds hs0 hh0 (fun a w hr => ⟨.norm, σE, rfl, e2.le.2.trans hn, e3, hr⟩) ops.size _ a _ ?_ ?_)
          · have h1 : (ops.toList.zip ses)[i]? = some (p.1, p.2) := hp
            rw [List.getElem?_zip_eq_some] at h1
            simpa using h1.1
          · have := e6 a b (entE pa) (entE pb) hab (Nat.zero_le _) (by rw [List.nil_append, List.getElem?_map, ha]; rfl) (by rw [List.nil_append, List.getElem?_map, hb]; rfl) hc
            exact List.all_eq_true.1 e4 _ this
          · refine Nat.le_trans List.countP_le_length ?_
            simp
          · obtain ⟨m, ok, hdf, hs, ht, r⟩ := hr
            obtain ⟨g, r'⟩ := r.grown (w' := w.drew) ((Below.refl _ _).drew) (ok' := ok) (fun _ h => h) (fun _ h => Or.inl h)
            have hle := e2.le.1
            have up : ∀ (L : Nat) b, m[L]? = some b → (m ++ List.replicate (σE.h.length - σ.h.length) none)[L]? = some b := fun L b h => by rw [List.getElem?_append_left (List.getElem?_eq_some_iff.1 h).1]; exact h
            refine ⟨by simp, fun j o _ hj => ?_, ⟨m ++ List.replicate (σE.h.length - σ.h.length) none, ok, hdf.step g.others rfl, hs, fun s => ?_, ?_⟩⟩
            · rw [congrFun hfalse j] at hj; cases hj
            · rw [hfalse, fold_false _ _ _ _ fun _ _ => rfl]
              exact RepV.mono0 up (fun _ h => h) (fun _ _ _ => rfl) (fun _ _ _ _ h => h) _ (RepV.mono g _ (ht s))
            · have eh : (heapL σ (ops.toList.zip ses) σE.h.length fun j => (Array.replicate ops.size false).getD j false) = σ.h ++ List.replicate (σE.h.length - σ.h.length) none := by
                apply List.ext_getElem?
                intro L
                rcases Nat.lt_or_ge L σE.h.length with hL | hL
                · rw [hfalse]
                  rcases Nat.lt_or_ge L σ.h.length with h1 | h1
                  · rw [List.getElem?_append_left h1, List.getElem?_eq_getElem h1]
                    refine heapL_get.2 ⟨hL, ?_⟩
                    rw [fold_false _ _ _ _ fun _ _ => rfl, List.getElem?_eq_getElem h1]
                    rfl
                  · rw [List.getElem?_append_right h1, List.getElem?_replicate, if_pos (by omega)]
                    refine heapL_get.2 ⟨hL, ?_⟩
                    rw [fold_false _ _ _ _ fun _ _ => rfl, List.getElem?_eq_none h1]
                    rfl
                · rw [List.getElem?_eq_none (by rw [heapL_len]; exact hL), List.getElem?_eq_none (by simp; omega)]
              rw [eh]
              exact r'.pad _
    simp only [awp] at h
    split at h
    · rename_i hlo
      exact core σ hn hr (.inl ⟨hlo, h⟩)
    · rcases h with h | ⟨ks, h⟩
      · exact core σ hn hr (.inr h)
      · refine core (frz ks σ) hn ?_ (.inr h)
        obtain ⟨m, ok, hdf, hs, ht, r⟩ := hr
        obtain ⟨g, r'⟩ := r.freeze ks
        exact ⟨m, _, hdf, hs, fun i => killT_look g σ.t i (ht i), r'⟩
  | .seq x y, Q, σ, a, w, hc, hrr, hn, h, hr => by
    simp only [okC, Bool.and_eq_true] at hc
    refine wpIn_seq (wpIn_mono (awp_ok hm hY x _ σ a w hc.1 (hrr.imp id fun h => ((by simpa [noRange] using h) : noRange x = true ∧ noRange y = true).1) hn h hr) fun e a' w' hp => ?_)
    obtain ⟨q, σ', rfl, hn', hq, hr'⟩ := hp
    cases q with
    | norm => exact awp_ok hm hY y Q σ' a' w' hc.2 (hrr.imp id fun h => ((by simpa [noRange] using h) : noRange x = true ∧ noRange y = true).2) hn' hq hr'
    | ret => exact ⟨.ret, σ', rfl, hn', hq, hr'⟩
    | exit id => exact ⟨.exit id, σ', rfl, hn', hq, hr'⟩
  | .cond c x y, Q, σ, a, w, hc, hrr, hn, h, hr => by
    simp only [okC, Bool.and_eq_true] at hc
    obtain ⟨⟨hcc, hc1⟩, hc2⟩ := hc
    have hc : okC n x = true ∧ okC n y = true := ⟨hc1, hc2⟩
    simp only [awp, condA] at h
    split at h
    · rename_i t ht
      refine wpIn_cond (rel_weak hr (by rw [hn]; exact hcc) ht) ?_
      cases t with
      | true => exact awp_ok hm hY x Q σ a w hc.1 (hrr.imp id fun h => ((by simpa [noRange] using h) : noRange x = true ∧ noRange y = true).1) hn (h.1 rfl) hr
      | false => exact awp_ok hm hY y Q σ a w hc.2 (hrr.imp id fun h => ((by simpa [noRange] using h) : noRange x = true ∧ noRange y = true).2) hn (h.2 rfl) hr
    · exact h.elim
  | .block id x, Q, σ, a, w, hc, hrr, hn, h, hr => by
    refine wpIn_block (wpIn_mono (awp_ok hm hY x _ σ a w hc hrr hn h hr) fun e a' w' hp => ?_)
    obtain ⟨q, σ', rfl, hn', hq, hr'⟩ := hp
    cases q with
    | norm => exact ⟨.norm, σ', rfl, hn', hq, hr'⟩
    | ret => exact ⟨.ret, σ', rfl, hn', hq, hr'⟩
    | exit id' =>
      simp only [blkQ] at hq
      show Exit.inBlock id _ (.exit id') a' w'
      simp only [Exit.inBlock]
      split at hq
      · rename_i e
        rw [if_pos e]
        exact ⟨.norm, σ', rfl, hn', hq, hr'⟩
      · rename_i e
        rw [if_neg e]
        exact ⟨.exit id', σ', rfl, hn', hq, hr'⟩
  | .loop x, Q, σ, a, w, hc, hrr, hn, h, hr => by
    simp only [awp, LoopA] at h
    obtain ⟨α, I, st, μ, ⟨a0, h0, hs⟩, hb⟩ := h
    -- the measure is the least of those that fit
    let J : Act → World → Prop := fun a w => ∃ i, I i ∧ (st i).n = n ∧ RelS w0 ok0 rr wS ρx (st i) a w
    let N : Act → World → Nat → Prop := fun a w k => ∃ i, I i ∧ (st i).n = n ∧ RelS w0 ok0 rr wS ρx (st i) a w ∧ μ i = k
    classical
    have least : ∀ a w, J a w → ∃ k, N a w k ∧ ∀ k', N a w k' → k ≤ k' := fun a w ⟨i, h1, h2, h3⟩ => by
      have : ∀ m, N a w m → ∃ k, N a w k ∧ ∀ k', N a w k' → k ≤ k' := by
        intro m
        induction m using Nat.strongRecOn with
        | _ m ih =>
          intro hm
          by_cases hx : ∃ k', N a w k' ∧ k' < m
          · obtain ⟨k', h4, h5⟩ := hx
            exact ih k' h5 h4
          · exact ⟨m, hm, fun k' hk => Nat.le_of_not_lt fun hlt => hx ⟨k', hk, hlt⟩⟩
      exact this (μ i) ⟨i, h1, h2, h3, rfl⟩
    refine wpIn_loop J (fun a w => if hx : J a w then (least a w hx).choose else 0) ⟨a0, h0, by rw [← hs.1]; exact hn, hr.le hs⟩ fun a1 w1 hJ => ?_
    obtain ⟨⟨i, h1, h2, h3, h4⟩, h5⟩ := (least a1 w1 hJ).choose_spec
    refine wpIn_mono (awp_ok hm hY x _ (st i) a1 w1 hc hrr h2 (hb i h1) h3) fun e a' w' hp => ?_
    obtain ⟨q, σ', rfl, hn', hq, hr'⟩ := hp
    cases q with
    | norm =>
      obtain ⟨i', k1, k2, k3⟩ := hq
      have hr2 := hr'.le k3
      have k4 := k3.1
      have hJ' : J a' w' := ⟨i', k1, by rw [← k4]; exact hn', hr2⟩
      refine ⟨hJ', ?_⟩
      rw [dif_pos hJ', dif_pos hJ]
      have := (least a' w' hJ').choose_spec.2 (μ i') ⟨i', k1, by rw [← k4]; exact hn', hr2, rfl⟩
      omega
    | ret => exact ⟨.ret, σ', rfl, hn', hq, hr'⟩
    | exit id => exact ⟨.exit id, σ', rfl, hn', hq, hr'⟩
  | .exit id, Q, σ, a, w, _, _, hn, h, hr => wpIn_exit ⟨.exit id, σ, rfl, hn, h, hr⟩
  | .ret, Q, σ, a, w, _, _, hn, h, hr => wpIn_ret ⟨.ret, σ, rfl, hn, h, hr⟩
  | .label l, Q, σ, a, w, _, _, hn, h, hr => wpIn_label ⟨.norm, σ, rfl, hn, h, hr⟩
  | .rangeFunc g ps x y, Q, σ, a, w, hc, hrr, hn, h, hr => by
    rcases hrr with rfl | h1
    · subst hn
      exact h w0 ok0 wS ρx a w hc hr
    · simp [noRange] at h1
  | .scope _, _, _, _, _, _, _, _, h, _ => h.elim
  | .goto _, _, _, _, _, _, _, _, h, _ => h.elim
  | .refuse _, _, _, _, _, _, _, _, h, _ => h.elim

/-- The results of a function. -/
def resA (P : Program) (σ : AS) : List ResultVar → (List AV → Prop) → Prop
  | [], K => K []
  | .tmp t :: r, K => resA P σ r fun vs => K (slot σ.t t :: vs)
  | .cell a t :: r, K => elO (td P t) fun D => loadA σ.h D.agg D.size (slot σ.t a) fun v => resA P σ r fun vs => K (v :: vs)

def oneA : List AV → AV
  | [v] => v
  | vs => .tup vs

def notExit : AX → Prop
  | .exit _ => False
  | _ => True
def resLt (n : Nat) : List ResultVar → Bool
  | [] => true
  | .tmp t :: r => decide (t < n) && resLt n r
  | .cell a _ :: r => decide (a < n) && resLt n r

theorem resA_ok {P : Program} {σ : AS} {m : List (Option Nat)} {ok : Nat → Prop} {w : World} {tmps : Array Value} {n : Nat} (ht : ∀ i, i < n → RepV m ok w (slot σ.t i) (tmps.getD i undef)) (ho : HOwn m ok σ.h w) : ∀ (rs : List ResultVar) (K : List AV → Prop), resLt n rs = true → resA P σ rs K → ∃ xs us, K xs ∧ RepL m ok w xs us ∧ (rs.mapM fun r => (match r with
    | .tmp t => pure (tmps.getD t undef)
    | .cell a t => do loadVar t (← asAddr (tmps.getD a undef)) : Sem Value)).run P w = .ok us w
  | [], K, _, h => ⟨[], [], h, rfl, by simp⟩
  | .tmp t :: r, K, hlt, h => by
    simp only [resLt, Bool.and_eq_true, decide_eq_true_eq] at hlt
    obtain ⟨xs, us, hK, hl, hrun⟩ := resA_ok ht ho r _ hlt.2 h
    exact ⟨_, _, hK, ⟨_, _, rfl, ht t hlt.1, hl⟩, by
      rw [List.mapM_cons]
      simp only [Sem.run_bind, Sem.run_pure, Result.andThen_ok]
      rw [hrun]
      rfl⟩
  | .cell a t :: r, K, hlt, h => by
    simp only [resLt, Bool.and_eq_true, decide_eq_true_eq] at hlt
    have q_ := elO_ex h
    clear h
    obtain ⟨D, hD, h⟩ := q_
    obtain ⟨v, h, hv⟩ := loadA_ok hD h
    obtain ⟨u, hu, hru⟩ := hv m ok w _ (ht a hlt.1) ho
    obtain ⟨xs, us, hK, hl, hrun⟩ := resA_ok ht ho r _ hlt.2 h
    refine ⟨_, _, hK, ⟨u, us, rfl, hru, hl⟩, ?_⟩
    have hu' : ∃ ad, tmps.getD a undef = .pointer (some ad) ∧ (loadVar t ad).run P w = .ok u w := by
      unfold Instr.loadAt at hu
      cases hq : tmps.getD a undef <;> rw [hq] at hu <;> try (simp [Instr.sureAddr, stuck] at hu; done)
      rename_i p
      cases p with
      | none => simp [Instr.sureAddr, stuck] at hu
      | some ad => exact ⟨ad, rfl, by simpa [Instr.sureAddr] using hu⟩
    obtain ⟨ad, h1, h2⟩ := hu'
    rw [List.mapM_cons]
    have e1 : (asAddr (tmps.getD a undef)).run P w = .ok ad w := by rw [h1]; rfl
    simp only [Sem.run_bind, Sem.run_pure, Result.andThen_ok, e1, h2]
    rw [hrun]
    rfl

def argT : List AV → Nat → List (Nat × AV)
  | [], _ => []
  | x :: xs, i => (i, x) :: argT xs (i + 1)

theorem argT_look {m : List (Option Nat)} {ok : Nat → Prop} {w : World} : ∀ {xs : List AV} {us : List Value} (k i : Nat), RepL m ok w xs us → RepV m ok w (slot (argT xs k) i) (if k ≤ i then us.getD (i - k) undef else undef)
  | [], _, k, i, _ => trivial
  | x :: xs, _, k, i, ⟨u, us, rfl, hx, hr⟩ => by
    unfold argT slot
    split
    · rename_i e
      subst e
      simpa using hx
    · rename_i e
      have := argT_look (k + 1) i hr
      by_cases h : k ≤ i
      · rw [if_pos h]
        rw [if_pos (by omega)] at this
        rw [show i - k = (i - (k + 1)) + 1 by omega]
        simpa using this
      · rw [if_neg h]
        rw [if_neg (by omega)] at this
        exact this

theorem RepDL.rep {ok : Nat → Prop} {w : World} {m : List (Option Nat)} : ∀ {xs : List AV} {l : List Value}, RepDL ok w xs l → RepL m ok w xs l := fun h => RepDL.up _ h

/-- A frame at its beginning. -/
theorem enter_rel {m : List (Option Nat)} {ok : Nat → Prop} {w : World} {xs : List AV} {vs : List Value} {n : Nat} (hl : RepL m ok w xs vs) (hn : xs.length ≤ n) (i : Nat) (hi : i < n) : RepV m ok w (slot (argT xs 0) i) ((vs.toArray ++ Array.replicate (n - vs.toArray.size) undef).getD i undef) := by
  have := argT_look (m := m) 0 i hl
  rw [if_pos (Nat.zero_le _), Nat.sub_zero] at this
  have e : (vs.toArray ++ Array.replicate (n - vs.toArray.size) undef).getD i undef = vs.getD i undef := by
    simp only [Array.getD_eq_getD_getElem?, Array.getElem?_append, List.getD_eq_getElem?_getD, Array.getElem?_replicate, List.getElem?_toArray, List.size_toArray]
    split
    · rfl
    · rename_i hlt
      rw [List.getElem?_eq_none (by omega)]
      split <;> rfl
  rw [e]
  exact this

theorem results_ok {P : Program} {fn : Func} {σ : AS} {a : Act} {m : List (Option Nat)} {ok : Nat → Prop} {w : World} {K : List AV → Prop} (ht : ∀ i, i < fn.ntmps → RepV m ok w (slot σ.t i) (a.tmps.getD i undef)) (ho : HOwn m ok σ.h w) (hlt : resLt fn.ntmps fn.results.toList = true) (h : resA P σ fn.results.toList K) :
    ∃ xs v, K xs ∧ (results fn a.tmps).run P w = .ok v w ∧ RepV m ok w (oneA xs) v := by
  obtain ⟨xs, us, hK, hlu, hrun⟩ := resA_ok ht ho _ _ hlt h
  have hlen := hlu.length
  refine ⟨xs, (if h : us.toArray.size = 1 then us.toArray[0] else .tuple us.toArray), hK, ?_, ?_⟩
  · unfold results
    rw [Array.mapM_eq_mapM_toList, Sem.run_bind, Sem.run_map]
    erw [hrun]
    rfl
  · cases us with
    | nil =>
      cases xs with
      | nil => exact ⟨#[], rfl, rfl⟩
      | cons x xs => simp at hlen
    | cons u us =>
      cases us with
      | nil =>
        cases xs with
        | nil => simp at hlen
        | cons x xs =>
          cases xs with
          | nil =>
            obtain ⟨u', us', h1, h2, _⟩ := hlu
            cases h1
            exact h2
          | cons y ys => simp at hlen
      | cons u2 us =>
        cases xs with
        | nil => simp at hlen
        | cons x xs =>
          cases xs with
          | nil => simp at hlen
          | cons y ys =>
            rw [dif_neg (by simp)]
            exact ⟨_, rfl, hlu⟩

/-- What a walk asks of a function. -/
def okF (fn : Func) (c : Code) : Bool := okC fn.ntmps c && resLt fn.ntmps fn.results.toList

/-- A call of a function that hands blocks of its own to its caller. -/
theorem call_meetsO {P : Program} {σ : AS} {dst : Option Tmp} {g : FuncId} {xs ds : List AV} {res : AV} {hr : Heap} {K : AS → Prop} (hm : MeetsO P g ds res hr) (hds : toDL σ.h xs = some ds) (hown : (ownsL xs).isEmpty = true ∨ Closed res hr) (h : K (σ.upd dst (shV σ.h.length res) [] [] (σ.h ++ shH σ.h.length hr))) : CallS P σ dst g xs K := by
  refine ⟨hm.1, fun w0 ok0 m ok ρ w vs hx ht r => ?_⟩
  have hd := toDL_ok r.own _ hds hx
  refine (handed hm hown hd ⟨r.okb, r.tab⟩ fun L b h => (r.new L b h).2).mono fun e w' hp => ?_
  obtain ⟨v, m1, ok1, he, hmo, r1, hres⟩ := hp
  obtain ⟨g', r', _⟩ := r.join hmo r1
  have hv : RepV (m ++ m1) ok1 w' (shV σ.h.length res) v := by rw [← r.len]; exact RepV.shift res hres
  exact ⟨v, _, _, _, he, g'.others, by cases dst <;> rfl, h, by cases dst <;> exact r', slot_upd ht g' hv⟩

/-! Calls. -/

/-- A call by what its function is known to make of data. -/
theorem call_meets {P : Program} {σ : AS} {dst : Option Tmp} {g : FuncId} {xs ds : List AV} {res : AV} {K : AS → Prop} (hm : Meets P g ds res) (hds : toDL σ.h xs = some ds)
    (h : if (flat res || (ownsL xs).isEmpty) = true then K (σ.upd dst res [] [] σ.h) else K (σ.upd dst res σ.h (ownsL xs) (killH σ.h (ownsL xs) (dropL (ownsL xs) σ.h)))) : CallS P σ dst g xs K := by
  refine ⟨hm.1, fun w0 ok0 m ok ρ w vs hx ht r => ?_⟩
  have hd := toDL_ok r.own _ hds hx
  have hokx : ∀ b, okx m ok (ownsL xs) b → b < w.heap.size := fun b hb => by
    rcases hb with hb | ⟨L, _, hb⟩
    · exact r.okb b hb
    · exact (r.new L b hb).2
  refine (hm.2 (okx m ok (ownsL xs)) w _ ⟨hokx, r.tab.mono (fun b h => Or.inl h) fun _ _ _ => rfl⟩ hd).mono fun e w' hp => ?_
  obtain ⟨v, he, hres, hB⟩ := hp
  split at h
  · rename_i hc
    obtain ⟨g', r'⟩ := r.grown hB (ok' := fun b => ok b ∨ (w.heap.size ≤ b ∧ b < w'.heap.size)) (fun b hb => Or.inl hb) (fun b hb => hb)
    have hv : RepV m (fun b => ok b ∨ (w.heap.size ≤ b ∧ b < w'.heap.size)) w' res v := by
      rcases Bool.or_eq_true_iff.1 hc with hfl | hem
      · exact RepD.up _ (flat_ok res hfl hres)
      · have hem' : ownsL xs = [] := by simpa using hem
        rw [hem'] at hres
        refine RepD.up _ (RepD.mono (fun b hb => ?_) (fun _ _ _ => rfl) res hres)
        rcases hb with (hb | ⟨L, hL, _⟩) | hb
        · exact Or.inl hb
        · cases hL
        · exact Or.inr hb
    exact ⟨v, _, m, _, he, g'.others, by cases dst <;> rfl, h, by cases dst <;> exact r', slot_upd ht g' hv⟩
  · obtain ⟨g1, r1⟩ := r.freeze (ownsL xs)
    obtain ⟨g2, r2⟩ := r1.grown hB (ok' := fun b => okx m ok (ownsL xs) b ∨ (w.heap.size ≤ b ∧ b < w'.heap.size)) (fun b hb => Or.inl hb) (fun b hb => hb)
    exact ⟨v, _, m, _, he, (g1.then g2).others, by cases dst <;> rfl, h, by cases dst <;> exact r2, slot_upd ht (g1.then g2) (RepD.up _ hres)⟩

theorem calld_meets {P : Program} {σ : AS} {dst : Option Tmp} {g : FuncId} {xs ds : List AV} {res : AV} {K : AS → Prop} (hm : Meets P g ds res) (hds : toDL σ.h xs = some ds) (hc : (flat res || (ownsL xs).isEmpty) = true) (h : K (σ.put dst res)) : CallD P σ dst g xs K := ⟨ds, res, hds, hm, hc, h⟩

def shiftT (N : Nat) : List (Nat × AV) → List (Nat × AV)
  | [] => []
  | (i, v) :: r => (N + i, v) :: shiftT N r
def unshift (N : Nat) : List (Nat × AV) → List (Nat × AV)
  | [] => []
  | (i, v) :: r => if N ≤ i then (i - N, v) :: unshift N r else unshift N r
/-- The caller's state behind a call that has been walked. -/
def retT (N n : Nat) (dst : Option Tmp) (v : AV) (σ : AS) : AS :=
  match dst with
  | none => ⟨n, unshift N σ.t, σ.h⟩
  | some d => ⟨n, (d, v) :: unshift N σ.t, σ.h⟩
def inlQ (P : Program) (rs : List ResultVar) (N n : Nat) (dst : Option Tmp) (K : AS → Prop) : AX → AS → Prop := fun e σ =>
  notExit e ∧ resA P σ rs fun vs => K (retT N n dst (oneA vs) σ)

theorem slot_shift (N : Nat) : ∀ (t : List (Nat × AV)) (i : Nat), slot (shiftT N t) i = if N ≤ i then slot t (i - N) else .junk
  | [], i => by simp [shiftT, slot]
  | (j, v) :: r, i => by
    rw [shiftT, slot, slot, slot_shift N r i]
    by_cases h : N ≤ i
    · rw [if_pos h, if_pos h]
      by_cases e : N + j = i
      · rw [if_pos e, if_pos (by omega)]
      · rw [if_neg e, if_neg (by omega)]
    · rw [if_neg h, if_neg h, if_neg (by omega)]
theorem slot_unshift (N : Nat) : ∀ (t : List (Nat × AV)) (i : Nat), slot (unshift N t) i = slot t (N + i)
  | [], i => rfl
  | (j, v) :: r, i => by
    rw [unshift]
    split
    · rw [slot, slot, slot_unshift N r i]
      by_cases e : j - N = i
      · rw [if_pos e, if_pos (by omega)]
      · rw [if_neg e, if_neg (by omega)]
    · rw [slot, slot_unshift N r i, if_neg (by omega)]
theorem slot_args : ∀ (xs : List AV) (k : Nat) (t : List (Nat × AV)) (i : Nat), slot (argT xs k ++ t) i = if k ≤ i ∧ i < k + xs.length then slot (argT xs k) i else slot t i
  | [], k, t, i => by rw [if_neg (by simp)]; rfl
  | x :: xs, k, t, i => by
    rw [argT, List.cons_append, slot, slot, slot_args xs (k + 1) t i]
    by_cases e : k = i
    · rw [if_pos e, if_pos e, if_pos (by simp; omega)]
    · rw [if_neg e, if_neg e]
      by_cases h : k + 1 ≤ i ∧ i < k + 1 + xs.length
      · rw [if_pos h, if_pos (by simp; omega)]
      · rw [if_neg h, if_neg (by simp; omega)]

/-- A call that is walked in its place: the callee may turn what is the caller's own. -/
theorem call_inl {P : Program} {σ : AS} {dst : Option Tmp} {g : FuncId} {fn : Func} {c : Code} {xs : List AV} {K : AS → Prop} (hm : P.follows .mixedOrders = true) (hf : P.funcs[g]? = some fn) (hname : (fn.name == "runtime.NumGoroutine") = false) (hb : fn.body = some c) (hc : okF fn c = true) (hn : xs.length ≤ fn.ntmps)
    (h : awp X P noY c (inlQ P fn.results.toList fn.ntmps σ.n dst K) ⟨fn.ntmps, argT xs 0 ++ shiftT fn.ntmps σ.t, σ.h⟩) : CallS P σ dst g xs K := by
  simp only [okF, Bool.and_eq_true] at hc
  refine ⟨Proofs.enters_of hf hname hb, fun w0 ok0 m ok ρ w vs hx ht r => ?_⟩
  have hl := hx.length
  have hr : RelS w0 ok0 none w (fun i => ρ (i - fn.ntmps)) ⟨fn.ntmps, argT xs 0 ++ shiftT fn.ntmps σ.t, σ.h⟩ { tmps := vs.toArray ++ Array.replicate (fn.ntmps - vs.toArray.size) undef, defers := [] } w := by
    refine ⟨m, ok, .start none w rfl, by simp; omega, fun i => ?_, r⟩
    unfold valX
    rw [slot_args]
    split
    · rename_i hi
      rw [if_pos (by simp only; omega)]
      exact enter_rel hx hn i (by omega)
    · rename_i hi
      rw [slot_shift]
      split
      · rw [if_neg (by simp only; omega)]
        exact ht _
      · trivial
  refine callsIn_wide.1 (callsIn_of_wp_marks (F := FW none) (n := 0) hf hb trivial (wpIn_mono (awp_ok (rr := none) hm (noY_sound P _ w _) c _ _ _ w hc.1 (Or.inl rfl) rfl h hr) fun e a w' hp => ?_))
  obtain ⟨q, σ', rfl, hn', hq, hr'⟩ := hp
  obtain ⟨hq1, hq2⟩ := hq
  obtain ⟨m', ok', ⟨hko, Ds, hds, hnd, _, hD⟩, hs, ht1, r1⟩ := hr'
  have fin : ∀ w'', Took w w' w'' → ∃ v, (results fn a.tmps).run P w'' = .ok v w'' ∧ ∃ v' σ2 m2 ok2, Ending.returned v = .returned v' ∧ KeepsB w w'' ∧ σ2.n = σ.n ∧ K σ2 ∧ HRel w0 ok0 m2 ok2 σ2.h w'' ∧ ∀ i, RepV m2 ok2 w'' (slot σ2.t i) (if dst = some i then v' else ρ i) := fun w'' tk => by
    have r' := r1.took tk r.bel.size
    have ht' : ∀ i, RepV m' ok' w'' (slot σ'.t i) (valX (fun i => ρ (i - fn.ntmps)) σ'.n a i) := fun i => tk.rep _ (ht1 i)
    have hko' : KeepsB w w'' := ⟨by rw [tk.size]; exact hko.size, fun k o hk ho => by
      have hlt := (Array.getElem?_eq_some_iff.1 hk).1
      exact (tk.old k hlt).trans (hko.same k o hk ho)⟩
    obtain ⟨ys, v, hK, hv, hrv⟩ := results_ok (a := a) (fun i hi => by
      have := ht' i
      unfold valX at this
      rwa [if_pos (by rw [hn']; exact hi)] at this) r'.own hc.2 hq2
    refine ⟨v, hv, v, retT fn.ntmps σ.n dst (oneA ys) σ', m', ok', rfl, hko', by cases dst <;> rfl, hK, by cases dst <;> exact r', fun i => ?_⟩
    have hold : RepV m' ok' w'' (slot (unshift fn.ntmps σ'.t) i) (ρ i) := by
      rw [slot_unshift]
      have := ht' (fn.ntmps + i)
      unfold valX at this
      rw [if_neg (by omega)] at this
      simpa using this
    cases dst with
    | none => rw [if_neg (by simp)]; exact hold
    | some d =>
      show RepV m' ok' w'' (if d = i then oneA ys else slot (unshift fn.ntmps σ'.t) i) _
      by_cases e : d = i
      · rw [if_pos e, if_pos (by rw [e])]; exact hrv
      · rw [if_neg e, if_neg (fun h => e (Option.some.inj h))]; exact hold
  cases q with
  | norm => show LeavesInM _ _ _ _ _ _ _ _ _; rw [hds]; exact leaves_marks Ds w' hnd hD fin
  | ret => show LeavesInM _ _ _ _ _ _ _ _ _; rw [hds]; exact leaves_marks Ds w' hnd hD fin
  | exit id => exact hq1.elim

theorem guardA_tt (A : AS → (AS → Prop) → Prop) (K : AS → Prop) (dst : Option Tmp) (σ : AS) : guardA A K dst true (.c (.bool true)) σ = A σ K := by simp [guardA]
theorem guardA_tf (A : AS → (AS → Prop) → Prop) (K : AS → Prop) (dst : Option Tmp) (σ : AS) : guardA A K dst true (.c (.bool false)) σ = K (σ.put dst (.tup [])) := by simp [guardA]
theorem guardA_ft (A : AS → (AS → Prop) → Prop) (K : AS → Prop) (dst : Option Tmp) (σ : AS) : guardA A K dst false (.c (.bool true)) σ = K (σ.put dst (.tup [])) := by simp [guardA]
theorem guardA_ff (A : AS → (AS → Prop) → Prop) (K : AS → Prop) (dst : Option Tmp) (σ : AS) : guardA A K dst false (.c (.bool false)) σ = A σ K := by simp [guardA]
theorem guardA_no (A : AS → (AS → Prop) → Prop) (K : AS → Prop) (dst : Option Tmp) (b : Bool) (σ : AS) : guardA A K dst b (.tup []) σ = K (σ.put dst (.tup [])) := by simp [guardA]
theorem condA_t (A B : (AX → AS → Prop) → AS → Prop) (Q : AX → AS → Prop) (σ : AS) : condA A B Q (.c (.bool true)) σ = A Q σ := by simp [condA]
theorem condA_f (A B : (AX → AS → Prop) → AS → Prop) (Q : AX → AS → Prop) (σ : AS) : condA A B Q (.c (.bool false)) σ = B Q σ := by simp [condA]
/-- A loop whose states are known at the least. -/
theorem loop_v {B : (AX → AS → Prop) → AS → Prop} {Q : AX → AS → Prop} {σ : AS} {α : Type} (I : α → Prop) (st : α → AS) (μ : α → Nat) (a0 : α) (h0 : I a0) (hw : LeS σ (st a0))
    (h : ∀ a, I a → ∀ K : AS → Prop, (∀ a' σ', I a' → μ a' < μ a → LeS σ' (st a') → K σ') → B (loopQ Q K) (st a)) : LoopA B Q σ :=
  ⟨α, I, st, μ, ⟨a0, h0, hw⟩, fun a ha => h a ha _ fun a' σ' h1 h2 h3 => ⟨a', h1, h2, h3⟩⟩
/-! Walks of a callee in the place of its call, whatever the caller: the caller's slots are the tail 'shiftT N s'. -/
/-- Slots below N, and then the caller's. -/
def TailOf (N : Nat) (s : List (Nat × AV)) : List (Nat × AV) → Prop
  | [] => shiftT N s = []
  | p :: r => p :: r = shiftT N s ∨ (p.1 < N ∧ TailOf N s r)
theorem tail_cons {N : Nat} {s : List (Nat × AV)} {i : Nat} {v : AV} {r : List (Nat × AV)} (hi : i < N) (h : TailOf N s r) : TailOf N s ((i, v) :: r) := Or.inr ⟨hi, h⟩
theorem TailOf.ex {N : Nat} {s : List (Nat × AV)} : ∀ {t : List (Nat × AV)}, TailOf N s t → ∃ xs, t = xs ++ shiftT N s ∧ ∀ p ∈ xs, p.1 < N
  | [], h => ⟨[], by simpa [TailOf] using h, by simp⟩
  | p :: r, h => by
    rcases h with h | ⟨h1, h2⟩
    · exact ⟨[], by simpa using h, by simp⟩
    · obtain ⟨xs, h3, h4⟩ := TailOf.ex h2
      exact ⟨p :: xs, by rw [h3]; rfl, fun q hq => (List.mem_cons.1 hq).elim (fun e => e ▸ h1) (h4 q)⟩
theorem HW.trim {h : Heap} {σ : AS} (h1 : h.take σ.h.length = σ.h) (h2 : refsT σ.h.length σ.t = true) (h3 : refsH σ.h.length σ.h = true) : HW h σ := .inr ⟨by
  have := congrArg List.length h1
  rw [List.length_take] at this
  omega, .trim h1, h2, h3⟩
theorem HW.weak {h : Heap} {σ : AS} (h0 : σ.h.length ≤ h.length) (h1 : WeakH h σ.h) (h2 : refsT σ.h.length σ.t = true) (h3 : refsH σ.h.length σ.h = true) : HW h σ := .inr ⟨h0, h1, h2, h3⟩


/-! The walk's own steps, as rules for whole calls alone. -/
section
variable (P : Program) (Q : AX → AS → Prop) (σ : AS)
theorem awp_skip : awp X P Y .skip Q σ = Q .norm σ := Eq.trans rfl rfl
theorem awp_reg (i : Nat) (ops : Array Oper) : awp X P Y (.region i ops false) Q σ = awpOps P Y ops (Q .norm) ops.toList σ := Eq.trans rfl rfl
theorem awp_regX (i : Nat) (ops : Array Oper) : awp true P Y (.region i ops true) Q σ = DrawS P Y ops (Q .norm) σ := Eq.trans rfl rfl
theorem awp_seq (a b : Code) : awp X P Y (.seq a b) Q σ = awp X P Y a (seqQ (awp X P Y b) Q) σ := Eq.trans rfl rfl
theorem awp_cond (c : Operand) (a b : Code) : awp X P Y (.cond c a b) Q σ = condA (awp X P Y a) (awp X P Y b) Q (aev σ c) σ := Eq.trans rfl rfl
theorem awp_block (i : Nat) (a : Code) : awp X P Y (.block i a) Q σ = awp X P Y a (blkQ i Q) σ := Eq.trans rfl rfl
theorem awp_loop (a : Code) : awp X P Y (.loop a) Q σ = LoopA (awp X P Y a) Q σ := Eq.trans rfl rfl
theorem awp_exit (i : Nat) : awp X P Y (.exit i) Q σ = Q (.exit i) σ := Eq.trans rfl rfl
theorem awp_ret : awp X P Y .ret Q σ = Q .ret σ := Eq.trans rfl rfl
variable (B : (AX → AS → Prop) → AS → Prop) (K : AS → Prop) (i j : Nat)
theorem seqQ_n : seqQ B Q .norm σ = B Q σ := Eq.trans rfl rfl
theorem seqQ_r : seqQ B Q .ret σ = Q .ret σ := Eq.trans rfl rfl
theorem seqQ_e : seqQ B Q (.exit i) σ = Q (.exit i) σ := Eq.trans rfl rfl
theorem loopQ_n : loopQ Q K .norm σ = K σ := Eq.trans rfl rfl
theorem loopQ_r : loopQ Q K .ret σ = Q .ret σ := Eq.trans rfl rfl
theorem loopQ_e : loopQ Q K (.exit i) σ = Q (.exit i) σ := Eq.trans rfl rfl
theorem blkQ_n : blkQ i Q .norm σ = Q .norm σ := Eq.trans rfl rfl
theorem blkQ_r : blkQ i Q .ret σ = Q .ret σ := Eq.trans rfl rfl
theorem blkQ_e : blkQ i Q (.exit j) σ = if j = i then Q .norm σ else Q (.exit j) σ := Eq.trans rfl rfl
variable (ops : Array Oper) (l : List Oper) (d : Option Tmp) (op : Op) (ty : TypeId) (p : String) (a : Array Edge) (w b : Bool) (n : Nat) (t : List (Nat × AV)) (h : Heap) (v : AV) (s : Tmp)
theorem awpOps_nil : awpOps P Y ops K [] σ = K σ := Eq.trans rfl rfl
theorem awpOps_one : awpOps P Y ops K (⟨d, op, ty, p, a, none⟩ :: l) σ = awpOp P Y σ ⟨d, op, ty, p, a, none⟩ (awpOps P Y ops K l) := Eq.trans rfl rfl
theorem awpOps_if : awpOps P Y ops K (⟨d, op, ty, p, a, some (j, w)⟩ :: l) σ = guardA (awpO P Y ⟨d, op, ty, p, a, some (j, w)⟩) (awpOps P Y ops K l) d w (yieldA ops σ j) σ := Eq.trans rfl rfl
theorem awpOpsD_nil : awpOpsD P Y ops K [] σ = K σ := Eq.trans rfl rfl
theorem awpOpsD_one : awpOpsD P Y ops K (⟨d, op, ty, p, a, none⟩ :: l) σ = if keepOp op = true then awpOpD P σ ⟨d, op, ty, p, a, none⟩ (awpOpsD P Y ops K l) else awpOps P Y ops K (⟨d, op, ty, p, a, none⟩ :: l) σ := Eq.trans rfl rfl
theorem awpOpsD_if : awpOpsD P Y ops K (⟨d, op, ty, p, a, some (j, w)⟩ :: l) σ = if keepOp op = true then guardA (awpOD P ⟨d, op, ty, p, a, some (j, w)⟩) (awpOpsD P Y ops K l) d w (yieldA ops σ j) σ else awpOps P Y ops K (⟨d, op, ty, p, a, some (j, w)⟩ :: l) σ := Eq.trans rfl rfl
theorem awpOp_is (g : Option (Nat × Bool)) : awpOp P Y σ ⟨d, op, ty, p, a, g⟩ K = if pureOp op = true then apureO P σ op (putK σ d K) else if isCallV op = true then callW P Y σ d K op else astepO P σ op (updK σ d K) := Eq.trans rfl rfl
theorem callW_is (f : Operand) (args : Array Operand) (ats : Array TypeId) : callW P Y σ d K (.call ⟨.value f, args, ats⟩) = callV P Y σ d (args.toList.map (aev σ)) K (aev σ f) := Eq.trans rfl rfl
theorem callV_is (xs : List AV) (g : FuncId) (cap : List AV) : callV P Y σ d xs K (.fn g cap) = CallS P σ d g (xs ++ cap) K := Eq.trans rfl rfl
theorem inlQ_is (rs : List ResultVar) (N m : Nat) (e : AX) : inlQ P rs N m d K e σ = (notExit e ∧ resA P σ rs fun vs => K (retT N m d (oneA vs) σ)) := Eq.trans rfl rfl
theorem retT_s (N m : Nat) : retT N m (some s) v ⟨n, t, h⟩ = ⟨m, (s, v) :: unshift N t, h⟩ := Eq.trans rfl rfl
theorem awpOpD_is (g : Option (Nat × Bool)) : awpOpD P σ ⟨d, op, ty, p, a, g⟩ K = if pureOp op = true then apureO P σ op (putK σ d K) else if isCallV op = true then callWD P σ d K op else if isBS op = true then bsDO P σ d K op else astepO P σ op (updD σ d K) := Eq.trans rfl rfl
theorem callWD_is (f : Operand) (args : Array Operand) (ats : Array TypeId) : callWD P σ d K (.call ⟨.value f, args, ats⟩) = callVD P σ d (args.toList.map (aev σ)) K (aev σ f) := Eq.trans rfl rfl
theorem callVD_is (xs : List AV) (g : FuncId) (cap : List AV) : callVD P σ d xs K (.fn g cap) = CallD P σ d g (xs ++ cap) K := Eq.trans rfl rfl
theorem awpO_is (o : Oper) : awpO P Y o σ K = awpOp P Y σ o K := Eq.trans rfl rfl
theorem awpOD_is (o : Oper) : awpOD P o σ K = awpOpD P σ o K := Eq.trans rfl rfl
theorem putK_is : putK σ d K v = K (σ.put d v) := Eq.trans rfl rfl
theorem updK_is (hk : Heap) (ks : List Nat) (h' : Heap) : updK σ d K v hk ks h' = K (σ.upd d v hk ks h') := Eq.trans rfl rfl
theorem updD_is (hk : Heap) (ks : List Nat) (h' : Heap) : updD σ d K v hk ks h' = (hk = [] ∧ ks = [] ∧ h' = σ.h ∧ K (σ.put d v)) := Eq.trans rfl rfl
theorem put_s : AS.put ⟨n, t, h⟩ (some s) v = ⟨n, (s, v) :: t, h⟩ := Eq.trans rfl rfl
theorem upd_n (hk : Heap) (ks : List Nat) (h' : Heap) : AS.upd ⟨n, t, h⟩ none v hk ks h' = ⟨n, killT hk ks t, h'⟩ := Eq.trans rfl rfl
theorem upd_s (hk : Heap) (ks : List Nat) (h' : Heap) : AS.upd ⟨n, t, h⟩ (some s) v hk ks h' = ⟨n, (s, v) :: killT hk ks t, h'⟩ := Eq.trans rfl rfl
theorem slot_is (v : AV) (r : List (Nat × AV)) : slot ((i, v) :: r) j = if i = j then v else slot r j := Eq.trans rfl rfl
end


theorem RepDL.split {ok : Nat → Prop} {w : World} : ∀ {pre : List AV} {x : AV} {post : List AV} {l : List Value}, RepDL ok w (pre ++ x :: post) l → ∃ us v vs, l = us ++ v :: vs ∧ RepDL ok w pre us ∧ RepD ok w x v ∧ RepDL ok w post vs
  | [], x, post, l, ⟨u, us, hl, hx, hr⟩ => ⟨[], u, us, hl, rfl, hx, hr⟩
  | y :: pre, x, post, l, ⟨u, us, hl, hx, hr⟩ => by
    obtain ⟨a, v, b, rfl, h1, h2, h3⟩ := RepDL.split hr
    exact ⟨u :: a, v, b, hl, ⟨u, a, rfl, hx, h1⟩, h2, h3⟩
theorem RepDL.join {ok : Nat → Prop} {w : World} : ∀ {pre : List AV} {x : AV} {post : List AV} {us : List Value} {v : Value} {vs : List Value}, RepDL ok w pre us → RepD ok w x v → RepDL ok w post vs → RepDL ok w (pre ++ x :: post) (us ++ v :: vs)
  | [], _, _, _, _, _, h1, h2, h3 => by cases h1; exact ⟨_, _, rfl, h2, h3⟩
  | y :: pre, _, _, _, _, _, ⟨u, us, hl, hx, hr⟩, h2, h3 => by subst hl; exact ⟨u, _, rfl, hx, RepDL.join hr h2 h3⟩

/-- A slice is nil, or it is not. -/
theorem Meets.parts {P : Program} {f : FuncId} {pre post : List AV} {st : Nat} {es : List (List AV)} {res : AV} (h1 : Meets P f (pre ++ .sl true st es :: post) res) (h2 : es = [] → Meets P f (pre ++ .nils :: post) res) : Meets P f (pre ++ .sl false st es :: post) res := by
  refine ⟨h1.1, fun ok w vs hok hd => ?_⟩
  obtain ⟨us, v, vs', rfl, a1, a2, a3⟩ := hd.split
  obtain ⟨A, cap, rfl, ⟨_, hc, hcl⟩, hr⟩ := a2
  cases A with
  | none =>
    obtain rfl := hc rfl
    have he : es = [] := by
      rcases Nat.eq_zero_or_pos es.length with h0 | h0
      · exact List.eq_nil_of_length_eq_zero h0
      · obtain ⟨b, o, h, _⟩ := hr h0; cases h
    subst he
    exact (h2 rfl).2 ok w _ hok (RepDL.join a1 rfl a3)
  | some a => exact h1.2 ok w _ hok (RepDL.join a1 ⟨_, cap, rfl, ⟨fun _ h => (by cases h), fun h => (by cases h), hcl⟩, hr⟩ a3)
theorem Meets.nil {P : Program} {f : FuncId} {pre post : List AV} {st : Nat} {res : AV} (h : Meets P f (pre ++ .sl false st [] :: post) res) : Meets P f (pre ++ .nils :: post) res :=
  ⟨h.1, fun ok w vs hok hd => by
    obtain ⟨us, v, vs', rfl, a1, a2, a3⟩ := hd.split
    exact h.2 ok w _ hok (RepDL.join a1 ⟨none, 0, a2, ⟨fun h => (by cases h), fun _ => rfl, Nat.le_refl _⟩, fun h0 => by simp at h0⟩ a3)⟩


theorem oneA_1 (v : AV) : oneA [v] = v := rfl
theorem oneA_2 (a b : AV) (l : List AV) : oneA (a :: b :: l) = .tup (a :: b :: l) := rfl
theorem oneA_0 : oneA [] = .tup [] := rfl
theorem resA_nil (P : Program) (σ : AS) (K : List AV → Prop) : resA P σ [] K = K [] := Eq.trans rfl rfl
theorem resA_tmp (P : Program) (σ : AS) (t : Tmp) (r : List ResultVar) (K : List AV → Prop) : resA P σ (.tmp t :: r) K = resA P σ r fun vs => K (slot σ.t t :: vs) := Eq.trans rfl rfl
theorem resA_cell (P : Program) (σ : AS) (a : Tmp) (t : TypeId) (r : List ResultVar) (K : List AV → Prop) : resA P σ (.cell a t :: r) K = elO (td P t) fun D => loadA σ.h D.agg D.size (slot σ.t a) fun v => resA P σ r fun vs => K (v :: vs) := Eq.trans rfl rfl


section
variable (h : Heap) (ks : List Nat) (L i j st n : Nat) (x : AV) (xs : List AV) (f : FuncId) (v : Value) (es : List (List AV)) (nn : Bool)
theorem flat_c : flat (.c v) = true := Eq.trans rfl rfl
theorem flat_tup : flat (.tup xs) = flatL xs := Eq.trans rfl rfl
theorem flat_agg : flat (.agg xs) = flatL xs := Eq.trans rfl rfl
theorem flat_sl : flat (.sl nn st es) = false := Eq.trans rfl rfl
theorem flatL_nil : flatL [] = true := Eq.trans rfl rfl
theorem flatL_cons : flatL (x :: xs) = (flat x && flatL xs) := Eq.trans rfl rfl
theorem isD_c : isD (.c v) = true := Eq.trans rfl rfl
theorem isD_nils : isD .nils = true := Eq.trans rfl rfl
theorem isD_agg : isD (.agg xs) = isDL xs := Eq.trans rfl rfl
theorem isD_sl : isD (.sl nn st es) = true := Eq.trans rfl rfl
theorem isD_own : isD (.own L st n) = false := Eq.trans rfl rfl
theorem isDL_nil : isDL [] = true := Eq.trans rfl rfl
theorem isDL_cons : isDL (x :: xs) = (isD x && isDL xs) := Eq.trans rfl rfl
theorem ownsV_c : ownsV (.c v) = [] := Eq.trans rfl rfl
theorem ownsV_nils : ownsV .nils = [] := Eq.trans rfl rfl
theorem ownsV_agg : ownsV (.agg xs) = ownsL xs := Eq.trans rfl rfl
theorem ownsV_sl : ownsV (.sl nn st es) = [] := Eq.trans rfl rfl
theorem ownsV_own : ownsV (.own L st n) = [L] := Eq.trans rfl rfl
theorem ownsV_fn : ownsV (.fn f xs) = ownsL xs := Eq.trans rfl rfl
theorem ownsV_dptr : ownsV (.dptr xs) = [] := Eq.trans rfl rfl
theorem ownsV_ptr : ownsV (.ptr L j) = [L] := Eq.trans rfl rfl
theorem ownsL_nil : ownsL [] = [] := Eq.trans rfl rfl
theorem ownsL_cons : ownsL (x :: xs) = ownsV x ++ ownsL xs := Eq.trans rfl rfl
theorem toD_c : toD h (.c v) = some (.c v) := Eq.trans rfl rfl
theorem toD_nils : toD h .nils = some .nils := Eq.trans rfl rfl
theorem toD_tup : toD h (.tup xs) = (toDL h xs).map .tup := Eq.trans rfl rfl
theorem toD_agg : toD h (.agg xs) = (toDL h xs).map .agg := Eq.trans rfl rfl
theorem toD_sl : toD h (.sl nn st es) = some (.sl false st es) := Eq.trans rfl rfl
theorem toD_own : toD h (.own L st n) = (elemsA h (.own L st n)).map fun p => .sl false p.1 p.2 := Eq.trans rfl rfl
theorem toD_fn : toD h (.fn f xs) = (toDL h xs).map (.fn f) := Eq.trans rfl rfl
theorem toD_dptr : toD h (.dptr xs) = some (.dptr xs) := Eq.trans rfl rfl
theorem toD_ptr : toD h (.ptr L j) = match h[L]? with
    | some (some (.var _ cs)) => if isDL cs = true then some (.dptr (cs.drop j)) else none
    | _ => none := Eq.trans rfl rfl
def consO : Option AV → Option (List AV) → Option (List AV)
  | some y, some ys => some (y :: ys)
  | _, _ => none
theorem consO_some (y : AV) (ys : List AV) : consO (some y) (some ys) = some (y :: ys) := rfl
theorem toDL_nil : toDL h [] = some [] := Eq.trans rfl rfl
theorem toDL_cons : toDL h (x :: xs) = consO (toD h x) (toDL h xs) := by
  rw [toDL]
  unfold consO
  rfl
theorem killV_c : killV h ks (.c v) = .c v := Eq.trans rfl rfl
theorem killV_nils : killV h ks .nils = .nils := Eq.trans rfl rfl
theorem killV_junk : killV h ks .junk = .junk := Eq.trans rfl rfl
theorem killV_tup : killV h ks (.tup xs) = .tup (killL h ks xs) := Eq.trans rfl rfl
theorem killV_agg : killV h ks (.agg xs) = .agg (killL h ks xs) := Eq.trans rfl rfl
theorem killV_sl : killV h ks (.sl nn st es) = .sl nn st es := Eq.trans rfl rfl
theorem killV_own : killV h ks (.own L st n) = if L ∈ ks then (match elemsA h (.own L st n) with
    | some (st', es) => .sl false st' es
    | none => .junk) else .own L st n := Eq.trans rfl rfl
theorem killV_fn : killV h ks (.fn f xs) = .fn f (killL h ks xs) := Eq.trans rfl rfl
theorem killV_dptr : killV h ks (.dptr xs) = .dptr xs := Eq.trans rfl rfl
theorem killV_ptr : killV h ks (.ptr L j) = if L ∈ ks then (match ptrD h L j with
    | some y => y
    | none => .junk) else .ptr L j := Eq.trans rfl rfl
theorem killV_mp : killV h ks (.mp L) = if L ∈ ks then .junk else .mp L := Eq.trans rfl rfl
theorem killL_nil : killL h ks [] = [] := Eq.trans rfl rfl
theorem killL_cons : killL h ks (x :: xs) = killV h ks x :: killL h ks xs := Eq.trans rfl rfl
end


theorem sliceA_s {P : Program} {t : TypeId} {lo hi mx : Option AV} {K : AV → Prop} {s : ByteArray} : sliceA P t lo hi mx K (.c (.string s)) = (mx = none ∧ elO (td P t) fun D => D.str = true ∧ (match lo, hi with
      | some (.c (.int _ a)), some (.c (.int _ b)) => 0 ≤ a ∧ a ≤ b ∧ b ≤ (s.size : Int) ∧ K (.c (.string (s.extract a.toNat b.toNat)))
      | none, some (.c (.int _ b)) => 0 ≤ b ∧ b ≤ (s.size : Int) ∧ K (.c (.string (s.extract 0 b.toNat)))
      | some (.c (.int _ a)), none => 0 ≤ a ∧ a ≤ (s.size : Int) ∧ K (.c (.string (s.extract a.toNat s.size)))
      | _, _ => False)) := Eq.trans rfl rfl
theorem sliceA_sl {P : Program} {t : TypeId} {lo hi : Option AV} {K : AV → Prop} {nn : Bool} {st : Nat} {es : List (List AV)} : sliceA P t lo hi none K (.sl nn st es) = elO (td P t) fun D => elO D.elem fun e => elO (td P e) fun E => E.size = st ∧ boundsA es.length lo hi none fun a b => K (.sl nn st ((es.drop a).take (b - a))) := Eq.trans rfl rfl
theorem sliceA_slm {P : Program} {t : TypeId} {lo hi : Option AV} {km : IntKind} {qm : Int} {K : AV → Prop} {nn : Bool} {st : Nat} {es : List (List AV)} : sliceA P t lo hi (some (.c (.int km qm))) K (.sl nn st es) = elO (td P t) fun D => elO D.elem fun e => elO (td P e) fun E => E.size = st ∧ boundsA es.length lo hi (some (.c (.int km qm))) fun a b => if b = qm.toNat then K (.cut st ((es.drop a).take (b - a))) else K (.sl nn st ((es.drop a).take (b - a))) := Eq.trans rfl rfl
theorem sliceA_own {P : Program} {t : TypeId} {lo hi mx : Option AV} {K : AV → Prop} {L st n : Nat} : sliceA P t lo hi mx K (.own L st n) = (lo = none ∧ mx = none ∧ elO (td P t) fun D => elO D.elem fun e => elO (td P e) fun E => E.size = st ∧ boundsA n none hi none fun _ b => K (.own L st b)) := Eq.trans rfl rfl
section
variable {P : Program} {σ : AS} {t t' : TypeId} {s x : Operand} {K : AV → Heap → List Nat → Heap → Prop}
theorem appA_own (L st n : Nat) : appA P σ t t' s x K (.own L st n) = appV P σ t t' s x K := Eq.trans rfl rfl
theorem appA_sl (nn : Bool) (st : Nat) (es : List (List AV)) : appA P σ t t' s x K (.sl nn st es) = appV P σ t t' s x K := Eq.trans rfl rfl
end
theorem elO_s {α : Type} (a : α) (K : α → Prop) : elO (some a) K = K a := Eq.trans rfl rfl
theorem loadA_d (h : Heap) (agg : Bool) (size : Nat) (xs : List AV) (K : AV → Prop) : loadA h agg size (.dptr xs) K = if agg then size ≤ xs.length ∧ K (.agg (xs.take size)) else elO xs[0]? K := Eq.trans rfl rfl
theorem loadA_p (h : Heap) (agg : Bool) (size : Nat) (L j : Nat) (K : AV → Prop) : loadA h agg size (.ptr L j) K = match h[L]? with
    | some (some (.var _ cs)) => if agg then j + size ≤ cs.length ∧ K (.agg ((cs.drop j).take size)) else elO cs[j]? K
    | _ => False := Eq.trans rfl rfl
theorem loadA_r (h : Heap) (agg : Bool) (size : Nat) (L i j : Nat) (K : AV → Prop) : loadA h agg size (.rp L i j) K = match h[L]? with
    | some (some (.row _ st es)) => st ≠ 0 ∧ i % st = 0 ∧ elO es[i / st]? fun e => if agg then j + size ≤ e.length ∧ K (.agg ((e.drop j).take size)) else elO e[j]? K
    | some (some (.var _ cs)) => if agg then i + j + size ≤ cs.length ∧ K (.agg ((cs.drop (i + j)).take size)) else elO cs[i + j]? K
    | _ => False := Eq.trans rfl rfl


/-! Results that say less. -/
theorem Meets.weak {P : Program} {f : FuncId} {args : List AV} {r0 r : AV} (h : Meets P f args r0) (hr : ∀ ok w v, RepD ok w r0 v → RepD ok w r v) : Meets P f args r :=
  ⟨h.1, fun ok w vs hok hd => (h.2 ok w vs hok hd).mono fun e w' ⟨v, he, hv, hB⟩ => ⟨v, he, hr _ _ _ hv, hB⟩⟩
section
variable {ok : Nat → Prop} {w : World} {v : Value} {l : List Value} {x y : AV} {xs ys : List AV}
end

/-! A law: whatever lies in memory, the call returns true. -/
theorem law_of {P : Program} {f : FuncId} {args : List AV} {b : Bool} (h : Meets P f args (.c (.bool b))) {w : World} {vs : List Value} (hd : RepDL (fun k => k < w.heap.size) w args vs) (hT : TabOk (fun k => k < w.heap.size) w := by first | assumption | exact tab_none rfl _ _) :
    Calls P f vs.toArray w fun e w' => e = .returned (.bool b) ∧ Below w.heap.size w w' :=
  (h.2 _ w vs ⟨fun _ h => h, hT⟩ hd).mono fun e w' ⟨v, he, hv, hB⟩ => ⟨by rw [he]; simp only [RepD] at hv; rw [hv], hB⟩
end

-- part 18
section
open RowKit
variable {X : Bool}

/-! A range over a function: the function is walked in its place, and at each call of yield the round's body. -/

end

-- part 22
section
open RowKit
variable {Y : YT}

/-! The steps of a region that draws its order and turns memory, as rules. -/
theorem drawS_tail {P : Program} {ops : Array Oper} {K : AS → Prop} {σ : AS} (h : tailOk ops = true) (k : awpOpsD P Y ops K ops.toList σ) : DrawS P Y ops K σ := .inl (.inl ⟨h, k⟩)
theorem drawS_wild {P : Program} {ops : Array Oper} {K : AS → Prop} {σ : AS} (h : refsT σ.h.length σ.t = true ∧ refsH σ.h.length σ.h = true ∧ awpW P ops K ops.toList [] [] σ) : DrawS P Y ops K σ := .inl (.inr (.inr h))
theorem drawF_wild {P : Program} {ops : Array Oper} {K : AS → Prop} {σ : AS} (ks : List Nat) (h : refsT (frz ks σ).h.length (frz ks σ).t = true ∧ refsH (frz ks σ).h.length (frz ks σ).h = true ∧ awpW P ops K ops.toList [] [] (frz ks σ)) : DrawS P Y ops K σ := .inr ⟨ks, .inr (.inr h)⟩
theorem frz_is (ks : List Nat) (n : Nat) (t : List (Nat × AV)) (h : Heap) : frz ks ⟨n, t, h⟩ = ⟨n, killT h ks t, killH h ks (dropL ks h)⟩ := Eq.trans rfl rfl
theorem ordOk_nil (ops : Array Oper) : ordOk ops [] = true := rfl

section
variable (P : Program) (ops : Array Oper) (K : AS → Prop) (d : Option Tmp) (op : Op) (ty : TypeId) (p : String) (a : Array Edge) (l : List Oper) (es : List Ent) (prs : List (Nat × Nat)) (σ : AS) (n : Nat) (t : List (Nat × AV)) (h h' : Heap) (v : AV) (ks : List Nat) (s : Tmp) (w b : Bool) (j : Nat)
theorem awpW_nil : awpW P ops K [] es prs σ = (ordOk ops prs = true ∧ K σ) := Eq.trans rfl rfl
theorem awpW_one : awpW P ops K (⟨d, op, ty, p, a, none⟩ :: l) es prs σ = wRun P σ ⟨d, op, ty, p, a, none⟩ (contW σ ⟨d, op, ty, p, a, none⟩ es prs (awpW P ops K l)) := Eq.trans rfl rfl
theorem awpW_if : awpW P ops K (⟨d, op, ty, p, a, some (j, w)⟩ :: l) es prs σ = guardW (runW P ⟨d, op, ty, p, a, some (j, w)⟩ es prs (awpW P ops K l)) (skipW ⟨d, op, ty, p, a, some (j, w)⟩ es prs (awpW P ops K l)) w (yieldA ops σ j) σ := Eq.trans rfl rfl
variable (A B : Prop) (g : Option (Nat × Bool)) (KW : AV → List Nat → Heap → Prop) (KC : List Ent → List (Nat × Nat) → AS → Prop)
theorem guardW_tt {A B : AS → Prop} : guardW A B true (.c (.bool true)) σ = A σ := by simp [guardW]
theorem guardW_tf {A B : AS → Prop} : guardW A B true (.c (.bool false)) σ = B σ := by simp [guardW]
theorem runW_is (o : Oper) (C : List Ent → List (Nat × Nat) → AS → Prop) : runW P o es prs C σ = wRun P σ o (contW σ o es prs C) := Eq.trans rfl rfl
theorem skipW_is (o : Oper) (C : List Ent → List (Nat × Nat) → AS → Prop) : skipW o es prs C σ = C (es ++ [⟨[], [], [], [], [], []⟩]) prs (σ.put o.dst (.tup [])) := Eq.trans rfl rfl
theorem wRun_is : wRun P ⟨n, t, h⟩ ⟨d, op, ty, p, a, g⟩ KW = (allLt h.length (namesL (opVals ⟨n, t, h⟩ op)) = true ∧ allLt h.length (namesH (maskH (readO ⟨n, t, h⟩ op) h)) = true ∧ wOp P ⟨n, t, maskH (readO ⟨n, t, h⟩ op) h⟩ ⟨d, op, ty, p, a, g⟩ KW) := Eq.trans rfl rfl
theorem wOp_is : wOp P σ ⟨d, op, ty, p, a, g⟩ KW = if pureOp op = true then apureO P σ op (keepK σ.h KW) else if isCallV op = true then callXW P σ KW op else astepO P σ op (stepK KW) := Eq.trans rfl rfl
theorem callXW_is (f : Operand) (args : Array Operand) (ats : Array TypeId) : callXW P σ KW (.call ⟨.value f, args, ats⟩) = callXV P σ (args.toList.map (aev σ)) KW (aev σ f) := Eq.trans rfl rfl
theorem callXV_is (xs : List AV) (g : FuncId) (cap : List AV) : callXV P σ xs KW (.fn g cap) = CallX P σ g (xs ++ cap) KW := Eq.trans rfl rfl
theorem keepK_is : keepK h KW v = KW v [] h := Eq.trans rfl rfl
theorem stepK_is (hk : Heap) : stepK KW v hk ks h' = KW v ks h' := Eq.trans rfl rfl
theorem contW_is : contW ⟨n, t, h⟩ ⟨d, op, ty, p, a, g⟩ es prs KC v ks h' = (allLt h.length ks = true ∧ h.length ≤ h'.length ∧ allLt h'.length (namesV v ++ namesH (setH (touchO ⟨n, t, h⟩ op ++ ks) h.length h')) = true ∧ KC (es ++ [⟨readO ⟨n, t, h⟩ op, namesL (opVals ⟨n, t, h⟩ op) ++ namesH (maskH (readO ⟨n, t, h⟩ op) h), touchO ⟨n, t, h⟩ op ++ ks, newL h.length h'.length, ks, namesV v ++ namesH (setH (touchO ⟨n, t, h⟩ op ++ ks) h.length h')⟩]) (prs ++ confs es.length ⟨readO ⟨n, t, h⟩ op, namesL (opVals ⟨n, t, h⟩ op) ++ namesH (maskH (readO ⟨n, t, h⟩ op) h), touchO ⟨n, t, h⟩ op ++ ks, newL h.length h'.length, ks, namesV v ++ namesH (setH (touchO ⟨n, t, h⟩ op ++ ks) h.length h')⟩ 0 es) (nextW ⟨n, t, h⟩ ⟨d, op, ty, p, a, g⟩ v ks h')) := Eq.trans rfl rfl
theorem nextW_n : nextW ⟨n, t, h⟩ ⟨none, op, ty, p, a, g⟩ v ks h' = ⟨n, killT [] ks t, mergeH (touchO ⟨n, t, h⟩ op ++ ks) ks h h'⟩ := Eq.trans rfl rfl
theorem nextW_s : nextW ⟨n, t, h⟩ ⟨some s, op, ty, p, a, g⟩ v ks h' = ⟨n, (s, v) :: killT [] ks t, mergeH (touchO ⟨n, t, h⟩ op ++ ks) ks h h'⟩ := Eq.trans rfl rfl
end
section
variable (i j : Nat) (F rd T N ks vn F' rd' T' N' ks' vn' : List Nat) (b : Ent) (r : List Ent)
theorem confs_nil : confs i b j [] = [] := Eq.trans rfl rfl
theorem confs_cons (a : Ent) : confs i b j (a :: r) = if conf a b = true then (j, i) :: confs i b (j + 1) r else confs i b (j + 1) r := Eq.trans rfl rfl
theorem conf_is : conf ⟨F, rd, T, N, ks, vn⟩ ⟨F', rd', T', N', ks', vn'⟩ = (meet T (F' ++ T') || (meet T' F || (meet ks' rd || (meet ks vn' || meet N (F' ++ (T' ++ (rd' ++ vn'))))))) := Eq.trans rfl rfl
theorem meet_nil (y : List Nat) : meet [] y = false := rfl
theorem meet_cons (x : List Nat) (y : List Nat) : meet (i :: x) y = (y.any (fun j => i == j) || meet x y) := by simp [meet]
end
section
variable (σ : AS) (x y z : Operand) (t t' : TypeId)
theorem opV_move : opVals σ (.move x) = [aev σ x] := Eq.trans rfl rfl
theorem opV_assign : opVals σ (.assign x) = [aev σ x] := Eq.trans rfl rfl
theorem opV_alloc : opVals σ (.alloc t) = [] := Eq.trans rfl rfl
theorem opV_load : opVals σ (.load t x) = [aev σ x] := Eq.trans rfl rfl
theorem opV_binOp (k : BinOp) : opVals σ (.binOp k t x y t') = [aev σ x, aev σ y] := Eq.trans rfl rfl
theorem opV_slice (l h m : Option Operand) : opVals σ (.slice t x l h m) = aev σ x :: (l.toList.map (aev σ) ++ (h.toList.map (aev σ) ++ m.toList.map (aev σ))) := by cases l <;> cases h <;> cases m <;> rfl
theorem opV_fieldAddr (f : Nat) : opVals σ (.fieldAddr t x f) = [aev σ x] := Eq.trans rfl rfl
theorem opV_pick : opVals σ (.pick x y z) = [aev σ x, aev σ y, aev σ z] := Eq.trans rfl rfl
theorem opV_store : opVals σ (.store t x y) = [aev σ x, aev σ y] := Eq.trans rfl rfl
theorem opV_indexAddr : opVals σ (.indexAddr t x y) = [aev σ x, aev σ y] := Eq.trans rfl rfl
theorem opV_build (ps : Array (Nat × Operand)) : opVals σ (.build t ps) = ps.toList.map fun p => aev σ p.2 := by simp [opVals, Op.operands]
theorem opV_buildSlice (k : Nat) (ps : Array (Nat × Operand)) : opVals σ (.buildSlice t k ps) = ps.toList.map fun p => aev σ p.2 := by simp [opVals, Op.operands]
theorem opV_call (f : Operand) (args : Array Operand) (ats : Array TypeId) : opVals σ (.call ⟨.value f, args, ats⟩) = aev σ f :: args.toList.map (aev σ) := by simp [opVals, Op.operands, Call.operands]
theorem opV_builtin (f : Builtin) (args : Array Operand) (ats : Array TypeId) : opVals σ (.call ⟨.builtin f, args, ats⟩) = args.toList.map (aev σ) := by simp [opVals, Op.operands, Call.operands]
end
section
variable (σ : AS) (x y z : Operand) (t t' : TypeId) (f : Nat) (k : UnOp) (k2 : BinOp) (ps : Array (Nat × Operand)) (l h m : Option Operand) (fn : Fn) (a b : Array Operand) (ats : Array TypeId)
theorem tch_move : touchO σ (.move x) = [] := Eq.trans rfl rfl
theorem tch_assign : touchO σ (.assign x) = [] := Eq.trans rfl rfl
theorem tch_alloc : touchO σ (.alloc t) = [] := Eq.trans rfl rfl
theorem tch_load : touchO σ (.load t x) = [] := Eq.trans rfl rfl
theorem tch_binOp : touchO σ (.binOp k2 t x y t') = [] := Eq.trans rfl rfl
theorem tch_fieldAddr : touchO σ (.fieldAddr t x f) = [] := Eq.trans rfl rfl
theorem tch_pick : touchO σ (.pick x y z) = [] := Eq.trans rfl rfl
theorem tch_indexAddr : touchO σ (.indexAddr t x y) = [] := Eq.trans rfl rfl
theorem tch_build : touchO σ (.build t ps) = [] := Eq.trans rfl rfl
theorem tch_buildSlice : touchO σ (.buildSlice t f ps) = [] := Eq.trans rfl rfl
theorem tch_slice : touchO σ (.slice t x l h m) = [] := Eq.trans rfl rfl
theorem tch_callv : touchO σ (.call ⟨.value x, a, ats⟩) = [] := Eq.trans rfl rfl
theorem tch_len : touchO σ (.call ⟨.builtin .len, a, ats⟩) = [] := Eq.trans rfl rfl
theorem tch_store : touchO σ (.store t x y) = namesV (aev σ x) := Eq.trans rfl rfl
theorem tch_app : touchO σ (.call ⟨.builtin .append, #[x, y], ats⟩) = namesV (aev σ x) := Eq.trans rfl rfl
theorem rd_move : readO σ (.move x) = [] := Eq.trans rfl rfl
theorem rd_assign : readO σ (.assign x) = [] := Eq.trans rfl rfl
theorem rd_alloc : readO σ (.alloc t) = [] := Eq.trans rfl rfl
theorem rd_load : readO σ (.load t x) = namesL (opVals σ (.load t x)) := Eq.trans rfl rfl
theorem rd_binOp : readO σ (.binOp k2 t x y t') = [] := Eq.trans rfl rfl
theorem rd_fieldAddr : readO σ (.fieldAddr t x f) = [] := Eq.trans rfl rfl
theorem rd_pick : readO σ (.pick x y z) = [] := Eq.trans rfl rfl
theorem rd_indexAddr : readO σ (.indexAddr t x y) = namesL (opVals σ (.indexAddr t x y)) := Eq.trans rfl rfl
theorem rd_build : readO σ (.build t ps) = [] := Eq.trans rfl rfl
theorem rd_buildSlice : readO σ (.buildSlice t f ps) = namesL (opVals σ (.buildSlice t f ps)) := Eq.trans rfl rfl
theorem rd_slice : readO σ (.slice t x l h m) = namesL (opVals σ (.slice t x l h m)) := Eq.trans rfl rfl
theorem rd_callv : readO σ (.call ⟨.value x, a, ats⟩) = namesL (opVals σ (.call ⟨.value x, a, ats⟩)) := Eq.trans rfl rfl
theorem rd_len : readO σ (.call ⟨.builtin .len, a, ats⟩) = namesL (opVals σ (.call ⟨.builtin .len, a, ats⟩)) := Eq.trans rfl rfl
theorem rd_store : readO σ (.store t x y) = namesL (opVals σ (.store t x y)) := Eq.trans rfl rfl
theorem rd_app : readO σ (.call ⟨.builtin .append, a, ats⟩) = namesL (opVals σ (.call ⟨.builtin .append, a, ats⟩)) := Eq.trans rfl rfl
end
section
variable (v : Value) (xs : List AV) (nn : Bool) (st n L i j k : Nat) (es : List (List AV)) (f : FuncId) (x : AV)
theorem namesV_c : namesV (.c v) = [] := Eq.trans rfl rfl
theorem shV_c : shV k (.c v) = (.c v) := Eq.trans rfl rfl
theorem namesV_nils : namesV .nils = [] := Eq.trans rfl rfl
theorem namesV_junk : namesV .junk = [] := Eq.trans rfl rfl
theorem namesV_sl : namesV (.sl nn st es) = [] := Eq.trans rfl rfl
theorem namesV_cut : namesV (.cut st es) = [] := Eq.trans rfl rfl
theorem namesV_dptr : namesV (.dptr xs) = [] := Eq.trans rfl rfl
theorem namesV_ptr : namesV (.ptr L j) = [L] := Eq.trans rfl rfl
theorem namesV_mp : namesV (.mp L) = [L] := Eq.trans rfl rfl
theorem namesV_own : namesV (.own L st n) = [L] := Eq.trans rfl rfl
theorem shV_own : shV k (.own L st n) = (.own (k + L) st n) := Eq.trans rfl rfl
theorem namesV_agg : namesV (.agg xs) = namesL xs := Eq.trans rfl rfl
theorem shV_agg : shV k (.agg xs) = (.agg (shL k xs)) := Eq.trans rfl rfl
theorem namesV_tup : namesV (.tup xs) = namesL xs := Eq.trans rfl rfl
theorem shV_tup : shV k (.tup xs) = (.tup (shL k xs)) := Eq.trans rfl rfl
theorem namesV_fn : namesV (.fn f xs) = namesL xs := Eq.trans rfl rfl
theorem namesL_nil : namesL [] = [] := Eq.trans rfl rfl
theorem namesL_cons : namesL (x :: xs) = namesV x ++ namesL xs := Eq.trans rfl rfl
theorem shL_nil : shL k [] = [] := Eq.trans rfl rfl
theorem shL_cons : shL k (x :: xs) = shV k x :: shL k xs := Eq.trans rfl rfl
variable (t : TypeId) (h : Heap) (o : Option Blk) (b : Blk) (ks : List Nat) (cs : List AV)
theorem shH_nil : shH k [] = [] := rfl
theorem shH_some : shH k (some b :: h) = some (shB k b) :: shH k h := rfl
theorem shB_row : shB k (.row t st es) = .row t st es := Eq.trans rfl rfl
theorem namesH_nil : namesH [] = [] := Eq.trans rfl rfl
theorem namesH_cons : namesH (o :: h) = namesB o ++ namesH h := Eq.trans rfl rfl
theorem namesB_var : namesB (some (.var t cs)) = namesL cs := Eq.trans rfl rfl
theorem namesB_row : namesB (some (.row t st es)) = [] := Eq.trans rfl rfl
theorem namesB_map (kt : KT) (ms : List (MK × AV)) : namesB (some (.map kt ms)) = [] := Eq.trans rfl rfl
theorem namesB_none : namesB none = [] := Eq.trans rfl rfl
theorem killO_s : killO ks (some (some b)) = some (killB [] ks b) := Eq.trans rfl rfl
theorem killO_n : killO ks (some none) = none := Eq.trans rfl rfl
theorem allLt_is : allLt k ks = ks.all fun i => decide (i < k) := Eq.trans rfl rfl
theorem maskH_is : maskH ks h = h.zipIdx.map fun p => if p.2 ∈ ks then p.1 else none := Eq.trans rfl rfl
theorem mergeH_is (T : List Nat) (h' : Heap) : mergeH T ks h h' = h'.zipIdx.map fun p => if p.2 ∈ T ∨ h.length ≤ p.2 then p.1 else killO ks h[p.2]? := Eq.trans rfl rfl
theorem setH_is : setH ks n h = h.zipIdx.map fun p => if p.2 ∈ ks ∨ n ≤ p.2 then p.1 else none := Eq.trans rfl rfl
theorem newL_is : newL i j = (List.range j).drop i := Eq.trans rfl rfl
end
section
variable {P : Program} {σ : AS} {g : FuncId} {xs ds : List AV} {res : AV} {hr : Heap} {K : AV → List Nat → Heap → Prop}
theorem callx_meets (hm : Meets P g ds res) (hds : toDL σ.h xs = some ds) (hc : (flat res || (ownsL xs).isEmpty) = true) (h : K res [] σ.h) : CallX P σ g xs K := ⟨ds, hds, .inl ⟨res, hm, hc, h⟩⟩
theorem callx_meetsO (hm : MeetsO P g ds res hr) (hds : toDL σ.h xs = some ds) (hc : (ownsL xs).isEmpty = true ∨ Closed res hr) (h : K (shV σ.h.length res) [] (σ.h ++ shH σ.h.length hr)) : CallX P σ g xs K := ⟨ds, hds, .inr (.inl ⟨res, hr, hm, hc, h⟩)⟩
end
section
variable (P : Program) (σ : AS) (t : TypeId) (lo hi mx : Option AV) (K : AV → Heap → List Nat → Heap → Prop) (v : Value) (nn : Bool) (st n L j : Nat) (es : List (List AV)) (xs : List AV) (Kp : AV → Prop) (h : Heap) (ks : List Nat) (x : AV)
theorem pureK_is : pureK h K x = K x [] [] h := Eq.trans rfl rfl
theorem sliceP_c : sliceP P σ t lo hi mx K (.c v) = sliceA P t lo hi mx (pureK σ.h K) (.c v) := Eq.trans rfl rfl
theorem sliceP_sl : sliceP P σ t lo hi mx K (.sl nn st es) = sliceA P t lo hi mx (pureK σ.h K) (.sl nn st es) := Eq.trans rfl rfl
theorem sliceP_own : sliceP P σ t lo hi mx K (.own L st n) = sliceA P t lo hi mx (pureK σ.h K) (.own L st n) := Eq.trans rfl rfl
theorem ptrD_is : ptrD h L j = match h[L]? with
    | some (some (.var _ cs)) => if isDL cs = true then some (.dptr (cs.drop j)) else none
    | _ => none := Eq.trans rfl rfl
end
theorem MeetsO.weak {P : Program} {f : FuncId} {args : List AV} {res : AV} {hr : Heap} (h : MeetsO P f args res hr) (hc : Closed res hr) : MeetsO P f args res hr ∧ Closed res hr := ⟨h, hc⟩
theorem MeetsO.parts {P : Program} {f : FuncId} {pre post : List AV} {st : Nat} {es : List (List AV)} {res : AV} {hr : Heap} (h1 : MeetsO P f (pre ++ .sl true st es :: post) res hr) (h2 : es = [] → MeetsO P f (pre ++ .nils :: post) res hr) : MeetsO P f (pre ++ .sl false st es :: post) res hr := by
  refine ⟨h1.1, fun ok w vs hok hd => ?_⟩
  obtain ⟨us, v, vs', rfl, a1, a2, a3⟩ := hd.split
  obtain ⟨A, cap, rfl, ⟨_, hc, hcl⟩, hr⟩ := a2
  cases A with
  | none =>
    obtain rfl := hc rfl
    have he : es = [] := by
      rcases Nat.eq_zero_or_pos es.length with h0 | h0
      · exact List.eq_nil_of_length_eq_zero h0
      · obtain ⟨b, o, h, _⟩ := hr h0; cases h
    subst he
    exact (h2 rfl).2 ok w _ hok (RepDL.join a1 rfl a3)
  | some a => exact h1.2 ok w _ hok (RepDL.join a1 ⟨_, cap, rfl, ⟨fun _ h => (by cases h), fun h => (by cases h), hcl⟩, hr⟩ a3)
theorem MeetsO.nil {P : Program} {f : FuncId} {pre post : List AV} {st : Nat} {res : AV} {hr : Heap} (h : MeetsO P f (pre ++ .sl false st [] :: post) res hr) : MeetsO P f (pre ++ .nils :: post) res hr :=
  ⟨h.1, fun ok w vs hok hd => by
    obtain ⟨us, v, vs', rfl, a1, a2, a3⟩ := hd.split
    exact h.2 ok w _ hok (RepDL.join a1 ⟨none, 0, a2, ⟨fun h => (by cases h), fun _ => rfl, Nat.le_refl _⟩, fun h0 => by simp at h0⟩ a3)⟩
/-- Arguments that say less. -/
theorem Meets.args {P : Program} {f : FuncId} {args args' : List AV} {res : AV} (h : Meets P f args res) (ha : ∀ ok w vs, RepDL ok w args' vs → RepDL ok w args vs) : Meets P f args' res := ⟨h.1, fun ok w vs hok hd => h.2 ok w vs hok (ha ok w vs hd)⟩
/-- Names at the end that nothing names. -/
theorem MeetsO.data {P : Program} {f : FuncId} {args : List AV} {res d : AV} {hr : Heap} (h : MeetsO P f args res hr) (hd : toD hr res = some d) : Meets P f args d := by
  refine ⟨h.1, fun ok w vs hok hv => (h.2 ok w vs hok hv).mono fun en w' hp => ?_⟩
  obtain ⟨v, m1, ok1, he, hmo, r, hres⟩ := hp
  refine ⟨v, he, RepD.mono (fun b hb => ?_) (fun _ _ _ => rfl) d (toD_ok r.own res hd hres), r.bel⟩
  rcases hb with hb | ⟨L, _, hb⟩
  · rcases r.oko b hb with h1 | h1
    · exact Or.inl h1
    · exact Or.inr ⟨h1, r.okb b hb⟩
  · exact Or.inr (r.new L b hb)
section
variable (σ : AS) (e : TypeId) (st len : Nat) (z : List Value) (parts : Array (Nat × Operand)) (K : AV → Heap → List Nat → Heap → Prop) (cs : List AV)
theorem bsF2_is : bsF2 σ e st len parts K cs = (isDL cs = true ∧ K (.own σ.h.length st len) σ.h (ownsL (parts.toList.map fun p => aev σ p.2)) (killH σ.h (ownsL (parts.toList.map fun p => aev σ p.2)) (dropL (ownsL (parts.toList.map fun p => aev σ p.2)) σ.h) ++ [some (.row e st (chunk len st cs))])) := Eq.trans rfl rfl
theorem bsF1_is : bsF1 σ e st len z parts K cs = elO (fillA (fun i => some (i * st, st)) ((List.range (len * st)).map fun k => (z.map cvc)[k % st]?.getD .junk) ((parts.toList.map Prod.fst).zip cs)) (bsF2 σ e st len parts K) := Eq.trans rfl rfl
theorem bsF0_s (ds : List AV) : bsF0 σ e st len z parts K cs (some ds) = bsF1 σ e st len z parts K ds := Eq.trans rfl rfl
theorem bsEnd_is : bsEnd σ e st len z parts K cs = if isDL cs = true then K (.own σ.h.length st len) [] [] (σ.h ++ [some (.row e st (chunk len st cs))]) else bsF0 σ e st len z parts K cs (toDL σ.h (parts.toList.map fun p => aev σ p.2)) := Eq.trans rfl rfl
end
end

-- part 23
section
open RowKit
/-! Maps, as rules. -/
section
variable (P : Program) (σ : AS) (h : Heap) (t e k : TypeId) (ok : Bool) (K : AV → Prop) (key x z : AV) (L : Nat) (m ko xo : Operand) (rs : Option Operand) (KH : AV → Heap → List Nat → Heap → Prop) (mk mk' : MK) (es : List (MK × AV)) (v : Value) (nn : Bool) (st n : Nat) (els : List (List AV)) (ks : List Nat)
theorem opV_lookup : opVals σ (.lookup t m ko ok) = [aev σ m, aev σ ko] := Eq.trans rfl rfl
theorem tch_lookup : touchO σ (.lookup t m ko ok) = [] := Eq.trans rfl rfl
theorem rd_lookup : readO σ (.lookup t m ko ok) = namesL (opVals σ (.lookup t m ko ok)) := Eq.trans rfl rfl
theorem mapT_is (KT2 : KT → TypeId → Prop) : mapT P t KT2 = elO (td P t) fun D => elO D.mp fun p => kindK P p.1 fun kt => KT2 kt p.2 := Eq.trans rfl rfl
theorem kindK_is (KT1 : KT → Prop) : kindK P k KT1 = elO (td P k) fun D => if D.str = true then KT1 .s else elO D.ik fun q => KT1 (.i q) := Eq.trans rfl rfl
theorem mmakA_n : mmakA P σ t KH none = mapT P t fun kt _ => KH (.mp σ.h.length) [] [] (σ.h ++ [some (.map kt [])]) := Eq.trans rfl rfl
theorem mupA_m : mupA P h t KH key x (.mp L) = match h[L]? with
    | some (some (.map kt es)) => mapT P t fun kt' _ => kt' = kt ∧ isD x = true ∧ elO (keyA kt key) fun mk => KH .junk [] [] (h.set L (some (.map kt (mput mk x es))))
    | _ => False := Eq.trans rfl rfl
theorem lookA_m : lookA P h t ok K key (.mp L) = match h[L]? with
    | some (some (.map kt es)) => mapT P t fun kt' e => kt' = kt ∧ elO (keyA kt key) fun mk => elO (td P e) fun E => elO E.zv fun z => lookK ok (cv z) K (mget mk es)
    | _ => False := Eq.trans rfl rfl
theorem mlenA_c : mlenA P h t K (.c v) = elO (td P t) fun D => lenK D (.c v) = true ∧ elO (lenA (.c v)) fun n => K (.c (.int .i64 n)) := Eq.trans rfl rfl
theorem mlenA_sl : mlenA P h t K (.sl nn st els) = elO (td P t) fun D => lenK D (.sl nn st els) = true ∧ elO (lenA (.sl nn st els)) fun n => K (.c (.int .i64 n)) := Eq.trans rfl rfl
theorem mlenA_own : mlenA P h t K (.own L st n) = elO (td P t) fun D => lenK D (.own L st n) = true ∧ elO (lenA (.own L st n)) fun n => K (.c (.int .i64 n)) := Eq.trans rfl rfl
theorem nilA_ptr (j : Nat) : nilA K (.ptr L j) = K (.ptr L j) := Eq.trans rfl rfl
theorem eqFK_nil (xs ys : List AV) (KB : Bool → Prop) : eqFK P xs ys [] KB = KB true := Eq.trans rfl rfl
theorem eqFK_cons (xs ys : List AV) (f : Nat × TypeId) (r : List (Nat × TypeId)) (KB : Bool → Prop) : eqFK P xs ys (f :: r) KB = elO (td P f.2) fun F => elO xs[f.1]? fun x => elO ys[f.1]? fun y => eqCK F (fun a => eqFK P xs ys r fun b => KB (a && b)) x y := Eq.trans rfl rfl
theorem eqOpK_e (b : Bool) : eqOpK .eql K b = K (.c (.bool b)) := Eq.trans rfl rfl
theorem eqOpK_n (b : Bool) : eqOpK .neq K b = K (.c (.bool (!b))) := Eq.trans rfl rfl
theorem mkfA_fn (f : FuncId) (cap : List AV) : mkfA f cap K [] = K (.fn f cap) := Eq.trans rfl rfl
theorem opV_nilCheck : opVals σ (.nilCheck m) = [aev σ m] := Eq.trans rfl rfl
theorem tch_nilCheck : touchO σ (.nilCheck m) = [] := Eq.trans rfl rfl
theorem rd_nilCheck : readO σ (.nilCheck m) = [] := Eq.trans rfl rfl
theorem keyA_s (b : ByteArray) : keyA .s (.c (.string b)) = some (.s b) := rfl
end

section
variable {Y : YT} (P : Program) (ops : Array Oper) (K : AS → Prop) (d : Option Tmp) (op : Op) (ty : TypeId) (p : String) (a : Array Edge) (l : List Oper) (σ : AS) (j n : Nat) (w : Bool)
end

/-! 'slices.Sorted(maps.Keys(m))', by its contract. -/
def keyL : MK → List UInt8
  | .s b => b.data.toList
  | .i _ => []
/-- The keys of a map, sorted. -/
def sortedK (es : List (MK × AV)) : List (List UInt8) := (es.map fun p => keyL p.1).mergeSort leB
def KeysSorted (P : Program) (g gk : FuncId) : Prop :=
  Proofs.Enters P g ∧ ∀ (B b : Nat) (l : Array MapEntry) (clock : Nat) (w : World), w.cell? ⟨B, 0, none⟩ = some (.map (some b)) → w.heap[b]? = some (.map l clock) → MapKept.Stamped l clock → l.size * 16 ≤ 140737488355328 →
    ∀ ks : List (List UInt8), l.toList.map (·.key) = ks.map Proofs.encStr → (∀ k ∈ ks, k.length ≤ maxLen) →
      Calls P g #[.func (.func gk) #[] #[.pointer (some ⟨B, 0, none⟩)]] w fun e w' => ∃ v t, e = .returned v ∧ w'.ownsRow w.heap.size t 1 v ks.length ((ks.mergeSort leB).map Proofs.encStr) ∧ Below w.heap.size w w'

theorem rows_cells {ok : Nat → Prop} {w : World} {b : Nat} : ∀ (us : List Value) (o : Nat), (∀ u ∈ us, u.oneCell' = true) → (∀ (j : Nat) u, us[j]? = some u → w.cell? ⟨b, o + j, none⟩ = some u) → RepEs ok w 1 b o (us.map fun u => [.c u])
  | [], _, _, _ => trivial
  | u :: us, o, h1, hc => ⟨rfl, ⟨⟨u, hc 0 u rfl, h1 u (by simp), rfl⟩, trivial⟩, rows_cells us (o + 1) (fun u hu => h1 u (by simp [hu])) fun j u hj => by
      have := hc (j + 1) u (by simpa using hj)
      rwa [show o + (j + 1) = o + 1 + j by omega] at this⟩
theorem rows_rep {w : World} {base : Nat} {t : TypeId} {v : Value} {us : List Value} (h : w.ownsRow base t 1 v us.length us) (h1 : ∀ u ∈ us, u.oneCell' = true) : RepD (fun b => base ≤ b ∧ b < w.heap.size) w (.sl false 1 (us.map fun u => [.c u])) v := by
  rcases h.2 with ⟨rfl, hz⟩ | ⟨g, cap, cur, rfl, hb, hg, r1, r2, r3, r4⟩
  · refine ⟨none, 0, by simp [hz], ⟨fun h => (by cases h), fun _ => rfl, by simp [hz]⟩, fun h0 => by simp at h0; omega⟩
  · refine ⟨_, cap, by simp, ⟨fun h => (by cases h), fun h => (by cases h), by simpa using r1⟩, fun _ => ⟨g, 0, rfl, ⟨hb, (Array.getElem?_eq_some_iff.1 hg).1⟩, rows_cells us 0 h1 fun j u hj => ?_⟩⟩
    have hj' : j < us.length := (List.getElem?_eq_some_iff.1 hj).1
    rw [← r4, List.getElem?_take, if_pos (by omega)] at hj
    unfold World.cell?
    simp only [hg, Nat.zero_add]
    simpa using hj

theorem MapEs.keyLs {ok : Nat → Prop} {w : World} : ∀ {l : List MapEntry} {es : List (MK × AV)}, MapEs ok w .s l es → l.map (·.key) = (es.map fun p => keyL p.1).map Proofs.encStr
  | [], _, h => by cases h; rfl
  | e :: l, _, ⟨p, r, he, hk, ho, _, hr⟩ => by
    rw [he, List.map_cons, List.map_cons, List.map_cons, MapEs.keyLs hr, hk]
    congr 1
    cases hp : p.1 with
    | s b => simp [keyV, keyL, Proofs.encStr]
    | i n => rw [hp] at ho; cases ho

theorem call_sorted {P : Program} {σ : AS} {dst : Option Tmp} {g gk : FuncId} {L M : Nat} {t : TypeId} {es : List (MK × AV)} {K : AS → Prop} (hc : KeysSorted P g gk) (hL : σ.h[L]? = some (some (.var t [.mp M]))) (hM : σ.h[M]? = some (some (.map .s es)))
    (hk : ∀ p ∈ es, (keyL p.1).length ≤ maxLen) (hn : es.length * 16 ≤ 140737488355328) (h : K (σ.upd dst (.sl false 1 ((sortedK es).map fun k => [.c (Proofs.encStr k)])) [] [] σ.h)) : CallS P σ dst g [.fn gk [.ptr L 0]] K := by
  refine ⟨hc.1, fun w0 ok0 m ok ρ w vs hx ht r => ?_⟩
  obtain ⟨v, _, rfl, hv, rfl⟩ := hx
  obtain ⟨us, rfl, hu⟩ := hv
  obtain ⟨p, _, hus, ⟨B, hmB, rfl⟩, rfl⟩ := hu
  obtain ⟨B', cs, hm', hb, hcs, _⟩ := r.own L _ hL
  rw [hmB] at hm'; cases hm'
  obtain ⟨u0, _, hcs0, ⟨b, hmb, rfl⟩, rfl⟩ := hcs
  obtain ⟨b', l, clock, hm', hl, hst, hr⟩ := r.own M _ hM
  rw [hmb] at hm'; cases hm'
  have hcell : w.cell? ⟨B, 0, none⟩ = some (.map (some b)) := by
    unfold World.cell?
    simp only [hb]
    have : cs[0]? = some (.map (some b)) := by
      have h0 : cs.toList[0]? = some (.map (some b)) := by rw [hcs0]; rfl
      simpa using h0
    simpa using this
  have hus' : us = #[.pointer (some ⟨B, 0, none⟩)] := by
    apply Array.ext'
    simpa using hus
  subst hus'
  have hlen : l.size = es.length := by rw [← hr.length]; simp
  refine (hc.2 B b l clock w hcell hl hst (by omega) _ hr.keyLs fun k hk' => ?_).mono fun e w' hp => ?_
  · obtain ⟨p, hp, rfl⟩ := List.mem_map.1 hk'
    exact hk p hp
  · obtain ⟨v, t', he, hrow, hB⟩ := hp
    obtain ⟨g', r'⟩ := r.grown hB (ok' := fun b => ok b ∨ (w.heap.size ≤ b ∧ b < w'.heap.size)) (fun b hb => Or.inl hb) (fun b hb => hb)
    have hl2 : ((sortedK es).map Proofs.encStr).length = (es.map fun p => keyL p.1).length := by unfold sortedK; simp
    have hres := rows_rep (us := (sortedK es).map Proofs.encStr) (by rw [hl2]; exact hrow) (fun u hu => by obtain ⟨k, _, rfl⟩ := List.mem_map.1 hu; rfl)
    rw [List.map_map] at hres
    have hres' : RepD (fun b => ok b ∨ (w.heap.size ≤ b ∧ b < w'.heap.size)) w' (.sl false 1 ((sortedK es).map fun k => [.c (Proofs.encStr k)])) v := RepD.mono (fun b hb => Or.inr hb) (fun _ _ _ => rfl) _ hres
    exact ⟨v, _, m, _, he, g'.others, by cases dst <;> rfl, h, by cases dst <;> exact r', slot_upd ht g' (RepD.up _ hres')⟩
end

-- part 24
section
open RowKit
end

end Go.Proofs.Ytgjamefpphhobaa.Eng
