/-
  The plain mathematics of streams: what stands behind a stream makes no difference; with fewer bytes it is too short; with too little room it is refused.
-/
import Derived.Test.YtjijkcmbbccfmaaDoorT3
import Derived.Test.YtjijkcmbbccfmaaDoorT4
namespace Go.Proofs.YtjijkcmbbccfmaaDoor

/-- Up to B bits the second answers as the first; where the first goes on beyond B, the second is too short (if sh). -/
def Cut {α : Type} (B : Nat) (sh : Prop) (r s : Rs α) : Prop := ∀ a t', r = .ok a t' → (t' ≤ B → s = .ok a t') ∧ (sh → B < t' → s = .bad .short)
/-- The same of what is put out, with room for L. -/
def CutO (B : Nat) (sh : Prop) (L : Nat) (r s : Rs (List Int)) : Prop :=
  ∀ o t', r = .ok o t' → (t' ≤ B → o.length ≤ L → s = .ok o t') ∧ (t' ≤ B → L < o.length → s = .bad .limit) ∧ (sh → B < t' → o.length ≤ L → s = .bad .short)
section
variable {α β : Type} {B L : Nat} {sh : Prop}
theorem Cut.pure (a : α) (t : Nat) (h : t ≤ B) : Cut B sh (.ok a t) (.ok a t) := by
  intro a' t' e
  cases e
  exact ⟨fun _ => rfl, fun _ h' => by omega⟩
theorem Cut.bad (e : Er) (s : Rs α) : Cut B sh (.bad e) s := fun _ _ h => by cases h
theorem CutO.bad (e : Er) (s : Rs (List Int)) : CutO B sh L (.bad e) s := fun _ _ h => by cases h
theorem CutO.pure (o : List Int) (t : Nat) (h : t ≤ B) (hl : o.length ≤ L) : CutO B sh L (.ok o t) (.ok o t) := by
  intro a' t' e
  cases e
  exact ⟨fun _ _ => rfl, fun _ h' => by omega, fun _ h' _ => by omega⟩
end

/-- q has the bits of p up to B. -/
structure Agr (p q : List Int) (B : Nat) : Prop where
  bits : ∀ i, i < B → bitF q i = bitF p i
  le : B ≤ 8 * q.length
theorem valF_agr {p q : List Int} {B : Nat} (h : Agr p q B) : ∀ (n t : Nat), t + n ≤ B → valF q t n = valF p t n
  | 0, _, _ => rfl
  | n + 1, t, ht => by rw [valF, valF, h.bits t (by omega), valF_agr h n (t + 1) (by omega)]
section
variable {p q : List Int} {B L M : Nat}
theorem numF_cut (h : Agr p q B) (n t : Nat) : Cut B (8 * q.length = B) (numF p n t) (numF q n t) := by
  intro v t' e
  unfold numF at e ⊢
  split at e
  · cases e
    refine ⟨fun hB => ?_, fun hs hB => ?_⟩
    · have := h.le
      rw [if_pos (by omega), valF_agr h n t hB]
    · rw [if_neg (by omega)]
  · cases e
theorem symGo_cut (h : Agr p q B) (syms : List Int) : ∀ (cs : List Int) (past at_ : Int) (t : Nat), Cut B (8 * q.length = B) (symGo p syms cs past at_ t) (symGo q syms cs past at_ t)
  | [], _, _, _ => Cut.bad _ _
  | c :: cs, past, at_, t => by
    have ha := h
    intro a t' h
    rw [symGo] at h ⊢
    rcases hxt1 : numF p 1 t with ⟨b, t1⟩ | er
    · rw [hxt1] at h
      dsimp only at h
      obtain ⟨c1, c2⟩ := numF_cut ha 1 t b t1 hxt1
      have hmo : t1 ≤ t' := by
        split at h
        · cases h; omega
        · have := symGo_ok p syms _ _ _ _ _ _ h
          omega
      rcases Nat.lt_or_ge B t1 with hB | hB
      · exact ⟨fun _ => by omega, fun hs _ => by simp only [c2 hs hB]⟩
      · rw [c1 hB]
        dsimp only
        clear c1 c2
        split at h
        · rename_i hc
          rw [if_pos hc]
          exact Cut.pure _ _ hB a t' h
        · rename_i hc
          rw [if_neg hc]
          exact symGo_cut ha syms cs _ _ t1 a t' h
    · rw [hxt1] at h; cases h
theorem symF_cut (h : Agr p q B) (c : Cd) (t : Nat) : Cut B (8 * q.length = B) (symF p c t) (symF q c t) := symGo_cut h _ _ _ _ _
theorem lcGo_mono (p : List Int) : ∀ (os acc : List Int) (t : Nat) (L : List Int) (t' : Nat), lcGo p os acc t = .ok L t' → t ≤ t'
  | [], acc, t, L, t', h => by rw [lcGo] at h; cases h; omega
  | o :: os, acc, t, L, t', h => by
    rw [lcGo] at h
    rcases h3 : numF p 3 t with ⟨v, t3⟩ | er
    · rw [h3] at h
      dsimp only at h
      have := numF_ok h3
      have := lcGo_mono p os _ _ _ _ h
      omega
    · rw [h3] at h; cases h
theorem lcGo_cut (h : Agr p q B) : ∀ (os acc : List Int) (t : Nat), t ≤ B → Cut B (8 * q.length = B) (lcGo p os acc t) (lcGo q os acc t)
  | [], acc, t, ht => Cut.pure _ _ ht
  | o :: os, acc, t, _ => by
    have ha := h
    intro a t' h
    rw [lcGo] at h ⊢
    rcases hxt1 : numF p 3 t with ⟨v, t1⟩ | er
    · rw [hxt1] at h
      dsimp only at h
      obtain ⟨c1, c2⟩ := numF_cut ha 3 t v t1 hxt1
      have hmo : t1 ≤ t' := by
        exact lcGo_mono p _ _ _ _ _ h
      rcases Nat.lt_or_ge B t1 with hB | hB
      · exact ⟨fun _ => by omega, fun hs _ => by simp only [c2 hs hB]⟩
      · rw [c1 hB]
        dsimp only
        clear c1 c2
        exact lcGo_cut ha os _ t1 hB a t' h
    · rw [hxt1] at h; cases h
theorem lcF_cut (h : Agr p q B) (n t : Nat) (ht : t ≤ B) : Cut B (8 * q.length = B) (lcF p n t) (lcF q n t) := by
  have ha := h
  intro a t' h
  unfold lcF at h ⊢
  rcases hxt1 : lcGo p (orderL.take n) (List.replicate 19 0) t with ⟨v, t1⟩ | er
  · rw [hxt1] at h
    dsimp only at h
    obtain ⟨c1, c2⟩ := lcGo_cut ha (orderL.take n) (List.replicate 19 0) t ht v t1 hxt1
    have hmo : t1 ≤ t' := by
      generalize mkCd v = C at h
      split at h
      · cases h; omega
      · cases h
    rcases Nat.lt_or_ge B t1 with hB | hB
    · exact ⟨fun _ => by omega, fun hs _ => by simp only [c2 hs hB]⟩
    · rw [c1 hB]
      dsimp only
      clear c1 c2
      generalize mkCd v = C at h ⊢
      split at h
      · rename_i hc
        rw [if_pos hc]
        exact Cut.pure _ _ hB a t' h
      · cases h
  · rw [hxt1] at h; cases h
theorem timesF_cut (h : Agr p q B) (s : Int) (t : Nat) : Cut B (8 * q.length = B) (timesF p s t) (timesF q s t) := by
  have ha := h
  intro a t' h
  unfold timesF at h ⊢
  rcases hxt1 : numF p (if s = 17 then 3 else if s = 18 then 7 else 2) t with ⟨v, t1⟩ | er
  · rw [hxt1] at h
    dsimp only at h
    obtain ⟨c1, c2⟩ := numF_cut ha _ t v t1 hxt1
    have hmo : t1 ≤ t' := by
      cases h; omega
    rcases Nat.lt_or_ge B t1 with hB | hB
    · exact ⟨fun _ => by omega, fun hs _ => by simp only [c2 hs hB]⟩
    · rw [c1 hB]
      dsimp only
      clear c1 c2
      exact Cut.pure _ _ hB a t' h
  · rw [hxt1] at h; cases h
theorem timesF_mono {s v : Int} {t t' : Nat} (hq : timesF p s t = .ok v t') : t ≤ t' := by
  unfold timesF at hq
  rcases hn : numF p (if s = 17 then 3 else if s = 18 then 7 else 2) t with ⟨l, t1⟩ | er
  · rw [hn] at hq
    have := numF_ok hn
    cases hq
    omega
  · rw [hn] at hq; cases hq
theorem symF_mono {c : Cd} {v : Int} {t t' : Nat} (hq : symF p c t = .ok v t') : t < t' := (symGo_ok p _ _ _ _ _ _ _ hq).2.1
theorem lensGo_mono (c : Cd) (n : Nat) : ∀ (f : Nat) (L : List Int) (t : Nat) (K : List Int) (t' : Nat), lensGo p c n f L t = .ok K t' → t ≤ t'
  | 0, L, t, K, t', h => by rw [lensGo] at h; cases h; omega
  | f + 1, L, t, K, t', h => by
    rw [lensGo] at h
    split at h
    · rcases hs : symF p c t with ⟨s, t1⟩ | er
      · rw [hs] at h
        dsimp only at h
        have h1 := symF_mono hs
        split at h
        · have := lensGo_mono c n f _ _ _ _ h
          omega
        · split at h
          · cases h
          · rcases ht : timesF p s t1 with ⟨m, t2⟩ | er
            · rw [ht] at h
              dsimp only at h
              have h2 := timesF_mono ht
              split at h
              · cases h
              · have := lensGo_mono c n f _ _ _ _ h
                omega
            · rw [ht] at h; cases h
      · rw [hs] at h; cases h
    · cases h; omega
theorem lensGo_cut (h : Agr p q B) (c : Cd) (n : Nat) : ∀ (f : Nat) (L : List Int) (t : Nat), t ≤ B → Cut B (8 * q.length = B) (lensGo p c n f L t) (lensGo q c n f L t)
  | 0, L, t, ht => Cut.pure _ _ ht
  | f + 1, L, t, ht => by
    have ha := h
    intro a t' h
    rw [lensGo] at h ⊢
    by_cases hl : L.length < n
    · rw [if_pos hl] at h ⊢
      rcases hxt1 : symF p c t with ⟨s, t1⟩ | er
      · rw [hxt1] at h
        dsimp only at h
        obtain ⟨c1, c2⟩ := symF_cut ha c t s t1 hxt1
        have hmo : t1 ≤ t' := by
          split at h
          · exact lensGo_mono c n f _ _ _ _ h
          · split at h
            · cases h
            · rcases ht : timesF p s t1 with ⟨m, t2⟩ | er
              · rw [ht] at h
                dsimp only at h
                have h2 := timesF_mono ht
                split at h
                · cases h
                · have := lensGo_mono c n f _ _ _ _ h
                  omega
              · rw [ht] at h; cases h
        rcases Nat.lt_or_ge B t1 with hB | hB
        · exact ⟨fun _ => by omega, fun hs _ => by simp only [c2 hs hB]⟩
        · rw [c1 hB]
          dsimp only
          clear c1 c2
          by_cases h15 : s ≤ 15
          · rw [if_pos h15] at h ⊢
            exact lensGo_cut ha c n f _ t1 hB a t' h
          · rw [if_neg h15] at h ⊢
            by_cases h16 : s = 16 ∧ L = []
            · rw [if_pos h16] at h; cases h
            · rw [if_neg h16] at h ⊢
              rcases hxt2 : timesF p s t1 with ⟨m, t2⟩ | er
              · rw [hxt2] at h
                dsimp only at h
                obtain ⟨c1, c2⟩ := timesF_cut ha s t1 m t2 hxt2
                have hmo : t2 ≤ t' := by
                  split at h
                  · cases h
                  · exact lensGo_mono c n f _ _ _ _ h
                rcases Nat.lt_or_ge B t2 with hB | hB
                · exact ⟨fun _ => by omega, fun hs _ => by simp only [c2 hs hB]⟩
                · rw [c1 hB]
                  dsimp only
                  clear c1 c2
                  by_cases hm : (n : Int) < L.length + m
                  · rw [if_pos hm] at h; cases h
                  · rw [if_neg hm] at h ⊢
                    exact lensGo_cut ha c n f _ t2 hB a t' h
              · rw [hxt2] at h; cases h
      · rw [hxt1] at h; cases h
    · rw [if_neg hl] at h ⊢
      exact Cut.pure _ _ ht a t' h
theorem lensF_cut (h : Agr p q B) (c : Cd) (n t : Nat) (ht : t ≤ B) : Cut B (8 * q.length = B) (lensF p c n t) (lensF q c n t) := lensGo_cut h c n n [] t ht
theorem countsF_cut (h : Agr p q B) (t : Nat) : Cut B (8 * q.length = B) (countsF p t) (countsF q t) := by
  have ha := h
  intro a t' h
  unfold countsF at h ⊢
  rcases hxt1 : numF p 5 t with ⟨x, t1⟩ | er
  · rw [hxt1] at h
    dsimp only at h
    obtain ⟨c1, c2⟩ := numF_cut ha 5 t x t1 hxt1
    have hmo : t1 ≤ t' := by
      rcases h2 : numF p 5 t1 with ⟨y, t2⟩ | er
      · rw [h2] at h
        dsimp only at h
        rcases h3 : numF p 4 t2 with ⟨z, t3⟩ | er
        · rw [h3] at h
          dsimp only at h
          have := numF_ok h2
          have := numF_ok h3
          split at h
          · cases h
          · cases h; omega
        · rw [h3] at h; cases h
      · rw [h2] at h; cases h
    rcases Nat.lt_or_ge B t1 with hB | hB
    · exact ⟨fun _ => by omega, fun hs _ => by simp only [c2 hs hB]⟩
    · rw [c1 hB]
      dsimp only
      clear c1 c2
      rcases hxt2 : numF p 5 t1 with ⟨y, t2⟩ | er
      · rw [hxt2] at h
        dsimp only at h
        obtain ⟨c1, c2⟩ := numF_cut ha 5 t1 y t2 hxt2
        have hmo : t2 ≤ t' := by
          rcases h3 : numF p 4 t2 with ⟨z, t3⟩ | er
          · rw [h3] at h
            dsimp only at h
            have := numF_ok h3
            split at h
            · cases h
            · cases h; omega
          · rw [h3] at h; cases h
        rcases Nat.lt_or_ge B t2 with hB | hB
        · exact ⟨fun _ => by omega, fun hs _ => by simp only [c2 hs hB]⟩
        · rw [c1 hB]
          dsimp only
          clear c1 c2
          rcases hxt3 : numF p 4 t2 with ⟨z, t3⟩ | er
          · rw [hxt3] at h
            dsimp only at h
            obtain ⟨c1, c2⟩ := numF_cut ha 4 t2 z t3 hxt3
            have hmo : t3 ≤ t' := by
              split at h
              · cases h
              · cases h; omega
            rcases Nat.lt_or_ge B t3 with hB | hB
            · exact ⟨fun _ => by omega, fun hs _ => by simp only [c2 hs hB]⟩
            · rw [c1 hB]
              dsimp only
              clear c1 c2
              by_cases hc : 29 < x ∨ 29 < y
              · rw [if_pos hc] at h; cases h
              · rw [if_neg hc] at h ⊢
                exact Cut.pure _ _ hB a t' h
          · rw [hxt3] at h; cases h
      · rw [hxt2] at h; cases h
  · rw [hxt1] at h; cases h
theorem toldF_cut (h : Agr p q B) (t : Nat) : Cut B (8 * q.length = B) (toldF p t) (toldF q t) := by
  have ha := h
  intro a t' h
  have hfin := h
  unfold toldF at h ⊢
  rcases hx : countsF p t with ⟨⟨x, y, z⟩, t3⟩ | er
  · rw [hx] at h
    dsimp only at h
    obtain ⟨c1, c2⟩ := countsF_cut ha t _ _ hx
    have hm2 : ∀ (L : Cd) (t4 : Nat) (t5 : List Int × Nat), lcF p (z + 4).toNat t3 = .ok L t4 → lensF p L (x + 257 + y + 1).toNat t4 = .ok t5.1 t5.2 → t3 ≤ t4 ∧ t4 ≤ t5.2 := by
      intro L t4 t5 e1 e2
      exact ⟨(lcF_ok e1).2.1, lensGo_mono _ _ _ _ _ _ _ e2⟩
    rcases hx4 : lcF p (z + 4).toNat t3 with ⟨w, t4⟩ | er
    · rw [hx4] at h
      dsimp only at h
      rcases hx5 : lensF p w (x + 257 + y + 1).toNat t4 with ⟨K, t5⟩ | er
      · rw [hx5] at h
        dsimp only at h
        obtain ⟨m1, m2⟩ := hm2 w t4 (K, t5) hx4 hx5
        have ht5 : t5 = t' ∧ (.ok a t' : Rs (Cd × Cd)) = .ok (mkCd (K.take (x + 257).toNat), mkCd (K.drop (x + 257).toNat)) t5 := by
          generalize mkCd (K.take (x + 257).toNat) = A at h ⊢
          generalize mkCd (K.drop (x + 257).toNat) = D at h ⊢
          split at h
          · cases h
          · split at h
            · cases h
            · exact ⟨by cases h; rfl, h.symm⟩
        obtain ⟨rfl, hres⟩ := ht5
        dsimp only at m2
        rcases Nat.lt_or_ge B t3 with hB | hB
        · exact ⟨fun _ => by omega, fun hs _ => by simp only [c2 hs hB]⟩
        · rw [c1 hB]
          dsimp only
          obtain ⟨d1, d2⟩ := lcF_cut ha (z + 4).toNat t3 hB w t4 hx4
          rcases Nat.lt_or_ge B t4 with hB4 | hB4
          · exact ⟨fun _ => by omega, fun hs _ => by simp only [d2 hs hB4]⟩
          · rw [d1 hB4]
            dsimp only
            obtain ⟨e1, e2⟩ := lensF_cut ha w (x + 257 + y + 1).toNat t4 hB4 K t5 hx5
            rcases Nat.lt_or_ge B t5 with hB5 | hB5
            · exact ⟨fun _ => by omega, fun hs _ => by simp only [e2 hs hB5]⟩
            · rw [e1 hB5]
              dsimp only
              rw [h]
              exact ⟨fun _ => rfl, fun _ _ => by omega⟩
      · rw [hx5] at h; cases h
    · rw [hx4] at h; cases h
  · rw [hx] at h; cases h
theorem lengthF_cut (h : Agr p q B) (s : Int) (t : Nat) (ht : t ≤ B) : Cut B (8 * q.length = B) (lengthF p s t) (lengthF q s t) := by
  have ha := h
  intro a t' h
  unfold lengthF at h ⊢
  by_cases g1 : 285 < s
  · rw [if_pos g1] at h; cases h
  · rw [if_neg g1] at h ⊢
    by_cases g2 : s = 285
    · rw [if_pos g2] at h ⊢
      exact Cut.pure _ _ ht a t' h
    · rw [if_neg g2] at h ⊢
      by_cases g3 : s - 257 < 8
      · rw [if_pos g3] at h ⊢
        exact Cut.pure _ _ ht a t' h
      · rw [if_neg g3] at h ⊢
        rcases hxt1 : numF p ((s - 257) / 4 - 1).toNat t with ⟨v, t1⟩ | er
        · rw [hxt1] at h
          dsimp only at h
          obtain ⟨c1, c2⟩ := numF_cut ha _ t v t1 hxt1
          have hmo : t1 ≤ t' := by
            cases h; omega
          rcases Nat.lt_or_ge B t1 with hB | hB
          · exact ⟨fun _ => by omega, fun hs _ => by simp only [c2 hs hB]⟩
          · rw [c1 hB]
            dsimp only
            clear c1 c2
            exact Cut.pure _ _ hB a t' h
        · rw [hxt1] at h; cases h
theorem distF_cut (h : Agr p q B) (c : Cd) (t : Nat) : Cut B (8 * q.length = B) (distF p c t) (distF q c t) := by
  have ha := h
  intro a t' h
  unfold distF at h ⊢
  rcases hxt1 : symF p c t with ⟨s, t1⟩ | er
  · rw [hxt1] at h
    dsimp only at h
    obtain ⟨c1, c2⟩ := symF_cut ha c t s t1 hxt1
    have hmo : t1 ≤ t' := by
      split at h
      · cases h
      · split at h
        · cases h; omega
        · rcases hn : numF p (s / 2 - 1).toNat t1 with ⟨l, t2⟩ | er
          · rw [hn] at h
            have := numF_ok hn
            cases h
            omega
          · rw [hn] at h; cases h
    rcases Nat.lt_or_ge B t1 with hB | hB
    · exact ⟨fun _ => by omega, fun hs _ => by simp only [c2 hs hB]⟩
    · rw [c1 hB]
      dsimp only
      clear c1 c2
      by_cases g1 : 29 < s
      · rw [if_pos g1] at h; cases h
      · rw [if_neg g1] at h ⊢
        by_cases g2 : s < 4
        · rw [if_pos g2] at h ⊢
          exact Cut.pure _ _ hB a t' h
        · rw [if_neg g2] at h ⊢
          rcases hxt2 : numF p (s / 2 - 1).toNat t1 with ⟨v, t2⟩ | er
          · rw [hxt2] at h
            dsimp only at h
            obtain ⟨c1, c2⟩ := numF_cut ha _ t1 v t2 hxt2
            have hmo : t2 ≤ t' := by
              cases h; omega
            rcases Nat.lt_or_ge B t2 with hB | hB
            · exact ⟨fun _ => by omega, fun hs _ => by simp only [c2 hs hB]⟩
            · rw [c1 hB]
              dsimp only
              clear c1 c2
              exact Cut.pure _ _ hB a t' h
          · rw [hxt2] at h; cases h
  · rw [hxt1] at h; cases h
end


section
variable {p q : List Int} {B L M : Nat} {c d : Cd}
theorem copyF_len (M k : Nat) : ∀ (n : Nat) (out o : List Int), copyF M k n out = some o → o.length = out.length + n
  | 0, out, o, h => by rw [copyF] at h; cases h; omega
  | n + 1, out, o, h => by
    rw [copyF] at h
    split at h
    · cases h
    · have := copyF_len M k n _ _ h
      simp at this
      omega
theorem copyF_cut (M L k : Nat) : ∀ (n : Nat) (out o : List Int), out.length ≤ L → copyF M k n out = some o → (o.length ≤ L → copyF L k n out = some o) ∧ (L < o.length → copyF L k n out = none)
  | 0, out, o, hl, h => by
    rw [copyF] at h ⊢
    cases h
    exact ⟨fun _ => rfl, fun h => by omega⟩
  | n + 1, out, o, hl, h => by
    have hlen := copyF_len M k (n + 1) out o h
    rw [copyF] at h ⊢
    split at h
    · cases h
    · by_cases hL : L ≤ out.length
      · rw [if_pos hL]
        exact ⟨fun _ => by omega, fun _ => rfl⟩
      · rw [if_neg hL]
        exact copyF_cut M L k n _ o (by simp; omega) h
theorem matchF_len {s : Int} {out o : List Int} {t t' : Nat} (h : matchF p M d s out t = .ok o t') : out.length ≤ o.length := by
  unfold matchF at h
  rcases h1 : lengthF p s t with ⟨a, t1⟩ | er
  · rw [h1] at h
    dsimp only at h
    rcases h2 : distF p d t1 with ⟨b, t2⟩ | er
    · rw [h2] at h
      dsimp only at h
      split at h
      · cases h
      · split at h
        · cases h
        · rename_i o2 ho
          cases h
          have := copyF_len _ _ _ _ _ ho
          omega
    · rw [h2] at h; cases h
  · rw [h1] at h; cases h
theorem distF_mono {v : Int} {t t' : Nat} (hq : distF p d t = .ok v t') : t ≤ t' := by
  unfold distF at hq
  rcases hs : symF p d t with ⟨s, t1⟩ | er
  · rw [hs] at hq
    dsimp only at hq
    have h1 := symF_mono hs
    split at hq
    · cases hq
    · split at hq
      · cases hq; omega
      · rcases hn : numF p (s / 2 - 1).toNat t1 with ⟨l, t2⟩ | er
        · rw [hn] at hq
          have := numF_ok hn
          cases hq
          omega
        · rw [hn] at hq; cases hq
  · rw [hs] at hq; cases hq
theorem matchF_cut (h : Agr p q B) (s : Int) (out : List Int) (hl : out.length ≤ L) (t : Nat) (ht : t ≤ B) : CutO B (8 * q.length = B) L (matchF p M d s out t) (matchF q L d s out t) := by
  have ha := h
  intro o t' h
  unfold matchF at h ⊢
  rcases hxt1 : lengthF p s t with ⟨n, t1⟩ | er
  · rw [hxt1] at h
    dsimp only at h
    obtain ⟨c1, c2⟩ := lengthF_cut ha s t ht n t1 hxt1
    have hmo : t1 ≤ t' := by
      rcases h2 : distF p d t1 with ⟨b, t2⟩ | er
      · rw [h2] at h
        dsimp only at h
        have h3 := distF_mono h2
        split at h
        · cases h
        · split at h
          · cases h
          · cases h; omega
      · rw [h2] at h; cases h
    rcases Nat.lt_or_ge B t1 with hB | hB
    · exact ⟨fun _ => by omega, fun _ => by omega, fun hs _ _ => by simp only [c2 hs hB]⟩
    · rw [c1 hB]
      dsimp only
      clear c1 c2
      rcases hxt2 : distF p d t1 with ⟨k, t2⟩ | er
      · rw [hxt2] at h
        dsimp only at h
        obtain ⟨c1, c2⟩ := distF_cut ha d t1 k t2 hxt2
        have hmo : t2 ≤ t' := by
          split at h
          · cases h
          · split at h
            · cases h
            · cases h; omega
        rcases Nat.lt_or_ge B t2 with hB | hB
        · exact ⟨fun _ => by omega, fun _ => by omega, fun hs _ _ => by simp only [c2 hs hB]⟩
        · rw [c1 hB]
          dsimp only
          clear c1 c2
          by_cases hk : (out.length : Int) < k
          · rw [if_pos hk] at h; cases h
          · rw [if_neg hk] at h ⊢
            rcases hc : copyF M k.toNat n.toNat out with _ | o2
            · rw [hc] at h; cases h
            · rw [hc] at h
              dsimp only at h
              cases h
              obtain ⟨e1, e2⟩ := copyF_cut M L k.toNat n.toNat out o hl hc
              exact ⟨fun _ h => by rw [e1 h], fun _ h => by rw [e2 h], fun _ _ => by omega⟩
      · rw [hxt2] at h; cases h
  · rw [hxt1] at h; cases h
theorem blockF_ok (hok : CdOk c 288) (hdk : CdOk d 32) : ∀ (g : Nat) (out : List Int) (t : Nat) (o : List Int) (t' : Nat), blockF p M c d g out t = .ok o t' → t < t' ∧ t' ≤ 8 * p.length ∧ out.length ≤ o.length
  | 0, _, _, _, _, h => by rw [blockF] at h; cases h
  | g + 1, out, t, o, t', h => by
    rw [blockF] at h
    rcases hs : symF p c t with ⟨s, t1⟩ | er
    · rw [hs] at h
      dsimp only at h
      obtain ⟨s0, s1, s2, s3⟩ := symF_ok hok (by omega) hs
      split at h
      · cases h
        exact ⟨s2, s3, Nat.le_refl _⟩
      · split at h
        · split at h
          · cases h
          · have := blockF_ok hok hdk g _ _ _ _ h
            simp at this
            omega
        · rename_i g1 g2
          rcases hm : matchF p M d s out t1 with ⟨o2, t2⟩ | er
          · rw [hm] at h
            dsimp only at h
            have h1 := matchF_ok hdk (by omega) hm
            have h2 := matchF_len hm
            have := blockF_ok hok hdk g _ _ _ _ h
            omega
          · rw [hm] at h; cases h
    · rw [hs] at h; cases h
theorem blockF_cut (h : Agr p q B) (hok : CdOk c 288) (hdk : CdOk d 32) : ∀ (g g' : Nat) (out : List Int) (t : Nat), t ≤ B → out.length ≤ L → 8 * q.length - t < g' → CutO B (8 * q.length = B) L (blockF p M c d g out t) (blockF q L c d g' out t)
  | 0, _, _, _, _, _, _ => by rw [blockF]; exact CutO.bad _ _
  | g + 1, 0, _, _, _, _, hg => by omega
  | g + 1, g' + 1, out, t, ht, hl, hg => by
    have ha := h
    have hle := h.le
    intro o t' h
    rw [blockF] at h ⊢
    rcases hxt1 : symF p c t with ⟨s, t1⟩ | er
    · rw [hxt1] at h
      dsimp only at h
      obtain ⟨c1, c2⟩ := symF_cut ha c t s t1 hxt1
      have hmo : t1 ≤ t' := by
        obtain ⟨s0, s1, s2, s3⟩ := symF_ok hok (by omega) hxt1
        split at h
        · cases h; omega
        · split at h
          · split at h
            · cases h
            · have := blockF_ok hok hdk g _ _ _ _ h
              omega
          · rename_i g1 g2
            rcases hm : matchF p M d s out t1 with ⟨o2, t2⟩ | er
            · rw [hm] at h
              dsimp only at h
              have h1 := matchF_ok hdk (by omega) hm
              have := blockF_ok hok hdk g _ _ _ _ h
              omega
            · rw [hm] at h; cases h
      rcases Nat.lt_or_ge B t1 with hB | hB
      · exact ⟨fun _ => by omega, fun _ => by omega, fun hs _ _ => by simp only [c2 hs hB]⟩
      · rw [c1 hB]
        dsimp only
        clear c1 c2
        have hlt := symF_mono hxt1
        by_cases g1 : s = 256
        · rw [if_pos g1] at h ⊢
          exact CutO.pure _ _ hB hl o t' h
        · rw [if_neg g1] at h ⊢
          by_cases g2 : s < 256
          · rw [if_pos g2] at h ⊢
            by_cases g3 : M ≤ out.length
            · rw [if_pos g3] at h; cases h
            · rw [if_neg g3] at h
              have hbo := blockF_ok hok hdk g _ _ _ _ h
              simp at hbo
              by_cases g4 : L ≤ out.length
              · rw [if_pos g4]
                exact ⟨fun _ _ => by omega, fun _ _ => rfl, fun _ _ _ => by omega⟩
              · rw [if_neg g4]
                exact blockF_cut ha hok hdk g g' _ t1 hB (by simp; omega) (by omega) o t' h
          · rw [if_neg g2] at h ⊢
            rcases hxt2 : matchF p M d s out t1 with ⟨o2, t2⟩ | er
            · rw [hxt2] at h
              dsimp only at h
              obtain ⟨c1, c2, c3⟩ := matchF_cut (L := L) ha s out hl t1 hB o2 t2 hxt2
              have hmo : t2 ≤ t' ∧ o2.length ≤ o.length := by
                have := blockF_ok hok hdk g _ _ _ _ h
                omega
              rcases Nat.lt_or_ge B t2 with hB | hB
              · exact ⟨fun _ => by omega, fun _ => by omega, fun hs _ hl => by simp only [c3 hs hB (by omega)]⟩
              · rcases Nat.lt_or_ge L o2.length with hl | hl
                · exact ⟨fun _ _ => by omega, fun _ _ => by simp only [c2 hB hl], fun _ _ _ => by omega⟩
                · rw [c1 hB hl]
                  dsimp only
                  clear c1 c2 c3
                  have h1 := matchF_ok hdk (by omega) hxt2
                  exact blockF_cut ha hok hdk g g' o2 t2 hB hl (by omega) o t' h
            · rw [hxt2] at h; cases h
    · rw [hxt1] at h; cases h
theorem storedGo_len : ∀ (n : Nat) (out : List Int) (t : Nat) (o : List Int) (t' : Nat), storedGo p M n out t = .ok o t' → t ≤ t' ∧ o.length = out.length + n
  | 0, out, t, o, t', h => by rw [storedGo] at h; cases h; omega
  | n + 1, out, t, o, t', h => by
    rw [storedGo] at h
    rcases h1 : numF p 8 t with ⟨a, t1⟩ | er
    · rw [h1] at h
      dsimp only at h
      have := numF_ok h1
      split at h
      · cases h
      · have := storedGo_len n _ _ _ _ h
        simp at this
        omega
    · rw [h1] at h; cases h
theorem storedGo_cut (h : Agr p q B) : ∀ (n : Nat) (out : List Int) (t : Nat), t ≤ B → out.length ≤ L → CutO B (8 * q.length = B) L (storedGo p M n out t) (storedGo q L n out t)
  | 0, out, t, ht, hl => CutO.pure _ _ ht hl
  | n + 1, out, t, ht, hl => by
    have ha := h
    intro o t' h
    rw [storedGo] at h ⊢
    rcases hxt1 : numF p 8 t with ⟨v, t1⟩ | er
    · rw [hxt1] at h
      dsimp only at h
      obtain ⟨c1, c2⟩ := numF_cut ha 8 t v t1 hxt1
      have hmo : t1 ≤ t' := by
        split at h
        · cases h
        · exact (storedGo_len n _ _ _ _ h).1
      rcases Nat.lt_or_ge B t1 with hB | hB
      · exact ⟨fun _ => by omega, fun _ => by omega, fun hs _ _ => by simp only [c2 hs hB]⟩
      · rw [c1 hB]
        dsimp only
        clear c1 c2
        by_cases g3 : M ≤ out.length
        · rw [if_pos g3] at h; cases h
        · rw [if_neg g3] at h
          have hbo := storedGo_len n _ _ _ _ h
          simp at hbo
          by_cases g4 : L ≤ out.length
          · rw [if_pos g4]
            exact ⟨fun _ _ => by omega, fun _ _ => rfl, fun _ _ _ => by omega⟩
          · rw [if_neg g4]
            exact storedGo_cut ha n _ t1 hB (by simp; omega) o t' h
    · rw [hxt1] at h; cases h
theorem storedF_len {out o : List Int} {t t' : Nat} (h : storedF p M out t = .ok o t') : t ≤ t' ∧ out.length ≤ o.length := by
  refine ⟨storedF_ok h, ?_⟩
  unfold storedF at h
  rcases h1 : numF p 16 ((t + 7) / 8 * 8) with ⟨a, t1⟩ | er
  · rw [h1] at h
    dsimp only at h
    rcases h2 : numF p 16 t1 with ⟨b, t2⟩ | er
    · rw [h2] at h
      dsimp only at h
      split at h
      · have := storedGo_len _ _ _ _ _ h
        omega
      · cases h
    · rw [h2] at h; cases h
  · rw [h1] at h; cases h
theorem storedF_cut (h : Agr p q B) (out : List Int) (hl : out.length ≤ L) (t : Nat) : CutO B (8 * q.length = B) L (storedF p M out t) (storedF q L out t) := by
  have ha := h
  intro o t' h
  unfold storedF at h ⊢
  rcases hxt1 : numF p 16 ((t + 7) / 8 * 8) with ⟨n, t1⟩ | er
  · rw [hxt1] at h
    dsimp only at h
    obtain ⟨c1, c2⟩ := numF_cut ha 16 _ n t1 hxt1
    have hmo : t1 ≤ t' := by
      rcases h2 : numF p 16 t1 with ⟨b, t2⟩ | er
      · rw [h2] at h
        dsimp only at h
        have := numF_ok h2
        split at h
        · have := storedGo_len _ _ _ _ _ h
          omega
        · cases h
      · rw [h2] at h; cases h
    rcases Nat.lt_or_ge B t1 with hB | hB
    · exact ⟨fun _ => by omega, fun _ => by omega, fun hs _ _ => by simp only [c2 hs hB]⟩
    · rw [c1 hB]
      dsimp only
      clear c1 c2
      rcases hxt2 : numF p 16 t1 with ⟨m, t2⟩ | er
      · rw [hxt2] at h
        dsimp only at h
        obtain ⟨c1, c2⟩ := numF_cut ha 16 t1 m t2 hxt2
        have hmo : t2 ≤ t' := by
          split at h
          · exact (storedGo_len _ _ _ _ _ h).1
          · cases h
        rcases Nat.lt_or_ge B t2 with hB | hB
        · exact ⟨fun _ => by omega, fun _ => by omega, fun hs _ _ => by simp only [c2 hs hB]⟩
        · rw [c1 hB]
          dsimp only
          clear c1 c2
          by_cases g : m = 65535 - n
          · rw [if_pos g] at h ⊢
            exact storedGo_cut ha n.toNat out t2 hB hl o t' h
          · rw [if_neg g] at h; cases h
      · rw [hxt2] at h; cases h
  · rw [hxt1] at h; cases h
theorem headF_cut (h : Agr p q B) (t : Nat) : Cut B (8 * q.length = B) (headF p t) (headF q t) := by
  have ha := h
  intro a t' h
  unfold headF at h ⊢
  rcases hxt1 : numF p 1 t with ⟨x, t1⟩ | er
  · rw [hxt1] at h
    dsimp only at h
    obtain ⟨c1, c2⟩ := numF_cut ha 1 t x t1 hxt1
    have hmo : t1 ≤ t' := by
      rcases h2 : numF p 2 t1 with ⟨b, t2⟩ | er
      · rw [h2] at h
        dsimp only at h
        have := numF_ok h2
        cases h
        omega
      · rw [h2] at h; cases h
    rcases Nat.lt_or_ge B t1 with hB | hB
    · exact ⟨fun _ => by omega, fun hs _ => by simp only [c2 hs hB]⟩
    · rw [c1 hB]
      dsimp only
      clear c1 c2
      rcases hxt2 : numF p 2 t1 with ⟨y, t2⟩ | er
      · rw [hxt2] at h
        dsimp only at h
        obtain ⟨c1, c2⟩ := numF_cut ha 2 t1 y t2 hxt2
        have hmo : t2 ≤ t' := by
          cases h; omega
        rcases Nat.lt_or_ge B t2 with hB | hB
        · exact ⟨fun _ => by omega, fun hs _ => by simp only [c2 hs hB]⟩
        · rw [c1 hB]
          dsimp only
          clear c1 c2
          exact Cut.pure _ _ hB a t' h
      · rw [hxt2] at h; cases h
  · rw [hxt1] at h; cases h
theorem wayF_ok {y : Int} {out o : List Int} {t t' : Nat} (h : wayF p M y out t = .ok o t') : t ≤ t' ∧ out.length ≤ o.length := by
  unfold wayF at h
  split at h
  · exact storedF_len h
  · split at h
    · have := blockF_ok okL okD _ _ _ _ _ h
      omega
    · split at h
      · rcases h1 : toldF p t with ⟨⟨c, d⟩, t1⟩ | er
        · rw [h1] at h
          dsimp only at h
          obtain ⟨x1, x2, x3, x4⟩ := toldF_ok h1
          have := blockF_ok x1 x2 _ _ _ _ _ h
          omega
        · rw [h1] at h; cases h
      · cases h
theorem wayF_cut (h : Agr p q B) (y : Int) (out : List Int) (hl : out.length ≤ L) (t : Nat) (ht : t ≤ B) : CutO B (8 * q.length = B) L (wayF p M y out t) (wayF q L y out t) := by
  have ha := h
  intro o t' h
  unfold wayF at h ⊢
  by_cases g0 : y = 0
  · rw [if_pos g0] at h ⊢
    exact storedF_cut ha out hl t o t' h
  · rw [if_neg g0] at h ⊢
    by_cases g1 : y = 1
    · rw [if_pos g1] at h ⊢
      exact blockF_cut ha okL okD _ _ out t ht hl (by omega) o t' h
    · rw [if_neg g1] at h ⊢
      by_cases g2 : y = 2
      · rw [if_pos g2] at h ⊢
        rcases h1 : toldF p t with ⟨⟨c, d⟩, t1⟩ | er
        · rw [h1] at h
          dsimp only at h
          obtain ⟨x1, x2, x3, x4⟩ := toldF_ok h1
          have hmo := blockF_ok x1 x2 _ _ _ _ _ h
          obtain ⟨c1, c2⟩ := toldF_cut ha t _ _ h1
          rcases Nat.lt_or_ge B t1 with hB | hB
          · exact ⟨fun _ => by omega, fun _ => by omega, fun hs _ _ => by simp only [c2 hs hB]⟩
          · rw [c1 hB]
            dsimp only
            exact blockF_cut ha x1 x2 _ _ out t1 hB hl (by omega) o t' h
        · rw [h1] at h; cases h
      · rw [if_neg g2] at h; cases h
theorem streamF_ok : ∀ (f : Nat) (out : List Int) (t : Nat) (o : List Int) (t' : Nat), streamF p M f out t = .ok o t' → t < t' ∧ out.length ≤ o.length
  | 0, _, _, _, _, h => by rw [streamF] at h; cases h
  | f + 1, out, t, o, t', h => by
    rw [streamF] at h
    rcases h1 : headF p t with ⟨⟨l, y⟩, t1⟩ | er
    · rw [h1] at h
      dsimp only at h
      have hh := headF_ok h1
      rcases h2 : wayF p M y out t1 with ⟨o2, t2⟩ | er
      · rw [h2] at h
        dsimp only at h
        have hw := wayF_ok h2
        split at h
        · have := streamF_ok f _ _ _ _ h
          omega
        · cases h
          omega
      · rw [h2] at h; cases h
    · rw [h1] at h; cases h
theorem streamF_cut (h : Agr p q B) : ∀ (f f' : Nat) (out : List Int) (t : Nat), t ≤ B → out.length ≤ L → 8 * q.length - t < f' → CutO B (8 * q.length = B) L (streamF p M f out t) (streamF q L f' out t)
  | 0, _, _, _, _, _, _ => by rw [streamF]; exact CutO.bad _ _
  | f + 1, 0, _, _, _, _, hg => by omega
  | f + 1, f' + 1, out, t, ht, hl, hg => by
    have ha := h
    have hle := h.le
    intro o t' h
    rw [streamF] at h ⊢
    rcases h1 : headF p t with ⟨⟨l, y⟩, t1⟩ | er
    · rw [h1] at h
      dsimp only at h
      have hh := headF_ok h1
      obtain ⟨c1, c2⟩ := headF_cut ha t _ _ h1
      rcases h2 : wayF p M y out t1 with ⟨o2, t2⟩ | er
      · rw [h2] at h
        dsimp only at h
        have hw := wayF_ok h2
        have hmo : t2 ≤ t' ∧ o2.length ≤ o.length := by
          split at h
          · have := streamF_ok f _ _ _ _ h
            omega
          · cases h
            omega
        rcases Nat.lt_or_ge B t1 with hB | hB
        · exact ⟨fun _ => by omega, fun _ => by omega, fun hs _ _ => by simp only [c2 hs hB]⟩
        · rw [c1 hB]
          dsimp only
          obtain ⟨d1, d2, d3⟩ := wayF_cut (L := L) ha y out hl t1 hB o2 t2 h2
          rcases Nat.lt_or_ge B t2 with hB2 | hB2
          · exact ⟨fun _ => by omega, fun _ => by omega, fun hs _ hl2 => by simp only [d3 hs hB2 (by omega)]⟩
          · rcases Nat.lt_or_ge L o2.length with hl2 | hl2
            · exact ⟨fun _ _ => by omega, fun _ _ => by simp only [d2 hB2 hl2], fun _ _ _ => by omega⟩
            · rw [d1 hB2 hl2]
              dsimp only
              by_cases g : l = 0
              · rw [if_pos g] at h ⊢
                exact streamF_cut ha f f' o2 t2 hB2 hl2 (by omega) o t' h
              · rw [if_neg g] at h ⊢
                exact CutO.pure _ _ hB2 hl2 o t' h
      · rw [h2] at h; cases h
    · rw [h1] at h; cases h
end
end Go.Proofs.YtjijkcmbbccfmaaDoor
