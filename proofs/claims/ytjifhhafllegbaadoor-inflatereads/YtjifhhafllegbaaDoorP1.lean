/-
  The plain mathematics of streams: what stands behind a stream makes no difference; with fewer bytes it is too short; with too little room it is refused.
-/
import Derived.Test.YtjifhhafllegbaaDoorT3
namespace Go.Proofs.YtjifhhafllegbaaDoor

/-- Up to B bits the second answers as the first; where the first goes on beyond B, the second is too short (if sh). -/
def Cut {α : Type} (B : Nat) (sh : Prop) (r s : Rs α) : Prop := ∀ a t', r = .ok a t' → (t' ≤ B → s = .ok a t') ∧ (sh → B < t' → s = .bad .short)
/-- The same of what is put out, with room for L. -/
def CutO (B : Nat) (sh : Prop) (L : Nat) (r s : Rs (List Int)) : Prop :=
  ∀ o t', r = .ok o t' → (t' ≤ B → o.length ≤ L → s = .ok o t') ∧ (t' ≤ B → L < o.length → s = .bad .limit) ∧ (sh → B < t' → o.length ≤ L → s = .bad .short)
section
variable {α β : Type} {B L : Nat} {sh : Prop}
theorem Cut.pure (a : α) (t : Nat) (h : t ≤ B) : Cut B sh (.ok a t) (.ok a t) := by
  intro a' t' e
  cases e
  exact ⟨fun _ => rfl, fun _ h' => by omega⟩
theorem Cut.bad (e : Er) (s : Rs α) : Cut B sh (.bad e) s := fun _ _ h => by cases h
theorem CutO.bad (e : Er) (s : Rs (List Int)) : CutO B sh L (.bad e) s := fun _ _ h => by cases h
theorem CutO.pure (o : List Int) (t : Nat) (h : t ≤ B) (hl : o.length ≤ L) : CutO B sh L (.ok o t) (.ok o t) := by
  intro a' t' e
  cases e
  exact ⟨fun _ _ => rfl, fun _ h' => by omega, fun _ h' _ => by omega⟩
end

/-- q has the bits of p up to B. -/
structure Agr (p q : List Int) (B : Nat) : Prop where
  bits : ∀ i, i < B → bitF q i = bitF p i
  le : B ≤ 8 * q.length
theorem valF_agr {p q : List Int} {B : Nat} (h : Agr p q B) : ∀ (n t : Nat), t + n ≤ B → valF q t n = valF p t n
  | 0, _, _ => rfl
  | n + 1, t, ht => by rw [valF, valF, h.bits t (by omega), valF_agr h n (t + 1) (by omega)]
section
variable {p q : List Int} {B L M : Nat}
theorem numF_cut (h : Agr p q B) (n t : Nat) : Cut B (8 * q.length = B) (numF p n t) (numF q n t) := by
  intro v t' e
  unfold numF at e ⊢
  split at e
  · cases e
    refine ⟨fun hB => ?_, fun hs hB => ?_⟩
    · have := h.le
      rw [if_pos (by omega), valF_agr h n t hB]
    · rw [if_neg (by omega)]
  · cases e
theorem symGo_cut (h : Agr p q B) (syms : List Int) : ∀ (cs : List Int) (past at_ : Int) (t : Nat), Cut B (8 * q.length = B) (symGo p syms cs past at_ t) (symGo q syms cs past at_ t)
  | [], _, _, _ => Cut.bad _ _
  | c :: cs, past, at_, t => by
    have ha := h
    intro a t' h
    rw [symGo] at h ⊢
    rcases hxt1 : numF p 1 t with ⟨b, t1⟩ | er
    · rw [hxt1] at h
      dsimp only at h
      obtain ⟨c1, c2⟩ := numF_cut ha 1 t b t1 hxt1
      have hmo : t1 ≤ t' := by
        split at h
        · cases h; omega
        · have := symGo_ok p syms _ _ _ _ _ _ h
          omega
      rcases Nat.lt_or_ge B t1 with hB | hB
      · exact ⟨fun _ => by omega, fun hs _ => by simp only [c2 hs hB]⟩
      · rw [c1 hB]
        dsimp only
        clear c1 c2
        split at h
        · rename_i hc
          rw [if_pos hc]
          exact Cut.pure _ _ hB a t' h
        · rename_i hc
          rw [if_neg hc]
          exact symGo_cut ha syms cs _ _ t1 a t' h
    · rw [hxt1] at h; cases h
theorem symF_cut (h : Agr p q B) (c : Cd) (t : Nat) : Cut B (8 * q.length = B) (symF p c t) (symF q c t) := symGo_cut h _ _ _ _ _
theorem lcGo_mono (p : List Int) : ∀ (os acc : List Int) (t : Nat) (L : List Int) (t' : Nat), lcGo p os acc t = .ok L t' → t ≤ t'
  | [], acc, t, L, t', h => by rw [lcGo] at h; cases h; omega
  | o :: os, acc, t, L, t', h => by
    rw [lcGo] at h
    rcases h3 : numF p 3 t with ⟨v, t3⟩ | er
    · rw [h3] at h
      dsimp only at h
      have := numF_ok h3
      have := lcGo_mono p os _ _ _ _ h
      omega
    · rw [h3] at h; cases h
theorem lcGo_cut (h : Agr p q B) : ∀ (os acc : List Int) (t : Nat), t ≤ B → Cut B (8 * q.length = B) (lcGo p os acc t) (lcGo q os acc t)
  | [], acc, t, ht => Cut.pure _ _ ht
  | o :: os, acc, t, _ => by
    have ha := h
    intro a t' h
    rw [lcGo] at h ⊢
    rcases hxt1 : numF p 3 t with ⟨v, t1⟩ | er
    · rw [hxt1] at h
      dsimp only at h
      obtain ⟨c1, c2⟩ := numF_cut ha 3 t v t1 hxt1
      have hmo : t1 ≤ t' := by
        exact lcGo_mono p _ _ _ _ _ h
      rcases Nat.lt_or_ge B t1 with hB | hB
      · exact ⟨fun _ => by omega, fun hs _ => by simp only [c2 hs hB]⟩
      · rw [c1 hB]
        dsimp only
        clear c1 c2
        exact lcGo_cut ha os _ t1 hB a t' h
    · rw [hxt1] at h; cases h
theorem lcF_cut (h : Agr p q B) (n t : Nat) (ht : t ≤ B) : Cut B (8 * q.length = B) (lcF p n t) (lcF q n t) := by
  have ha := h
  intro a t' h
  unfold lcF at h ⊢
  rcases hxt1 : lcGo p (orderL.take n) (List.replicate 19 0) t with ⟨v, t1⟩ | er
  · rw [hxt1] at h
    dsimp only at h
    obtain ⟨c1, c2⟩ := lcGo_cut ha (orderL.take n) (List.replicate 19 0) t ht v t1 hxt1
    have hmo : t1 ≤ t' := by
      generalize mkCd v = C at h
      split at h
      · cases h; omega
      · cases h
    rcases Nat.lt_or_ge B t1 with hB | hB
    · exact ⟨fun _ => by omega, fun hs _ => by simp only [c2 hs hB]⟩
    · rw [c1 hB]
      dsimp only
      clear c1 c2
      generalize mkCd v = C at h ⊢
      split at h
      · rename_i hc
        rw [if_pos hc]
        exact Cut.pure _ _ hB a t' h
      · cases h
  · rw [hxt1] at h; cases h
theorem timesF_cut (h : Agr p q B) (s : Int) (t : Nat) : Cut B (8 * q.length = B) (timesF p s t) (timesF q s t) := by
  have ha := h
  intro a t' h
  unfold timesF at h ⊢
  rcases hxt1 : numF p (if s = 17 then 3 else if s = 18 then 7 else 2) t with ⟨v, t1⟩ | er
  · rw [hxt1] at h
    dsimp only at h
    obtain ⟨c1, c2⟩ := numF_cut ha _ t v t1 hxt1
    have hmo : t1 ≤ t' := by
      cases h; omega
    rcases Nat.lt_or_ge B t1 with hB | hB
    · exact ⟨fun _ => by omega, fun hs _ => by simp only [c2 hs hB]⟩
    · rw [c1 hB]
      dsimp only
      clear c1 c2
      exact Cut.pure _ _ hB a t' h
  · rw [hxt1] at h; cases h
theorem timesF_mono {s v : Int} {t t' : Nat} (hq : timesF p s t = .ok v t') : t ≤ t' := by
  unfold timesF at hq
  rcases hn : numF p (if s = 17 then 3 else if s = 18 then 7 else 2) t with ⟨l, t1⟩ | er
  · rw [hn] at hq
    have := numF_ok hn
    cases hq
    omega
  · rw [hn] at hq; cases hq
theorem symF_mono {c : Cd} {v : Int} {t t' : Nat} (hq : symF p c t = .ok v t') : t < t' := (symGo_ok p _ _ _ _ _ _ _ hq).2.1
theorem lensGo_mono (c : Cd) (n : Nat) : ∀ (f : Nat) (L : List Int) (t : Nat) (K : List Int) (t' : Nat), lensGo p c n f L t = .ok K t' → t ≤ t'
  | 0, L, t, K, t', h => by rw [lensGo] at h; cases h; omega
  | f + 1, L, t, K, t', h => by
    rw [lensGo] at h
    split at h
    · rcases hs : symF p c t with ⟨s, t1⟩ | er
      · rw [hs] at h
        dsimp only at h
        have h1 := symF_mono hs
        split at h
        · have := lensGo_mono c n f _ _ _ _ h
          omega
        · split at h
          · cases h
          · rcases ht : timesF p s t1 with ⟨m, t2⟩ | er
            · rw [ht] at h
              dsimp only at h
              have h2 := timesF_mono ht
              split at h
              · cases h
              · have := lensGo_mono c n f _ _ _ _ h
                omega
            · rw [ht] at h; cases h
      · rw [hs] at h; cases h
    · cases h; omega
theorem lensGo_cut (h : Agr p q B) (c : Cd) (n : Nat) : ∀ (f : Nat) (L : List Int) (t : Nat), t ≤ B → Cut B (8 * q.length = B) (lensGo p c n f L t) (lensGo q c n f L t)
  | 0, L, t, ht => Cut.pure _ _ ht
  | f + 1, L, t, ht => by
    have ha := h
    intro a t' h
    rw [lensGo] at h ⊢
    by_cases hl : L.length < n
    · rw [if_pos hl] at h ⊢
      rcases hxt1 : symF p c t with ⟨s, t1⟩ | er
      · rw [hxt1] at h
        dsimp only at h
        obtain ⟨c1, c2⟩ := symF_cut ha c t s t1 hxt1
        have hmo : t1 ≤ t' := by
          split at h
          · exact lensGo_mono c n f _ _ _ _ h
          · split at h
            · cases h
            · rcases ht : timesF p s t1 with ⟨m, t2⟩ | er
              · rw [ht] at h
                dsimp only at h
                have h2 := timesF_mono ht
                split at h
                · cases h
                · have := lensGo_mono c n f _ _ _ _ h
                  omega
              · rw [ht] at h; cases h
        rcases Nat.lt_or_ge B t1 with hB | hB
        · exact ⟨fun _ => by omega, fun hs _ => by simp only [c2 hs hB]⟩
        · rw [c1 hB]
          dsimp only
          clear c1 c2
          by_cases h15 : s ≤ 15
          · rw [if_pos h15] at h ⊢
            exact lensGo_cut ha c n f _ t1 hB a t' h
          · rw [if_neg h15] at h ⊢
            by_cases h16 : s = 16 ∧ L = []
            · rw [if_pos h16] at h; cases h
            · rw [if_neg h16] at h ⊢
              rcases hxt2 : timesF p s t1 with ⟨m, t2⟩ | er
              · rw [hxt2] at h
                dsimp only at h
                obtain ⟨c1, c2⟩ := timesF_cut ha s t1 m t2 hxt2
                have hmo : t2 ≤ t' := by
                  split at h
                  · cases h
                  · exact lensGo_mono c n f _ _ _ _ h
                rcases Nat.lt_or_ge B t2 with hB | hB
                · exact ⟨fun _ => by omega, fun hs _ => by simp only [c2 hs hB]⟩
                · rw [c1 hB]
                  dsimp only
                  clear c1 c2
                  by_cases hm : (n : Int) < L.length + m
                  · rw [if_pos hm] at h; cases h
                  · rw [if_neg hm] at h ⊢
                    exact lensGo_cut ha c n f _ t2 hB a t' h
              · rw [hxt2] at h; cases h
      · rw [hxt1] at h; cases h
    · rw [if_neg hl] at h ⊢
      exact Cut.pure _ _ ht a t' h
theorem lensF_cut (h : Agr p q B) (c : Cd) (n t : Nat) (ht : t ≤ B) : Cut B (8 * q.length = B) (lensF p c n t) (lensF q c n t) := lensGo_cut h c n n [] t ht
theorem countsF_cut (h : Agr p q B) (t : Nat) : Cut B (8 * q.length = B) (countsF p t) (countsF q t) := by
  have ha := h
  intro a t' h
  unfold countsF at h ⊢
  rcases hxt1 : numF p 5 t with ⟨x, t1⟩ | er
  · rw [hxt1] at h
    dsimp only at h
    obtain ⟨c1, c2⟩ := numF_cut ha 5 t x t1 hxt1
    have hmo : t1 ≤ t' := by
      rcases h2 : numF p 5 t1 with ⟨y, t2⟩ | er
      · rw [h2] at h
        dsimp only at h
        rcases h3 : numF p 4 t2 with ⟨z, t3⟩ | er
        · rw [h3] at h
          dsimp only at h
          have := numF_ok h2
          have := numF_ok h3
          split at h
          · cases h
          · cases h; omega
        · rw [h3] at h; cases h
      · rw [h2] at h; cases h
    rcases Nat.lt_or_ge B t1 with hB | hB
    · exact ⟨fun _ => by omega, fun hs _ => by simp only [c2 hs hB]⟩
    · rw [c1 hB]
      dsimp only
      clear c1 c2
      rcases hxt2 : numF p 5 t1 with ⟨y, t2⟩ | er
      · rw [hxt2] at h
        dsimp only at h
        obtain ⟨c1, c2⟩ := numF_cut ha 5 t1 y t2 hxt2
        have hmo : t2 ≤ t' := by
          rcases h3 : numF p 4 t2 with ⟨z, t3⟩ | er
          · rw [h3] at h
            dsimp only at h
            have := numF_ok h3
            split at h
            · cases h
            · cases h; omega
          · rw [h3] at h; cases h
        rcases Nat.lt_or_ge B t2 with hB | hB
        · exact ⟨fun _ => by omega, fun hs _ => by simp only [c2 hs hB]⟩
        · rw [c1 hB]
          dsimp only
          clear c1 c2
          rcases hxt3 : numF p 4 t2 with ⟨z, t3⟩ | er
          · rw [hxt3] at h
            dsimp only at h
            obtain ⟨c1, c2⟩ := numF_cut ha 4 t2 z t3 hxt3
            have hmo : t3 ≤ t' := by
              split at h
              · cases h
              · cases h; omega
            rcases Nat.lt_or_ge B t3 with hB | hB
            · exact ⟨fun _ => by omega, fun hs _ => by simp only [c2 hs hB]⟩
            · rw [c1 hB]
              dsimp only
              clear c1 c2
              by_cases hc : 29 < x ∨ 29 < y
              · rw [if_pos hc] at h; cases h
              · rw [if_neg hc] at h ⊢
                exact Cut.pure _ _ hB a t' h
          · rw [hxt3] at h; cases h
      · rw [hxt2] at h; cases h
  · rw [hxt1] at h; cases h
theorem toldF_cut (h : Agr p q B) (t : Nat) : Cut B (8 * q.length = B) (toldF p t) (toldF q t) := by
  have ha := h
  intro a t' h
  have hfin := h
  unfold toldF at h ⊢
  rcases hx : countsF p t with ⟨⟨x, y, z⟩, t3⟩ | er
  · rw [hx] at h
    dsimp only at h
    obtain ⟨c1, c2⟩ := countsF_cut ha t _ _ hx
    have hm2 : ∀ (L : Cd) (t4 : Nat) (t5 : List Int × Nat), lcF p (z + 4).toNat t3 = .ok L t4 → lensF p L (x + 257 + y + 1).toNat t4 = .ok t5.1 t5.2 → t3 ≤ t4 ∧ t4 ≤ t5.2 := by
      intro L t4 t5 e1 e2
      exact ⟨(lcF_ok e1).2.1, lensGo_mono _ _ _ _ _ _ _ e2⟩
    rcases hx4 : lcF p (z + 4).toNat t3 with ⟨w, t4⟩ | er
    · rw [hx4] at h
      dsimp only at h
      rcases hx5 : lensF p w (x + 257 + y + 1).toNat t4 with ⟨K, t5⟩ | er
      · rw [hx5] at h
        dsimp only at h
        obtain ⟨m1, m2⟩ := hm2 w t4 (K, t5) hx4 hx5
        have ht5 : t5 = t' ∧ (.ok a t' : Rs (Cd × Cd)) = .ok (mkCd (K.take (x + 257).toNat), mkCd (K.drop (x + 257).toNat)) t5 := by
          generalize mkCd (K.take (x + 257).toNat) = A at h ⊢
          generalize mkCd (K.drop (x + 257).toNat) = D at h ⊢
          split at h
          · cases h
          · split at h
            · cases h
            · exact ⟨by cases h; rfl, h.symm⟩
        obtain ⟨rfl, hres⟩ := ht5
        dsimp only at m2
        rcases Nat.lt_or_ge B t3 with hB | hB
        · exact ⟨fun _ => by omega, fun hs _ => by simp only [c2 hs hB]⟩
        · rw [c1 hB]
          dsimp only
          obtain ⟨d1, d2⟩ := lcF_cut ha (z + 4).toNat t3 hB w t4 hx4
          rcases Nat.lt_or_ge B t4 with hB4 | hB4
          · exact ⟨fun _ => by omega, fun hs _ => by simp only [d2 hs hB4]⟩
          · rw [d1 hB4]
            dsimp only
            obtain ⟨e1, e2⟩ := lensF_cut ha w (x + 257 + y + 1).toNat t4 hB4 K t5 hx5
            rcases Nat.lt_or_ge B t5 with hB5 | hB5
            · exact ⟨fun _ => by omega, fun hs _ => by simp only [e2 hs hB5]⟩
            · rw [e1 hB5]
              dsimp only
              rw [h]
              exact ⟨fun _ => rfl, fun _ _ => by omega⟩
      · rw [hx5] at h; cases h
    · rw [hx4] at h; cases h
  · rw [hx] at h; cases h
theorem lengthF_cut (h : Agr p q B) (s : Int) (t : Nat) (ht : t ≤ B) : Cut B (8 * q.length = B) (lengthF p s t) (lengthF q s t) := by
  have ha := h
  intro a t' h
  unfold lengthF at h ⊢
  by_cases g1 : 285 < s
  · rw [if_pos g1] at h; cases h
  · rw [if_neg g1] at h ⊢
    by_cases g2 : s = 285
    · rw [if_pos g2] at h ⊢
      exact Cut.pure _ _ ht a t' h
    · rw [if_neg g2] at h ⊢
      by_cases g3 : s - 257 < 8
      · rw [if_pos g3] at h ⊢
        exact Cut.pure _ _ ht a t' h
      · rw [if_neg g3] at h ⊢
        rcases hxt1 : numF p ((s - 257) / 4 - 1).toNat t with ⟨v, t1⟩ | er
        · rw [hxt1] at h
          dsimp only at h
          obtain ⟨c1, c2⟩ := numF_cut ha _ t v t1 hxt1
          have hmo : t1 ≤ t' := by
            cases h; omega
          rcases Nat.lt_or_ge B t1 with hB | hB
          · exact ⟨fun _ => by omega, fun hs _ => by simp only [c2 hs hB]⟩
          · rw [c1 hB]
            dsimp only
            clear c1 c2
            exact Cut.pure _ _ hB a t' h
        · rw [hxt1] at h; cases h
theorem distF_cut (h : Agr p q B) (c : Cd) (t : Nat) : Cut B (8 * q.length = B) (distF p c t) (distF q c t) := by
  have ha := h
  intro a t' h
  unfold distF at h ⊢
  rcases hxt1 : symF p c t with ⟨s, t1⟩ | er
  · rw [hxt1] at h
    dsimp only at h
    obtain ⟨c1, c2⟩ := symF_cut ha c t s t1 hxt1
    have hmo : t1 ≤ t' := by
      split at h
      · cases h
      · split at h
        · cases h; omega
        · rcases hn : numF p (s / 2 - 1).toNat t1 with ⟨l, t2⟩ | er
          · rw [hn] at h
            have := numF_ok hn
            cases h
            omega
          · rw [hn] at h; cases h
    rcases Nat.lt_or_ge B t1 with hB | hB
    · exact ⟨fun _ => by omega, fun hs _ => by simp only [c2 hs hB]⟩
    · rw [c1 hB]
      dsimp only
      clear c1 c2
      by_cases g1 : 29 < s
      · rw [if_pos g1] at h; cases h
      · rw [if_neg g1] at h ⊢
        by_cases g2 : s < 4
        · rw [if_pos g2] at h ⊢
          exact Cut.pure _ _ hB a t' h
        · rw [if_neg g2] at h ⊢
          rcases hxt2 : numF p (s / 2 - 1).toNat t1 with ⟨v, t2⟩ | er
          · rw [hxt2] at h
            dsimp only at h
            obtain ⟨c1, c2⟩ := numF_cut ha _ t1 v t2 hxt2
            have hmo : t2 ≤ t' := by
              cases h; omega
            rcases Nat.lt_or_ge B t2 with hB | hB
            · exact ⟨fun _ => by omega, fun hs _ => by simp only [c2 hs hB]⟩
            · rw [c1 hB]
              dsimp only
              clear c1 c2
              exact Cut.pure _ _ hB a t' h
          · rw [hxt2] at h; cases h
  · rw [hxt1] at h; cases h
end
end Go.Proofs.YtjifhhafllegbaaDoor
