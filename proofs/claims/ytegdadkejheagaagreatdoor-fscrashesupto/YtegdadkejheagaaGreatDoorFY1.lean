/-
  Pure: what the calls of a script keep of a disk.
-/
import Derived.Test.YtegdadkejheagaaGreatDoorFP
namespace Go.Proofs.YtegdadkejheagaaGreatDoor
open Go.RowKit

/-- A change that doesn't speak of a path. -/
def Off1 (c : Chg) (p : ByteArray) : Prop := c.gone ≠ p ∧ ∀ q f, c.nw = some (q, f) → q ≠ p
theorem apl_off {N : ByteArray → Option Nat} {c : Chg} {p : ByteArray} (h : Off1 c p) : apl N c p = N p := by
  unfold apl
  cases hc : c.nw with
  | none => exact upd_other _ _ (fun e => h.1 e.symm)
  | some q =>
    obtain ⟨q, f⟩ := q
    show upd (upd N c.gone none) q (some f) p = _
    rw [upd_other _ _ (fun e => h.2 q f hc e.symm)]
    exact upd_other _ _ (fun e => h.1 e.symm)
theorem apl_congr {N M : ByteArray → Option Nat} {c : Chg} {p : ByteArray} (h : N p = M p) : apl N c p = apl M c p := by
  unfold apl
  cases hc : c.nw with
  | none =>
    simp only [upd]
    split
    · rfl
    · exact h
  | some q =>
    obtain ⟨q, f⟩ := q
    simp only [upd]
    split
    · rfl
    · split
      · rfl
      · exact h
theorem fold_off {l : List Chg} {N : ByteArray → Option Nat} {p : ByteArray} (h : ∀ c ∈ l, Off1 c p) : l.foldl apl N p = N p := by
  induction l generalizing N with
  | nil => rfl
  | cons c l ih => rw [List.foldl_cons, ih (fun x hx => h x (List.mem_cons_of_mem _ hx)), apl_off (h c (by simp))]
theorem fold_congr {l : List Chg} {N M : ByteArray → Option Nat} {p : ByteArray} (h : N p = M p) : l.foldl apl N p = l.foldl apl M p := by
  induction l generalizing N M with
  | nil => exact h
  | cons c l ih => rw [List.foldl_cons, List.foldl_cons]; exact ih (apl_congr h)
/-- A change of a folder's names. -/
structure InF (q : ByteArray) (c : Chg) : Prop where
  gone : c.gone = ByteArray.empty ∨ folF c.gone = q
  nw : ∀ p f, c.nw = some (p, f) → folF p = q ∧ p ≠ ByteArray.empty
theorem InF.off {q p : ByteArray} {c : Chg} (h : InF q c) (hp : p ≠ ByteArray.empty) (hq : folF p ≠ q) : Off1 c p :=
  ⟨fun e => by
    rcases h.gone with h' | h'
    · rw [e] at h'; exact hp h'
    · rw [e] at h'; exact hq h', fun r f e e2 => hq (by rw [← e2]; exact (h.nw r f e).1)⟩
/-- What every script keeps. -/
structure Inv (s : Ps) : Prop where
  nL : ∀ p, p ≠ ByteArray.empty → s.N p = (s.C (folF p)).foldl apl s.L p
  cq : ∀ q c, c ∈ s.C q → InF q c
  inj : ∀ p q f, s.N p = some f → s.N q = some f → p = q
  nF : ∀ p f, s.N p = some f → s.F f ≠ none
  e0 : s.N ByteArray.empty = none
theorem inv_new (q : Int) : Inv (newS q).ps := {
  nL := fun _ _ => rfl
  cq := fun _ c hc => absurd (show c ∈ ([] : List Chg) from hc) (by simp)
  inj := fun _ _ f h => absurd (show (none : Option Nat) = some f from h) (by simp)
  nF := fun _ f h => absurd (show (none : Option Nat) = some f from h) (by simp)
  e0 := rfl }
theorem Inv.bg {s : Ps} (h : Inv s) : Inv (bgP s) := by
  refine ⟨fun p hp => ?_, fun q c hc => ?_, fun p q f h1 h2 => ?_, fun p f h1 => ?_, ?_⟩
  · rw [bgP_N, bgP_C, bgP_L]; exact h.nL p hp
  · rw [bgP_C] at hc; exact h.cq q c hc
  · rw [bgP_N] at h1 h2; exact h.inj p q f h1 h2
  · rw [bgP_F]; rw [bgP_N] at h1; exact h.nF p f h1
  · rw [bgP_N]; exact h.e0
theorem Inv.setF {s : Ps} (h : Inv s) (u : Int) (f : Nat) (x : List Int × Nat) : Inv { s with used := u, F := upd s.F f (some x) } :=
  ⟨h.nL, h.cq, h.inj, fun p g hg => by
    show upd s.F f (some x) g ≠ none
    unfold upd
    split
    · exact fun h => nomatch h
    · exact h.nF p g hg, h.e0⟩
theorem Inv.setU {s : Ps} (h : Inv s) (u : Int) : Inv { s with used := u } := ⟨h.nL, h.cq, h.inj, h.nF, h.e0⟩
theorem fol_empty : folF ByteArray.empty = ByteArray.empty := by
  unfold folF
  apply ByteArray.ext
  simp
theorem Inv.note {s : Ps} (h : Inv s) {p : ByteArray} {c : Chg} (hc : InF (folF p) c) (hN : ∀ q f, c.nw = some (q, f) → (∀ r, s.N r = some f → r = c.gone) ∧ s.F f ≠ none) : Inv (noteP s p c) := by
  refine ⟨fun r hr => ?_, fun q x hx => ?_, fun a b f ha hb => ?_, fun a f ha => ?_, ?_⟩
  · show apl s.N c r = (upd s.C (folF p) (s.C (folF p) ++ [c]) (folF r)).foldl apl s.L r
    by_cases e : folF r = folF p
    · rw [e, upd_same, List.foldl_append]
      show _ = apl _ c r
      refine apl_congr ?_
      rw [h.nL r hr, e]
    · rw [upd_other _ _ e, apl_off (hc.off hr e)]
      exact h.nL r hr
  · have hx : x ∈ upd s.C (folF p) (s.C (folF p) ++ [c]) q := hx
    by_cases e : q = folF p
    · subst e
      rw [upd_same] at hx
      rcases List.mem_append.1 hx with hx | hx
      · exact h.cq _ x hx
      · simp at hx; subst hx; exact hc
    · rw [upd_other _ _ e] at hx
      exact h.cq q x hx
  · have ha : apl s.N c a = some f := ha
    have hb : apl s.N c b = some f := hb
    unfold apl at ha hb
    cases hn : c.nw with
    | none =>
      rw [hn] at ha hb
      simp only [upd] at ha hb
      split at ha
      · cases ha
      · split at hb
        · cases hb
        · exact h.inj a b f ha hb
    | some qf =>
      obtain ⟨q, g⟩ := qf
      rw [hn] at ha hb
      have hq := (hN q g hn).1
      simp only [upd] at ha hb
      split at ha
      · rename_i e1
        injection ha with ha
        subst ha
        split at hb
        · rename_i e2; rw [e1, e2]
        · split at hb
          · cases hb
          · rename_i e3; exact absurd (hq b hb) e3
      · split at ha
        · cases ha
        · rename_i e3
          split at hb
          · injection hb with hb
            subst hb
            exact absurd (hq a ha) e3
          · split at hb
            · cases hb
            · exact h.inj a b f ha hb
  · have ha : apl s.N c a = some f := ha
    show s.F f ≠ none
    rcases apl_some ha with h' | h'
    · exact h.nF a f h'
    · exact (hN a f h').2
  · show apl s.N c ByteArray.empty = none
    unfold apl
    cases hn : c.nw with
    | none =>
      simp only [upd]
      split
      · rfl
      · exact h.e0
    | some qf =>
      obtain ⟨q, g⟩ := qf
      have := (hc.nw q g hn).2
      simp only [upd]
      split
      · rename_i e; exact absurd e.symm this
      · split
        · rfl
        · exact h.e0
theorem Inv.dir {s : Ps} (h : Inv s) (q : ByteArray) : Inv { s with L := (s.C q).foldl apl s.L, C := upd s.C q [] } := by
  refine ⟨fun p hp => ?_, fun r c hc => ?_, h.inj, h.nF, h.e0⟩
  · show s.N p = (upd s.C q [] (folF p)).foldl apl ((s.C q).foldl apl s.L) p
    by_cases e : folF p = q
    · rw [e, upd_same]
      show _ = (s.C q).foldl apl s.L p
      rw [h.nL p hp, e]
    · rw [upd_other _ _ e, h.nL p hp]
      exact fold_congr (fold_off (fun c hc => (h.cq q c hc).off hp e)).symm
  · have hc : c ∈ upd s.C q [] r := hc
    by_cases e : r = q
    · subst e; rw [upd_same] at hc; cases hc
    · rw [upd_other _ _ e] at hc; exact h.cq r c hc
/-- Calls of a script. -/
structure Cl where
  kind : Int
  path : ByteArray
  dst : ByteArray
  data : List Int
/-- What a call makes of a disk. -/
def DoP (s : Ps) (c : Cl) (s' : Ps) : Prop :=
  if c.kind = 1 then CrP s c.path s'
  else if c.kind = 2 then s' = apP s c.path c.data
  else if c.kind = 3 then s' = syP s c.path
  else if c.kind = 4 then s' = rnP s c.path c.dst
  else if c.kind = 5 then s' = rmP s c.path
  else s' = sdP s c.path
theorem path_ne {p : ByteArray} (h : pathF p = true) : p ≠ ByteArray.empty := fun e => by
  have := path_pos h
  rw [e] at this
  exact absurd this (by decide)
theorem oneF_one {p : ByteArray} (h : oneF [p] = true) : pathF p = true := by
  have := List.all_eq_true.1 h p (by simp)
  simp only [Bool.and_eq_true] at this
  exact this.1
theorem oneF_two {p q : ByteArray} (h : oneF [p, q] = true) : pathF p = true ∧ pathF q = true ∧ folF q = folF p := by
  have h1 := List.all_eq_true.1 h p (by simp)
  have h2 := List.all_eq_true.1 h q (by simp)
  simp only [Bool.and_eq_true, decide_eq_true_eq] at h1 h2
  exact ⟨h1.1, h2.1, h2.2⟩
theorem bgEP_ok {s : Ps} {r : Bool} {L : List ByteArray} (h : bgEP s r L = 0) : oneF L = true ∧ s.dark = false := by
  unfold bgEP at h
  split at h
  · exact absurd h (by decide)
  · rename_i h0
    split at h
    · exact absurd h (by decide)
    · split at h
      · exact absurd h (by decide)
      · rename_i h'
        exact ⟨by simpa using h', by simpa using h0⟩
theorem opEP_ok {s : Ps} {p : ByteArray} {L : List ByteArray} (h : opEP s L p = 0) : oneF L = true ∧ ∃ f, s.N p = some f := by
  unfold opEP at h
  split at h
  · rename_i h0
    refine ⟨(bgEP_ok h0).1, ?_⟩
    cases hN : s.N p with
    | none => rw [hN] at h; exact absurd h (by decide)
    | some f => exact ⟨f, rfl⟩
  · rename_i h0; exact absurd h h0
theorem apE_ok {s : Ps} {p : ByteArray} {k : Nat} (h : apE s p k = 0) : opEP s [p] p = 0 := by
  unfold apE at h
  split at h
  · rename_i h0; exact h0
  · rename_i h0; exact absurd h h0
theorem fileP_of {s : Ps} (h : Inv s) {p : ByteArray} {f : Nat} (hN : s.N p = some f) : ∃ x, s.F f = some x ∧ fileP s p = some (f, x.1, x.2) := by
  cases hF : s.F f with
  | none => exact absurd hF (h.nF p f hN)
  | some x => exact ⟨x, rfl, by unfold fileP; rw [hN]; show (s.F f).map _ = _; rw [hF]; rfl⟩
theorem fileP_inv {s : Ps} {p : ByteArray} {f : Nat} {xs : List Int} {k : Nat} (h : fileP s p = some (f, xs, k)) : s.N p = some f ∧ s.F f = some (xs, k) := by
  unfold fileP at h
  cases hN : s.N p with
  | none => rw [hN] at h; cases h
  | some g =>
    rw [hN] at h
    have h : (s.F g).map (fun c => (g, c.1, c.2)) = some (f, xs, k) := h
    cases hF : s.F g with
    | none => rw [hF] at h; cases h
    | some x =>
      rw [hF] at h
      simp only [Option.map_some, Option.some.injEq, Prod.mk.injEq] at h
      obtain ⟨rfl, rfl, rfl⟩ := h
      exact ⟨rfl, hF⟩
theorem Inv.ap {s : Ps} (h : Inv s) (p : ByteArray) (ys : List Int) : Inv (apP s p ys) := by
  unfold apP
  split
  · split
    · exact h.bg
    · rename_i f xs k _
      have := h.bg.setF (s.used + ys.length) f (xs ++ ys, k)
      rw [bgP_F] at this
      exact this
  · exact h.bg
theorem Inv.sy {s : Ps} (h : Inv s) (p : ByteArray) : Inv (syP s p) := by
  unfold syP
  split
  · split
    · exact h.bg
    · rename_i f xs k _
      have := h.bg.setF (bgP s).used f (xs, xs.length)
      rw [bgP_F] at this
      exact this
  · exact h.bg
theorem Inv.rm {s : Ps} (h : Inv s) (p : ByteArray) : Inv (rmP s p) := by
  unfold rmP
  split
  · rename_i h0
    split
    · exact h.bg
    · exact (h.bg.setU _).note ⟨.inr rfl, fun _ _ h => nomatch h⟩ (fun _ _ h => nomatch h)
  · exact h.bg
theorem Inv.rn {s : Ps} (h : Inv s) (p q : ByteArray) : Inv (rnP s p q) := by
  unfold rnP
  split
  · rename_i h0
    split
    · exact h.bg
    · rename_i f hN
      obtain ⟨h1, h2, h3⟩ := oneF_two (opEP_ok h0.1).1
      refine (h.bg.setU _).note ⟨.inr rfl, fun a b e => ?_⟩ (fun a b e => ?_)
      · injection e with e
        injection e with e1 e2
        subst e1
        exact ⟨h3, path_ne h2⟩
      · injection e with e
        injection e with e1 e2
        subst e2
        refine ⟨fun r hr => ?_, ?_⟩
        · have hr : (bgP s).N r = some f := hr
          rw [bgP_N] at hr
          exact h.inj r p f hr hN
        · show (bgP s).F f ≠ none
          rw [bgP_F]
          exact h.nF p f hN
  · exact h.bg
theorem crE_ok {s : Ps} {p : ByteArray} (h : crE s p = 0) : oneF [p] = true ∧ s.N p = none := by
  unfold crE at h
  split at h
  · rename_i h0
    refine ⟨(bgEP_ok h0).1, ?_⟩
    cases hN : s.N p with
    | none => rfl
    | some f => rw [hN] at h; exact absurd (show (8 : Int) = 0 from h) (by decide)
  · rename_i h0; exact absurd h h0
theorem Inv.cr {s s' : Ps} (h : Inv s) (p : ByteArray) (hc : CrP s p s') : Inv s' := by
  unfold CrP at hc
  split at hc
  · rename_i h0
    obtain ⟨f, hf, rfl⟩ := hc
    have hp := path_ne (oneF_one (crE_ok h0).1)
    have h1 := h.bg.setF (bgP s).used f ([], 0)
    rw [bgP_F] at h1
    refine h1.note ⟨.inl rfl, fun a b e => ?_⟩ (fun a b e => ?_)
    · injection e with e
      injection e with e1 e2
      subst e1
      exact ⟨rfl, hp⟩
    · injection e with e
      injection e with e1 e2
      subst e2
      refine ⟨fun r hr => ?_, ?_⟩
      · have hr : (bgP s).N r = some f := hr
        rw [bgP_N] at hr
        exact absurd hf (h.nF r f hr)
      · show upd s.F f (some ([], 0)) f ≠ none
        rw [upd_same]
        exact fun h => nomatch h
  · subst hc; exact h.bg
theorem Inv.sd {s : Ps} (h : Inv s) (q : ByteArray) : Inv (sdP s q) := by
  unfold sdP
  split
  · have := h.bg.dir q
    rw [bgP_C, bgP_L] at this
    exact this
  · exact h.bg
theorem Inv.do {s s' : Ps} (h : Inv s) (c : Cl) (hd : DoP s c s') : Inv s' := by
  unfold DoP at hd
  split at hd
  · exact h.cr _ hd
  · split at hd
    · rw [hd]; exact h.ap _ _
    · split at hd
      · rw [hd]; exact h.sy _
      · split at hd
        · rw [hd]; exact h.rn _ _
        · split at hd
          · rw [hd]; exact h.rm _
          · rw [hd]; exact h.sd _
/-- A file that lasts. -/
structure Last (s : Ps) (p : ByteArray) (f : Nat) (xs : List Int) : Prop where
  ne : p ≠ ByteArray.empty
  N : s.N p = some f
  L : s.L p = some f
  F : s.F f = some (xs, xs.length)
  C : s.C (folF p) = []
theorem Last.bg {s : Ps} {p : ByteArray} {f : Nat} {xs : List Int} (h : Last s p f xs) : Last (bgP s) p f xs := ⟨h.ne, by rw [bgP_N]; exact h.N, by rw [bgP_L]; exact h.L, by rw [bgP_F]; exact h.F, by rw [bgP_C]; exact h.C⟩
theorem Last.note {s : Ps} {p q : ByteArray} {f : Nat} {xs : List Int} (h : Last s p f xs) {c : Chg} (hc : InF (folF q) c) (hq : folF q ≠ folF p) : Last (noteP s q c) p f xs :=
  ⟨h.ne, by show apl s.N c p = _; rw [apl_off (hc.off h.ne (fun e => hq e.symm))]; exact h.N, h.L, h.F, by show upd s.C (folF q) _ (folF p) = []; rw [upd_other _ _ (fun e => hq e.symm)]; exact h.C⟩
/-- The calls that leave it. -/
def Lets (c : Cl) (p : ByteArray) : Prop := c.kind = 2 ∧ c.path ≠ p ∨ c.kind = 3 ∨ c.kind = 6 ∨ (1 ≤ c.kind ∧ c.kind ≤ 5 ∧ folF c.path ≠ folF p)
theorem Last.setF {s : Ps} {p : ByteArray} {f : Nat} {xs : List Int} (h : Last s p f xs) (u : Int) {g : Nat} (x : List Int × Nat) (hg : g ≠ f ∨ x = (xs, xs.length)) : Last { s with used := u, F := upd s.F g (some x) } p f xs :=
  ⟨h.ne, h.N, h.L, by
    show upd s.F g (some x) f = _
    by_cases e : f = g
    · subst e
      rw [upd_same]
      rcases hg with hg | hg
      · exact absurd rfl hg
      · rw [hg]
    · rw [upd_other _ _ e]; exact h.F, h.C⟩
theorem Last.do {s s' : Ps} {p : ByteArray} {f : Nat} {xs : List Int} (hi : Inv s) (h : Last s p f xs) (c : Cl) (hl : Lets c p) (hd : DoP s c s') : Last s' p f xs := by
  unfold DoP at hd
  split at hd
  · rename_i hk
    have hq : folF c.path ≠ folF p := by
      rcases hl with ⟨h', -⟩ | h' | h' | ⟨-, -, h'⟩
      · omega
      · omega
      · omega
      · exact h'
    unfold CrP at hd
    split at hd
    · rename_i h0
      obtain ⟨g, hg, rfl⟩ := hd
      have hp := path_ne (oneF_one (crE_ok h0).1)
      have hgf : g ≠ f := fun e => by subst e; rw [h.F] at hg; cases hg
      have h1 := h.bg.setF (bgP s).used ([], 0) (.inl hgf)
      rw [bgP_F] at h1
      exact h1.note ⟨.inl rfl, fun a b e => by injection e with e; injection e with e1 e2; subst e1; exact ⟨rfl, hp⟩⟩ hq
    · subst hd; exact h.bg
  · split at hd
    · rename_i hk
      subst hd
      have hne : c.path ≠ p := by
        rcases hl with ⟨-, h'⟩ | h' | h' | ⟨-, -, h'⟩
        · exact h'
        · omega
        · omega
        · exact fun e => h' (by rw [e])
      unfold apP
      split
      · split
        · exact h.bg
        · rename_i g ys k hfp
          have hN := (fileP_inv hfp).1
          have hgf : g ≠ f := fun e => hne (hi.inj _ _ f (by rw [← e]; exact hN) h.N)
          have h1 := h.bg.setF (s.used + c.data.length) (ys ++ c.data, k) (.inl hgf)
          rw [bgP_F] at h1
          exact h1
      · exact h.bg
    · split at hd
      · subst hd
        unfold syP
        split
        · split
          · exact h.bg
          · rename_i g ys k hfp
            have hF := (fileP_inv hfp).2
            have h1 := h.bg.setF (bgP s).used (g := g) (ys, ys.length) (by
              by_cases e : g = f
              · subst e
                rw [h.F] at hF
                injection hF with hF
                injection hF with hF1 hF2
                subst hF1
                exact .inr rfl
              · exact .inl e)
            rw [bgP_F] at h1
            exact h1
        · exact h.bg
      · split at hd
        · rename_i hk
          subst hd
          have hq : folF c.path ≠ folF p := by
            rcases hl with ⟨h', -⟩ | h' | h' | ⟨-, -, h'⟩
            · omega
            · omega
            · omega
            · exact h'
          unfold rnP
          split
          · rename_i h0
            split
            · exact h.bg
            · obtain ⟨h1, h2, h3⟩ := oneF_two (opEP_ok h0.1).1
              have h4 : Last { bgP s with used := s.used - lenAt s c.dst } p f xs := ⟨h.bg.ne, h.bg.N, h.bg.L, h.bg.F, h.bg.C⟩
              exact h4.note ⟨.inr rfl, fun a b e => by injection e with e; injection e with e1 e2; subst e1; exact ⟨h3, path_ne h2⟩⟩ hq
          · exact h.bg
        · split at hd
          · rename_i hk
            subst hd
            have hq : folF c.path ≠ folF p := by
              rcases hl with ⟨h', -⟩ | h' | h' | ⟨-, -, h'⟩
              · omega
              · omega
              · omega
              · exact h'
            unfold rmP
            split
            · split
              · exact h.bg
              · rename_i g ys k _
                have h4 : Last { bgP s with used := s.used - ys.length } p f xs := ⟨h.bg.ne, h.bg.N, h.bg.L, h.bg.F, h.bg.C⟩
                exact h4.note ⟨.inr rfl, fun _ _ h => nomatch h⟩ hq
            · exact h.bg
          · subst hd
            unfold sdP
            split
            · refine ⟨h.ne, by show (bgP s).N p = _; rw [bgP_N]; exact h.N, ?_, by show (bgP s).F f = _; rw [bgP_F]; exact h.F, ?_⟩
              · show (s.C c.path).foldl apl s.L p = _
                by_cases e : folF p = c.path
                · rw [← e, h.C]; exact h.L
                · rw [fold_off (fun x hx => (hi.cq _ x hx).off h.ne e)]; exact h.L
              · show upd s.C c.path [] (folF p) = []
                by_cases e : folF p = c.path
                · rw [e, upd_same]
                · rw [upd_other _ _ e]; exact h.C
            · exact h.bg
/-- A file whose bytes and whose folder are synced lasts. -/
theorem last_of {s : Ps} (hi : Inv s) {p : ByteArray} {f : Nat} {xs : List Int} {k : Nat} (hp : p ≠ ByteArray.empty) (hf : fileP s p = some (f, xs, k)) (h1 : opEP s [p] p = 0) (h2 : bgEP (syP s p) false [] = 0) : Last (sdP (syP s p) (folF p)) p f xs := by
  have hN := (fileP_inv hf).1
  have hs := hi.sy p
  have hsN : (syP s p).N p = some f := by unfold syP; rw [if_pos h1, hf]; show (bgP s).N p = _; rw [bgP_N]; exact hN
  have hsF : (syP s p).F f = some (xs, xs.length) := by unfold syP; rw [if_pos h1, hf]; show upd s.F f _ f = _; rw [upd_same]
  unfold sdP
  rw [if_pos h2]
  refine ⟨hp, by show (bgP (syP s p)).N p = _; rw [bgP_N]; exact hsN, ?_, by show (bgP (syP s p)).F f = _; rw [bgP_F]; exact hsF, upd_same _ _ _⟩
  show ((syP s p).C (folF p)).foldl apl (syP s p).L p = some f
  rw [← hs.nL p hp]
  exact hsN
end Go.Proofs.YtegdadkejheagaaGreatDoor
