/-
  Pure: what there is behind a crash; a file more in a disk; names and lasting names turned together.
-/
import Derived.Test.YtegdadkejheagaaGreatDoorFUA
namespace Go.Proofs.YtegdadkejheagaaGreatDoor
open Go.RowKit Go.WideMaps Go.Maps

theorem rmL_le {xs : List Int} {s : Nat} (h : s ≤ xs.length) (cs : List Int) (i : Nat) : (rmL xs s cs i).length ≤ xs.length := by
  unfold rmL
  split
  · omega
  · have hk : rmK xs s cs i ≤ xs.length - s := by unfold rmK; have := Nat.mod_lt (chs cs i).toNat (show 0 < xs.length - s + 1 by omega); omega
    rw [List.length_append, List.length_take]
    split
    · rw [List.length_replicate]; omega
    · rw [List.length_take, List.length_drop]; omega
theorem rmL_all {xs : List Int} {s : Nat} (h : AllB xs) (cs : List Int) (i : Nat) : AllB (rmL xs s cs i) := by
  unfold rmL
  split
  · exact h
  · intro x hx
    rcases List.mem_append.1 hx with hx | hx
    · exact h x (List.mem_of_mem_take hx)
    · split at hx
      · rw [List.eq_of_mem_replicate hx]; omega
      · exact h x (List.mem_of_mem_drop (List.mem_of_mem_take hx))
/-- The files behind a crash, one by one. -/
def crO (N : ByteArray → Option Nat) (F : Nat → Option (List Int × Nat)) (cs : List Int) (s : List (ByteArray × List Int) × Nat) (p : ByteArray) : List (ByteArray × List Int) × Nat :=
  match (N p).bind F with
  | none => s
  | some x => (s.1 ++ [(p, rmL x.1 x.2 cs s.2)], rmN x.1 x.2 s.2)
def crG (N : ByteArray → Option Nat) (F : Nat → Option (List Int × Nat)) (cs : List Int) (i : Nat) (ks : List ByteArray) : List (ByteArray × List Int) × Nat := ks.foldl (crO N F cs) ([], i)
theorem crG_snoc (N : ByteArray → Option Nat) (F : Nat → Option (List Int × Nat)) (cs : List Int) (i : Nat) (ks : List ByteArray) (p : ByteArray) : crG N F cs i (ks ++ [p]) = crO N F cs (crG N F cs i ks) p := by
  unfold crG
  rw [List.foldl_append]
  rfl
theorem crG_keys {N : ByteArray → Option Nat} {F : Nat → Option (List Int × Nat)} (cs : List Int) (i : Nat) (ks : List ByteArray) : ∀ p, p ∈ (crG N F cs i ks).1.map Prod.fst → p ∈ ks := by
  suffices h : ∀ (ks : List ByteArray) (s : List (ByteArray × List Int) × Nat) p, p ∈ (ks.foldl (crO N F cs) s).1.map Prod.fst → p ∈ s.1.map Prod.fst ∨ p ∈ ks by
    intro p hp
    rcases h ks ([], i) p hp with h' | h'
    · simp at h'
    · exact h'
  intro ks
  induction ks with
  | nil => intro s p hp; exact .inl hp
  | cons k ks ih =>
    intro s p hp
    rcases ih _ p hp with h' | h'
    · unfold crO at h'
      split at h'
      · exact .inl h'
      · simp only [List.map_append, List.map_cons, List.map_nil, List.mem_append, List.mem_singleton] at h'
        rcases h' with h' | h'
        · exact .inl h'
        · exact .inr (by rw [h']; simp)
    · exact .inr (List.mem_cons_of_mem _ h')
def sumL (l : List (ByteArray × List Int)) : Nat := (l.map fun x => x.2.length).sum
theorem sumL_snoc (l : List (ByteArray × List Int)) (p : ByteArray) (xs : List Int) : sumL (l ++ [(p, xs)]) = sumL l + xs.length := by
  unfold sumL
  simp
/-- A disk that has just these files, all of them lasting. -/
structure CrI (q : Int) (l : List (ByteArray × List Int)) (s : Ps) : Prop where
  quota : s.quota = q
  used : s.used = (sumL l : Nat)
  last : s.last = 0
  count : s.count = 0
  dark : s.dark = false
  C : ∀ p, s.C p = []
  R : ∀ i, s.R i = false
  NL : s.N = s.L
  no : ∀ p, p ∉ l.map Prod.fst → s.N p = none
  yes : ∀ p xs, (p, xs) ∈ l → ∃ f, s.N p = some f ∧ s.F f = some (xs, xs.length)
  inj : ∀ p q f, s.N p = some f → s.N q = some f → p = q
theorem cri_new (q : Int) : CrI q [] (newS q).ps := ⟨rfl, rfl, rfl, rfl, rfl, fun _ => rfl, fun _ => rfl, rfl, fun _ _ => rfl, fun _ _ h => absurd h (by simp), fun _ _ _ h => absurd (show (none : Option Nat) = some _ from h) (by simp)⟩
theorem CrI.put {q : Int} {l : List (ByteArray × List Int)} {s : Ps} (h : CrI q l s) {p : ByteArray} {xs : List Int} {f : Nat} (hp : p ∉ l.map Prod.fst) (hf : s.F f = none) (hnF : ∀ r g, s.N r = some g → s.F g ≠ none) :
    CrI q (l ++ [(p, xs)]) { s with used := s.used + xs.length, N := upd s.N p (some f), L := upd s.L p (some f), F := upd s.F f (some (xs, xs.length)) } where
  quota := h.quota
  used := by show s.used + _ = _; rw [h.used, sumL_snoc]; push_cast; rfl
  last := h.last
  count := h.count
  dark := h.dark
  C := h.C
  R := h.R
  NL := by show upd s.N p _ = upd s.L p _; rw [h.NL]
  no := fun r hr => by
    show upd s.N p (some f) r = none
    rw [List.map_append, List.mem_append] at hr
    rw [upd_other _ _ (fun e => hr (.inr (by rw [e]; simp)))]
    exact h.no r (fun e => hr (.inl e))
  yes := fun r ys hr => by
    rcases List.mem_append.1 hr with hr | hr
    · obtain ⟨g, h1, h2⟩ := h.yes r ys hr
      refine ⟨g, ?_, ?_⟩
      · show upd s.N p (some f) r = _
        rw [upd_other _ _ (fun e => hp (by rw [← e]; exact List.mem_map.2 ⟨_, hr, rfl⟩))]
        exact h1
      · show upd s.F f _ g = _
        rw [upd_other _ _ (fun e => by subst e; rw [hf] at h2; cases h2)]
        exact h2
    · simp at hr
      obtain ⟨rfl, rfl⟩ := hr
      exact ⟨f, upd_same _ _ _, upd_same _ _ _⟩
  inj := fun a b g ha hb => by
    have ha : upd s.N p (some f) a = some g := ha
    have hb : upd s.N p (some f) b = some g := hb
    unfold upd at ha hb
    split at ha
    · rename_i e1
      injection ha with ha
      subst ha
      split at hb
      · rename_i e2; rw [e1, e2]
      · exact absurd hf (hnF b f hb)
    · split at hb
      · injection hb with hb
        subst hb
        exact absurd hf (hnF a f ha)
      · exact h.inj a b g ha hb
/-- A file more, whatever it holds. -/
theorem Bd.addFile {w : World} {B : Nat → Prop} {S : St} {n f : Nat} {c0 : FileC} (h : Bd w B S n) (hf : S.F f = none) (hfl : FileAt w B f c0) (hnew : ∀ r, c0.v.ownBlock = some r → ∀ g c, S.F g = some c → c.v.ownBlock ≠ some r) : Bd w B { S with F := upd S.F f (some c0) } n := by
  have hex : ∀ g, (∃ c, S.F g = some c) → ∃ c, upd S.F f (some c0) g = some c := fun g ⟨c, hc⟩ => by
    by_cases e : g = f
    · subst e; exact ⟨_, upd_same _ _ _⟩
    · exact ⟨c, by rw [upd_other _ _ e]; exact hc⟩
  exact {
    mN := h.mN, mL := h.mL, mC := h.mC, mR := h.mR, bB := h.bB, sp := h.sp, nl := h.nl, rw := h.rw, rA := h.rA, kz := h.kz
    fl := fun g c hg => by
      by_cases e : g = f
      · subst e
        simp only [upd_same, Option.some.injEq] at hg
        subst hg
        exact hfl
      · simp only [upd_other _ _ e] at hg
        exact h.fl g c hg
    fA := fun g k c e r hne hg hk hr hr' => by
      by_cases e1 : g = f
      · subst e1
        simp only [upd_same, Option.some.injEq] at hg
        subst hg
        simp only [upd_other _ _ (fun e => hne e.symm)] at hk
        exact hnew r hr k e hk hr'
      · simp only [upd_other _ _ e1] at hg
        by_cases e2 : k = f
        · subst e2
          simp only [upd_same, Option.some.injEq] at hk
          subst hk
          exact hnew r hr' g c hg hr
        · simp only [upd_other _ _ e2] at hk
          exact h.fA g k c e r hne hg hk hr hr'
    nF := fun p g hp => hex g (h.nF p g hp)
    lF := fun p g hp => hex g (h.lF p g hp)
    cF := fun p v l c g hp hc hg => hex g (h.cF p v l c g hp hc hg) }
/-- Both maps of names turned. -/
theorem Bd.setNL {w w' : World} {B : Nat → Prop} {S : St} {n bn bl : Nat} (h : Bd w B S n) (hbn : S.bn = some bn) (hbl : S.bl = some bl) (N' L' : ByteArray → Option Nat) (hN : MapAt w' (some bn) (n + 1) (nmV N')) (hL : MapAt w' (some bl) (n + 1) (nmV L')) (hF : Fx (fun i => i = bn ∨ i = bl) w w')
    (hexN : ∀ p f, N' p = some f → ∃ c, S.F f = some c) (hexL : ∀ p f, L' p = some f → ∃ c, S.F f = some c) (hk : ∀ p, N' p ≠ none ∨ L' p ≠ none → p.size ≤ 200) : Bd w' B { S with N := N', L := L' } (n + 1) := by
  have sn := h.sp bn
  have sl := h.sp bl
  have mbn := (h.mN.at hbn).isMap
  have mbl := (h.mL.at hbl).isMap
  have cfar : ∀ {g : Nat} {cs : Array Value} {e : TypeId} {q : Nat × Nat}, w.heap[g]? = some (.cells cs e q) → w'.heap[g]? = w.heap[g]? := fun {g cs e q} hg => by
    refine hF.block g (Array.getElem?_eq_some_iff.1 hg).1 (fun e' => ?_)
    rcases e' with e' | e'
    · subst e'
      obtain ⟨es, k, hm⟩ := mbn
      rw [hm] at hg
      injection hg with hg
      cases hg
    · subst e'
      obtain ⟨es, k, hm⟩ := mbl
      rw [hm] at hg
      injection hg with hg
      cases hg
  exact {
    mN := by show MapAt w' S.bn (n + 1) (nmV N'); rw [hbn]; exact hN
    mL := by show MapAt w' S.bl (n + 1) (nmV L'); rw [hbl]; exact hL
    mC := h.mC.far (fun x e => hF.block x (by have := h.mC; rw [e] at this; exact this.lt) (fun e' => by
      rcases e' with e' | e'
      · exact (sn.1 hbn).2.1 (by rw [e, e'])
      · exact (sl.2.1 hbl).1 (by rw [e, e']))) (Nat.le_succ n)
    mR := h.mR.far (fun x e => hF.block x (by have := h.mR; rw [e] at this; exact this.lt) (fun e' => by
      rcases e' with e' | e'
      · exact (sn.1 hbn).2.2 (by rw [e, e'])
      · exact (sl.2.1 hbl).2 (by rw [e, e']))) (Nat.le_succ n)
    bB := h.bB, sp := h.sp, nl := h.nl
    fl := fun f c hf => (h.fl f c hf).far (cfar (h.fl f c hf).blk) (fun g hg => by
      obtain ⟨cur, hcur⟩ := ownsRow_blk (h.fl f c hf).own hg
      exact cfar hcur) (fun _ _ h => h)
    fA := h.fA, nF := hexN, lF := hexL, cF := h.cF
    rw := fun p v l hp => ⟨(h.rw p v l hp).1.far (fun g hg => by
      obtain ⟨cur, hcur⟩ := ownsRow_blk (h.rw p v l hp).1.own hg
      exact cfar hcur) (fun _ _ h => h), (h.rw p v l hp).2⟩
    rA := h.rA
    kz := fun p hp => by
      rcases hp with h' | h' | h'
      · exact hk p (.inl h')
      · exact hk p (.inr h')
      · exact h.kz p (.inr (.inr h')) }
/-- What a crash leaves of names leads to files. -/
theorem sv_ex {w : World} {B : Nat → Prop} {S : St} {n : Nat} (h : Bd w B S n) (cs : List Int) : ∀ (ks : List ByteArray) (N : ByteArray → Option Nat) (i : Nat), (∀ p f, N p = some f → ∃ e, S.F f = some e) → ∀ p f, svF S.ps.C cs N i ks p = some f → ∃ e, S.F f = some e
  | [], N, i, hN => hN
  | q :: ks, N, i, hN => by
    refine sv_ex h cs ks _ (i + 1) ?_
    suffices hs : ∀ (l : List Chg) (M : ByteArray → Option Nat), (∀ c ∈ l, ∀ f, c.file = some f → ∃ e, S.F f = some e) → (∀ p f, M p = some f → ∃ e, S.F f = some e) → ∀ p f, l.foldl apl M p = some f → ∃ e, S.F f = some e by
      refine hs _ _ (fun c hc f hf => ?_) hN
      have hc := List.mem_of_mem_take hc
      cases hC : S.C q with
      | none =>
        have : S.ps.C q = [] := by show ((S.C q).map Prod.snd).getD [] = []; rw [hC]; rfl
        rw [this] at hc
        cases hc
      | some x =>
        have : S.ps.C q = x.2 := by show ((S.C q).map Prod.snd).getD [] = x.2; rw [hC]; rfl
        rw [this] at hc
        exact h.cF q x.1 x.2 c f hC hc hf
    intro l
    induction l with
    | nil => intro M _ hM; exact hM
    | cons c l ih =>
      intro M hl hM
      exact ih _ (fun x hx => hl x (List.mem_cons_of_mem _ hx)) (apl_ex hM (hl c (by simp)))
theorem sv_size {S : St} {w : World} {B : Nat → Prop} {n : Nat} (h : Bd w B S n) (cs : List Int) : ∀ (ks : List ByteArray) (N : ByteArray → Option Nat) (i : Nat), (∀ p, N p ≠ none → p.size ≤ 200) → ∀ p, svF S.ps.C cs N i ks p ≠ none → p.size ≤ 200
  | [], N, i, hN => hN
  | q :: ks, N, i, hN => by
    refine sv_size h cs ks _ (i + 1) ?_
    suffices hs : ∀ (l : List Chg) (M : ByteArray → Option Nat), (∀ c ∈ l, c.Ok) → (∀ p, M p ≠ none → p.size ≤ 200) → ∀ p, l.foldl apl M p ≠ none → p.size ≤ 200 by
      refine hs _ _ (fun c hc => ?_) hN
      have hc := List.mem_of_mem_take hc
      cases hC : S.C q with
      | none =>
        have : S.ps.C q = [] := by show ((S.C q).map Prod.snd).getD [] = []; rw [hC]; rfl
        rw [this] at hc
        cases hc
      | some x =>
        have : S.ps.C q = x.2 := by show ((S.C q).map Prod.snd).getD [] = x.2; rw [hC]; rfl
        rw [this] at hc
        exact (h.rw q x.1 x.2 hC).1.ok c hc
    intro l
    induction l with
    | nil => intro M _ hM; exact hM
    | cons c l ih =>
      intro M hl hM
      exact ih _ (fun x hx => hl x (List.mem_cons_of_mem _ hx)) (apl_size hM (hl c (by simp)))
section
variable {w wr w' : World} {cb ab : Nat} {v : Value} {cs : List Int} {i : Nat} {mf : Option Nat} {nf : Nat} {N : ByteArray → Option Nat} {kv : Value} {ks : List ByteArray}
theorem Sv.step {j : Nat} (h : Sv w wr cb ab v cs i mf nf N kv ks) (hn : Nx w' cb ab v cs j) (hF : Fx (fun k => k = ab) wr w') : Sv w w' cb ab v cs j mf nf N kv ks :=
  ⟨h.fx.trans hF (fun _ _ h => h), hn, h.mp.far (fun b e => by
    have hm := h.mp
    rw [e] at hm
    exact hF.block _ hm.lt (fun e2 => by subst e2; exact hm.notBk h.nx.a)) (Nat.le_refl _), ownsRow_far h.ky (fun g hg => by
    obtain ⟨cur, hcur⟩ := ownsRow_blk h.ky hg
    exact hF.block _ (ownsRow_lt h.ky hg) (type_ne hcur h.nx.a (by decide))), h.nw⟩
theorem Sv.put {B : Nat → Prop} (h : Sv w wr cb ab v cs i mf nf N kv ks) (hF : Fx B wr w') (h1 : ∀ i, i < w.heap.size → ¬ B i) (h2 : ¬ B ab) (h3 : ∀ b, mf = some b → ¬ B b) (h4 : ∀ g, kv.ownBlock = some g → ¬ B g) (hj : ∃ j, Nx w cb ab v cs j) : Sv w w' cb ab v cs i mf nf N kv ks := by
  have hfx : Fx (fun k => k = ab) w w' := h.fx.trans hF (fun i hi hb => absurd hb (h1 i hi))
  obtain ⟨j, hj⟩ := hj
  exact ⟨hfx, hj.turn hfx (h.nx.a.far (hF.block _ h.nx.a.lt h2)), h.mp.far (fun b e => by
    have hm := h.mp
    rw [e] at hm
    exact hF.block _ hm.lt (h3 b e)) (Nat.le_refl _), ownsRow_far h.ky (fun g hg => hF.block _ (ownsRow_lt h.ky hg) (h4 g hg)), h.nw⟩
end
end Go.Proofs.YtegdadkejheagaaGreatDoor
