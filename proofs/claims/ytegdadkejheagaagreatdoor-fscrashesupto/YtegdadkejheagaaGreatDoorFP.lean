/-
  Walks: Create.
-/
import Derived.Test.YtegdadkejheagaaGreatDoorFH
namespace Go.Proofs.YtegdadkejheagaaGreatDoor
open Go.RowKit Go.WideMaps

theorem path_pos {p : ByteArray} (h : pathF p = true) : 1 ≤ p.size := by
  rcases Nat.eq_zero_or_pos p.size with e | e
  · have : p = ByteArray.empty := by
      apply ByteArray.ext
      exact Array.eq_empty_of_size_eq_zero e
    subst this
    exact absurd h (by decide)
  · exact e
theorem oneF_pos {L : List ByteArray} (h : oneF L = true) : ∀ p ∈ L, 1 ≤ p.size := by
  intro p hp
  have := List.all_eq_true.1 h p hp
  simp only [Bool.and_eq_true] at this
  exact path_pos this.1
def bgP (s : Ps) : Ps := if s.dark = true then s else { s with count := s.count + 1, dark := decide (s.count + 1 = s.last) }
theorem bgS_ps (S : St) : (bgS S).ps = bgP S.ps := by
  unfold bgS bgP St.ps
  split <;> rfl
theorem bgS_m (S : St) : (bgS S).m = S.m := by unfold bgS; split <;> rfl
theorem bgS_F (S : St) : (bgS S).F = S.F := by unfold bgS; split <;> rfl
def bgEP (s : Ps) (r : Bool) (L : List ByteArray) : Int := if s.dark = true then 13 else if s.count + 1 = s.last then 13 else if oneF L = false then 1 else if (s.R (s.count + 1) && r) = true then 11 else 0
theorem bgE_ps (S : St) (r : Bool) (L : List ByteArray) : bgE S r L = bgEP S.ps r L := rfl
def crE (s : Ps) (p : ByteArray) : Int := if bgEP s true [p] = 0 then (match s.N p with | none => 0 | some _ => 8) else bgEP s true [p]
def crC (p : ByteArray) (f : Nat) : Chg := ⟨ByteArray.empty, some (p, f)⟩
def CrP (s : Ps) (p : ByteArray) (s' : Ps) : Prop := if crE s p = 0 then ∃ f, s.F f = none ∧ s' = noteP { bgP s with F := upd s.F f (some ([], 0)) } p (crC p f) else s' = bgP s
theorem ps_setF (S : St) (f : Nat) (c : FileC) : St.ps { S with F := upd S.F f (some c) } = { S.ps with F := upd S.ps.F f (some (c.xs, c.s)) } := by
  have e := upd_map S.F (fun c : FileC => (c.xs, c.s)) f (some c)
  unfold St.ps
  simp only [Option.map_some] at e
  simp only [e]
/-- A slice of one text that was made. -/
theorem rdS_made (w : World) (p : ByteArray) : RdS (w.alloc (.cells #[.string p] 9)) (.slice (some ⟨w.heap.size, 0, none⟩) 1 1) [p] :=
  ⟨some ⟨w.heap.size, 0, none⟩, 1, rfl, Nat.le_refl _, fun _ => ⟨w.heap.size, 0, rfl, by simp, (Bk.new w 9 [.string p]).range⟩⟩
/-- A file more. -/
theorem Bd.addF {w : World} {B : Nat → Prop} {S : St} {n f : Nat} (h : Bd w B S n) (hf : S.F f = none) (hb : Bk w f 73 [.slice none 0 0, .int .i64 0]) (hB : B f) : Bd w B { S with F := upd S.F f (some ⟨.slice none 0 0, [], 0⟩) } n := by
  have hex : ∀ g, (∃ c, S.F g = some c) → ∃ c, upd S.F f (some ⟨.slice none 0 0, [], 0⟩) g = some c := fun g ⟨c, hc⟩ => by
    by_cases e : g = f
    · subst e; exact ⟨_, upd_same _ _ _⟩
    · exact ⟨c, by rw [upd_other _ _ e]; exact hc⟩
  exact {
    mN := h.mN, mL := h.mL, mC := h.mC, mR := h.mR, bB := h.bB, sp := h.sp, nl := h.nl, rw := h.rw, rA := h.rA, kz := h.kz
    fl := fun g c hg => by
      by_cases e : g = f
      · subst e
        simp only [upd_same, Option.some.injEq] at hg
        subst hg
        exact ⟨hb, hB, Own.nil _ _ _ _, (fun _ h => nomatch h), AllIn.nil, Nat.le_refl _, Nat.zero_le _⟩
      · simp only [upd_other _ _ e] at hg
        exact h.fl g c hg
    fA := fun g k c e r hne hg hk hr hr' => by
      by_cases e1 : g = f
      · subst e1
        simp only [upd_same, Option.some.injEq] at hg
        subst hg
        cases hr
      · simp only [upd_other _ _ e1] at hg
        by_cases e2 : k = f
        · subst e2
          simp only [upd_same, Option.some.injEq] at hk
          subst hk
          cases hr'
        · simp only [upd_other _ _ e2] at hk
          exact h.fA g k c e r hne hg hk hr hr'
    nF := fun p g hp => hex g (h.nF p g hp)
    lF := fun p g hp => hex g (h.lF p g hp)
    cF := fun p v l c g hp hc hg => hex g (h.cF p v l c g hp hc hg) }
theorem Bd.lt {w : World} {B : Nat → Prop} {S : St} {n f : Nat} (h : Bd w B S n) (hf : w.heap.size ≤ f) : S.F f = none := by
  cases hx : S.F f with
  | none => rfl
  | some c => have := (h.fl f c hx).blk.lt; omega
set_option maxRecDepth 100000 in
set_option maxHeartbeats 2000000 in
theorem create_any (p : ByteArray) {w : World} {B : Nat → Prop} {d n : Nat} {S : St} (h : Dk w B d S n) (hg : Gl w) (hc0 : 0 ≤ S.count) (hc1 : S.count < 1000000) (hgd : 3 ≤ d) (hn : n < 900000) (hm : S.m < 1000) :
    Calls Tryz.prog 13 #[.pointer (some ⟨d, 0, none⟩), .string p] w fun e w' => e = .returned (.int .i64 (crE S.ps p)) ∧ ∃ S', Dk w' (Gr B w) d S' (n + 2) ∧ CrP S.ps p S'.ps ∧ Fx B w w' ∧ S'.m ≤ S.m + 1 := by
  obtain ⟨w1, hw1⟩ : ∃ w1, w.alloc (.cells #[.string p] 9) = w1 := ⟨_, rfl⟩
  have hb1 : Below w.heap.size w w1 := by rw [← hw1]; exact (Below.refl _ _).alloc (Nat.le_refl _) _
  have hr1 : RdS w1 (.slice (some ⟨w.heap.size, 0, none⟩) 1 1) [p] := by rw [← hw1]; exact rdS_made w p
  have hdlt := h.blk.lt
  have KBg := Kept.mk (begin_any true _ [p] (h.later hb1) (hg.later hb1) hr1 (by simp) (fun b off k c e => by injection e with e; injection e with e; injection e with e; omega) hc0 hc1 hgd)
  have KD := Kept.mk h
  have KB1 := Kept.mk hb1
  have KCr : Kept (crE S.ps p = if bgE S true [p] = 0 then (match S.N p with | none => 0 | some _ => 8) else bgE S true [p]) := ⟨rfl⟩
  have KCP : Kept (∀ s', CrP S.ps p s' ↔ if crE S.ps p = 0 then ∃ f, S.F f = none ∧ s' = noteP { bgP S.ps with F := upd S.ps.F f (some ([], 0)) } p (crC p f) else s' = bgP S.ps) := ⟨fun s' => by
    unfold CrP
    have e : ∀ f, S.ps.F f = none ↔ S.F f = none := fun f => by
      show (S.F f).map _ = none ↔ _
      cases S.F f <;> simp
    simp only [e]⟩
  have KO : Kept (bgE S true [p] = 0 → p.size ≤ 200 ∧ 1 ≤ p.size) := ⟨fun h => ⟨oneF_size (bg_ok h) p (by simp), oneF_pos (bg_ok h) p (by simp)⟩⟩
  obtain ⟨E, hE⟩ : ∃ E, bgE S true [p] = E := ⟨_, rfl⟩
  rw [hE] at KBg KCr KO
  clear h hg hb1 hr1 hE
  go_enter Tryz.func13, Tryz.ntmps13
  go_wp2_with fail
  refine Calls.mono KBg.out (fun x w2 hq => ?_)
  obtain ⟨rfl, hd2, hf2⟩ := hq
  have KD2 := Kept.mk hd2
  have KF2 : Kept (Fx B w w2) := ⟨(Fx.ofBelow (S := B) KB1.out (Nat.le_refl _)).trans hf2 (fun i _ e => by subst e; exact KD.out.inB)⟩
  clear hw1 hd2 hf2 KBg
  by_cases h0 : E = 0
  · subst h0
    obtain ⟨hps, hpp⟩ := KO.out rfl
    have Kpp := Kept.mk hpp
    clear hpp
    have hlk := KD2.out.bd.mN.look Tryz.underlying53 (zero_ptr w2) (s := p) (by unfold maxLen; omega)
    rw [bgS_N, nmV_get, bgS_bn] at hlk
    have g2 := KD2.out.names
    rw [bgS_bn] at g2
    cases hN : S.N p with
    | some f =>
      have KE : Kept (crE S.ps p = 8) := ⟨by rw [KCr.out, if_pos rfl, hN]⟩
      rw [hN] at hlk
      unfold ptrV at hlk
      clear hN
      go_wp2
      go_ret
      refine ⟨by rw [KE.out]; rfl, bgS S, KD2.out.weak (fun i _ h => .inl h) (by omega), ?_, KF2.out, by rw [bgS_m]; omega⟩
      rw [KCP.out, KE.out, if_neg (by decide)]
      exact bgS_ps S
    | none =>
      have KE : Kept (crE S.ps p = 0) := ⟨by rw [KCr.out, if_pos rfl, hN]⟩
      rw [hN] at hlk
      unfold ptrV at hlk
      have KCl := Kept.mk (sclone_any p w2 (by omega))
      have Kps := Kept.mk hps
      clear hN hps
      go_wp2_with fail
      refine Calls.mono KCl.out (fun x w3 hq => ?_)
      obtain ⟨rfl, hb3⟩ := hq
      have KD3 := Kept.mk (KD2.out.later hb3)
      have KF3 : Kept (Fx B w w3) := ⟨KF2.out.trans (Fx.ofBelow (S := fun _ => False) hb3 (Nat.le_refl _)) (fun _ _ h => h.elim)⟩
      clear hb3 KCl hlk g2
      obtain ⟨w4, hw4⟩ : ∃ w4, w3.alloc (.cells #[.slice none 0 0, .int .i64 0] 73) = w4 := ⟨_, rfl⟩
      have hb4 : Below w3.heap.size w3 w4 := by rw [← hw4]; exact (Below.refl _ _).alloc (Nat.le_refl _) _
      have hk4 : Bk w4 w3.heap.size 73 [.slice none 0 0, .int .i64 0] := by rw [← hw4]; exact Bk.new w3 _ _
      have hfn : (bgS S).F w3.heap.size = none := KD3.out.bd.lt (Nat.le_refl _)
      have hd4 : Dk w4 (Gr B w) d { bgS S with F := upd (bgS S).F w3.heap.size (some ⟨.slice none 0 0, [], 0⟩) } n := by
        have h1 := (KD3.out.later hb4).weak (B' := Gr B w) (fun i _ h => .inl h) (Nat.le_refl _)
        exact ⟨h1.blk, h1.inB, h1.bd.addF hfn hk4 (.inr KF3.out.size)⟩
      have hcok : (crC p w3.heap.size).Ok := ⟨Nat.zero_le _, fun q f e => by injection e with e; injection e with e1 e2; subst e1; exact ⟨Kpp.out, Kps.out⟩⟩
      have KNo := Kept.mk (note_any p (crC p w3.heap.size) hd4 Kps.out hcok (fun f e => by
        have e : w3.heap.size = f := by injection e
        subst e
        exact ⟨_, upd_same _ _ _⟩) hn (by show (bgS S).m < 1000; rw [bgS_m]; exact hm))
      have KNo : Kept (Calls Tryz.prog 38 #[.pointer (some ⟨d, 0, none⟩), .string p, .agg #[.string ⟨#[]⟩, .string p, .pointer (some ⟨w3.heap.size, 0, none⟩)]] w4 _) := KNo
      have KF4 : Kept (Fx B w w4) := ⟨KF3.out.trans (Fx.ofBelow (S := fun _ => False) hb4 (Nat.le_refl _)) (fun _ _ h => h.elim)⟩
      have Kfn : Kept (S.F w3.heap.size = none) := ⟨by rw [← bgS_F]; exact hfn⟩
      clear hb4 hk4 hfn hd4 hcok
      go_wp2_with fail
      refine Calls.mono KNo.out (fun x w5 hq => ?_)
      obtain ⟨rfl, S5, hd5, hps5, -, hf5, hm5⟩ := hq
      have KM5 : Kept (S5.m ≤ S.m + 1) := ⟨by rw [hm5]; show (bgS S).m + 1 ≤ S.m + 1; rw [bgS_m]; omega⟩
      have KD5 := Kept.mk hd5
      have KP5 := Kept.mk hps5
      have KF5 : Kept (Fx B w w5) := ⟨KF4.out.trans hf5 (fun i hi h => h.elim id (fun h => by omega))⟩
      clear hd5 hps5 hf5 hm5 KNo hw4
      go_wp2
      go_ret
      refine ⟨by rw [KE.out]; rfl, S5, KD5.out.weak (fun i _ h => h.elim id (fun h => .inr (Nat.le_trans KF4.out.size h))) (Nat.le_refl _), ?_, KF5.out, KM5.out⟩
      rw [KCP.out, KE.out, if_pos rfl]
      refine ⟨_, Kfn.out, ?_⟩
      rw [KP5.out]
      rw [ps_setF, bgS_ps]
      have e : (bgP S.ps).F = S.ps.F := by unfold bgP; split <;> rfl
      rw [e]
  · have KE : Kept (crE S.ps p = E) := ⟨by rw [KCr.out, if_neg h0]⟩
    have hb : (E == 0) = false := by simpa using h0
    go_wp2
    go_ret
    refine ⟨by rw [KE.out]; rfl, bgS S, KD2.out.weak (fun i _ h => .inl h) (by omega), ?_, KF2.out, by rw [bgS_m]; omega⟩
    rw [KCP.out, KE.out, if_neg h0]
    exact bgS_ps S

open Go.RowKit Go.WideMaps

/-- A file turned. -/
theorem Bd.setFile {w w3 : World} {B : Nat → Prop} {S : St} {n f : Nat} {c c' : FileC} (h : Bd w B S n) (hf : S.F f = some c) (hk : ∀ i, i < w.heap.size → i ≠ f → c.v.ownBlock ≠ some i → w3.heap[i]? = w.heap[i]?)
    (hfile : FileAt w3 (Gr B w) f c') (hvb : c'.v.ownBlock = c.v.ownBlock ∨ ∃ g, c'.v.ownBlock = some g ∧ w.heap.size ≤ g) : Bd w3 (Gr B w) { S with F := upd S.F f (some c') } n := by
  have hx := h.fl f c hf
  have hB : ∀ i, i < w.heap.size → B i → Gr B w i := fun _ _ h => .inl h
  have hst : ∀ {g : Nat} {cs : Array Value} {e : TypeId} {q : Nat × Nat}, w.heap[g]? = some (.cells cs e q) → g ≠ f → c.v.ownBlock ≠ some g → w3.heap[g]? = w.heap[g]? := fun {g cs e q} hg h1 h2 => hk g (Array.getElem?_eq_some_iff.1 hg).1 h1 h2
  have hmap : ∀ {mb : Option Nat} {k : ByteArray → Option Value}, MapAt w mb n k → MapAt w3 mb n k := fun {mb k} hM => hM.far (fun b e => by
    subst e
    refine hk b hM.lt (fun e' => by subst e'; exact hM.notBk hx.blk) (fun e' => ?_)
    obtain ⟨cur, hcur⟩ := ownsRow_blk hx.own e'
    exact hM.notBk hcur) (Nat.le_refl _)
  have hex : ∀ g, (∃ c, S.F g = some c) → ∃ e, upd S.F f (some c') g = some e := fun g ⟨e, he⟩ => by
    by_cases e2 : g = f
    · subst e2; exact ⟨_, upd_same _ _ _⟩
    · exact ⟨e, by rw [upd_other _ _ e2]; exact he⟩
  exact {
    mN := hmap h.mN, mL := hmap h.mL, mC := hmap h.mC
    mR := h.mR.far (fun b e => by
      have hR := h.mR
      rw [e] at hR
      refine hk b hR.lt (fun e' => by subst e'; exact hR.notBk hx.blk) (fun e' => ?_)
      obtain ⟨cur, hcur⟩ := ownsRow_blk hx.own e'
      exact hR.notBk hcur) (Nat.le_refl _)
    bB := fun b hb => .inl (h.bB b hb), sp := h.sp, nl := h.nl, kz := h.kz
    fl := fun g e hg => by
      by_cases e1 : g = f
      · subst e1
        simp only [upd_same, Option.some.injEq] at hg
        subst hg
        exact hfile
      · simp only [upd_other _ _ e1] at hg
        have hy := h.fl g e hg
        refine hy.far (hst hy.blk e1 (fun e' => ?_)) (fun r hr => ?_) hB
        · obtain ⟨cur, hcur⟩ := ownsRow_blk hx.own e'
          exact type_ne hy.blk hcur (by decide) rfl
        · obtain ⟨cur, hcur⟩ := ownsRow_blk hy.own hr
          exact hst hcur (fun e' => type_ne hcur hx.blk (by decide) e') (fun e' => h.fA f g c e r (fun e2 => e1 e2.symm) hf hg e' hr)
    fA := fun g k x y r hne hg hk' hr hr' => by
      have hnew : ∀ k y, k ≠ f → S.F k = some y → c'.v.ownBlock = some r → y.v.ownBlock = some r → False := fun k y hkf hky h1 h2 => by
        rcases hvb with e3 | ⟨g', hg', hle⟩
        · exact h.fA f k c y r (fun e => hkf e.symm) hf hky (by rw [← e3]; exact h1) h2
        · rw [h1] at hg'
          injection hg' with hg'
          subst hg'
          have := ((h.fl k y hky).own.lt r h2).2
          omega
      by_cases e1 : g = f
      · subst e1
        simp only [upd_same, Option.some.injEq] at hg
        subst hg
        simp only [upd_other _ _ (fun e : k = g => hne e.symm)] at hk'
        exact hnew k y (fun e => hne e.symm) hk' hr hr'
      · simp only [upd_other _ _ e1] at hg
        by_cases e2 : k = f
        · subst e2
          simp only [upd_same, Option.some.injEq] at hk'
          subst hk'
          exact hnew g x e1 hg hr' hr
        · simp only [upd_other _ _ e2] at hk'
          exact h.fA g k x y r hne hg hk' hr hr'
    nF := fun p g hp => hex g (h.nF p g hp)
    lF := fun p g hp => hex g (h.lF p g hp)
    cF := fun p v l x g hp hxl hg => hex g (h.cF p v l x g hp hxl hg)
    rw := fun p v l hp => by
      have hy := h.rw p v l hp
      refine ⟨hy.1.far (fun r hr => ?_) hB, hy.2⟩
      obtain ⟨cur, hcur⟩ := ownsRow_blk hy.1.own hr
      refine hst hcur (fun e' => type_ne hcur hx.blk (by decide) e') (fun e' => ?_)
      obtain ⟨cur', hcur'⟩ := ownsRow_blk hx.own e'
      exact type_ne hcur hcur' (by decide) rfl
    rA := h.rA }
theorem Dk.setFile {w w3 : World} {B : Nat → Prop} {S : St} {d n f : Nat} {c c' : FileC} (h : Dk w B d S n) (hf : S.F f = some c) (hk : ∀ i, i < w.heap.size → i ≠ f → c.v.ownBlock ≠ some i → w3.heap[i]? = w.heap[i]?)
    (hfile : FileAt w3 (Gr B w) f c') (hvb : c'.v.ownBlock = c.v.ownBlock ∨ ∃ g, c'.v.ownBlock = some g ∧ w.heap.size ≤ g) : Dk w3 (Gr B w) d { S with F := upd S.F f (some c') } n := by
  have hx := h.bd.fl f c hf
  refine ⟨h.blk.far (hk d h.blk.lt (fun e => by subst e; exact type_ne h.blk hx.blk (by decide) rfl) (fun e => ?_)), .inl h.inB, h.bd.setFile hf hk hfile hvb⟩
  obtain ⟨cur, hcur⟩ := ownsRow_blk hx.own e
  exact type_ne h.blk hcur (by decide) rfl
def opEP (s : Ps) (L : List ByteArray) (p : ByteArray) : Int := if bgEP s true L = 0 then (match s.N p with | none => 7 | some _ => 0) else bgEP s true L
theorem opE_ps (S : St) (L : List ByteArray) (p : ByteArray) : opE S L p = opEP S.ps L p := rfl
def fileP (s : Ps) (p : ByteArray) : Option (Nat × List Int × Nat) := (s.N p).bind fun f => (s.F f).map fun c => (f, c.1, c.2)
def apE (s : Ps) (p : ByteArray) (k : Nat) : Int := if opEP s [p] p = 0 then (match fileP s p with | none => 0 | some (_, xs, _) => if 2097152 < xs.length + k then 2 else if s.quota < s.used + k then 12 else 0) else opEP s [p] p
def apP (s : Ps) (p : ByteArray) (ys : List Int) : Ps := if apE s p ys.length = 0 then (match fileP s p with | none => bgP s | some (f, xs, k) => { bgP s with used := s.used + ys.length, F := upd s.F f (some (xs ++ ys, k)) }) else bgP s
theorem own_form {w : World} {base : Nat} {k : IntKind} {e : TypeId} {v : Value} {xs : List Int} (h : Own k e w base v xs) : ∃ a c, v = .slice a xs.length c := by
  rcases h.2 with ⟨rfl, hn⟩ | ⟨g, cap, cur, rfl, -⟩
  · exact ⟨none, 0, by rw [hn]⟩
  · exact ⟨_, _, rfl⟩
theorem Dk.appended {w3 w4 : World} {B : Nat → Prop} {d n f : Nat} {S : St} {c : FileC} (h : Dk w3 B d S n) (hf : S.F f = some c) {ys : List Int} {v3 : Value} (ho : Own .u8 5 w4 0 v3 (c.xs ++ ys)) (hg : w3.grownBy w4 c.v.ownBlock) (ha : v3.ownBlock = c.v.ownBlock ∨ v3.ownBlock = some w3.heap.size) (hA : AllB ys) (hl : (c.xs ++ ys).length ≤ 2097152) :
    Bk w4 f 73 [c.v, .int .i64 (c.s : Nat)] ∧ Dk (w4.setCell ⟨f, 0, none⟩ v3) (Gr B w3) d { S with F := upd S.F f (some ⟨v3, c.xs ++ ys, c.s⟩) } n ∧ Fx B w3 (w4.setCell ⟨f, 0, none⟩ v3) := by
  have hx := h.bd.fl f c hf
  have hfr : ∀ g, c.v.ownBlock = some g → g ≠ f := fun g hg e => by
    subst e
    obtain ⟨cur, hcur⟩ := ownsRow_blk hx.own hg
    exact type_ne hx.blk hcur (by decide) rfl
  have hk4 : Bk w4 f 73 [c.v, .int .i64 (c.s : Nat)] := hx.blk.far (hg.block f hx.blk.lt (fun e => hfr f e.symm rfl))
  have hne : ∀ g, v3.ownBlock = some g → g ≠ f := fun g hg' e => by
    subst e
    obtain ⟨cur, hcur⟩ := ownsRow_blk ho hg'
    exact type_ne hk4 hcur (by decide) rfl
  refine ⟨hk4, h.setFile hf (fun i hi h1 h2 => ?_) ⟨hk4.set 0 v3, .inl hx.inB, ho.far (fun g hg' => Below.heap_setCell _ _ _ _ (hne g hg')), fun g hg' => ?_, hx.all.append hA, by show c.s ≤ (c.xs ++ ys).length; have := hx.le; rw [List.length_append]; omega, hl⟩ ?_, ?_⟩
  · rw [Below.heap_setCell _ _ _ _ h1]
    exact hg.block i hi (fun e => h2 e.symm)
  · rcases ha with e | e
    · exact .inl (hx.ownB g (by rw [← e]; exact hg'))
    · rw [hg'] at e
      injection e with e
      exact .inr (by omega)
  · rcases ha with e | e
    · exact .inl e
    · exact .inr ⟨_, e, Nat.le_refl _⟩
  · exact ((Fx.grown hg).weak (S' := B) (fun i _ e => hx.ownB i e)).trans (Fx.setCell _ f 0 v3) (fun i _ e => by subst e; exact hx.inB)
theorem Rd.fx {k : IntKind} {B : Nat → Prop} {w w' : World} {v : Value} {xs : List Int} (h : Rd k (fun b => ¬ B b) w v xs) (hF : Fx B w w') : Rd k (fun b => ¬ B b) w' v xs := h.far hF.size (fun b hb hn => ⟨hn, hF.block b hb hn⟩)
set_option maxRecDepth 100000 in
set_option maxHeartbeats 2000000 in
theorem append_any (p : ByteArray) (v2 : Value) (ys : List Int) {w : World} {B : Nat → Prop} {d n : Nat} {S : St} (h : Dk w B d S n) (hg : Gl w) (hc0 : 0 ≤ S.count) (hc1 : S.count < 1000000) (hgd : 3 ≤ d)
    (hr : Rd .u8 (fun b => ¬ B b) w v2 ys) (hA : AllB ys) (hy : ys.length ≤ 1000000000) (hu0 : -4398046511104 ≤ S.used) (hu1 : S.used ≤ 4398046511104) :
    Calls Tryz.prog 14 #[.pointer (some ⟨d, 0, none⟩), .string p, v2] w fun e w' => e = .returned (.int .i64 (apE S.ps p ys.length)) ∧ ∃ S', Dk w' (Gr B w) d S' n ∧ S'.ps = apP S.ps p ys ∧ Fx B w w' ∧ S'.m = S.m := by
  obtain ⟨w1, hw1⟩ : ∃ w1, w.alloc (.cells #[.string p] 9) = w1 := ⟨_, rfl⟩
  have hb1 : Below w.heap.size w w1 := by rw [← hw1]; exact (Below.refl _ _).alloc (Nat.le_refl _) _
  have hr1 : RdS w1 (.slice (some ⟨w.heap.size, 0, none⟩) 1 1) [p] := by rw [← hw1]; exact rdS_made w p
  have hdlt := h.blk.lt
  have KOp := Kept.mk (open_any _ p [] (h.later hb1) (hg.later hb1) hr1 (by simp) (fun b off k c e => by injection e with e; injection e with e; injection e with e; omega) hc0 hc1 hgd)
  have KD := Kept.mk h
  have KB1 := Kept.mk hb1
  have KR := Kept.mk hr
  have KA := Kept.mk hA
  have KE : Kept (apE S.ps p ys.length = if opE S [p] p = 0 then (match fileP S.ps p with | none => 0 | some (_, xs, _) => if 2097152 < xs.length + ys.length then 2 else if S.quota < S.used + ys.length then 12 else 0) else opE S [p] p) := ⟨rfl⟩
  have KP : Kept (apP S.ps p ys = if apE S.ps p ys.length = 0 then (match fileP S.ps p with | none => bgP S.ps | some (f, xs, k) => { bgP S.ps with used := S.used + ys.length, F := upd S.ps.F f (some (xs ++ ys, k)) }) else bgP S.ps) := ⟨rfl⟩
  have KOF : Kept (opE S [p] p = 0 → ∃ f, opF S [p] p = some f ∧ S.N p = some f) := ⟨fun h => by
    unfold opE at h
    unfold opF
    split at h
    · rename_i h0
      rw [if_pos h0]
      cases hN : S.N p with
      | none => rw [hN] at h; exact absurd h (by decide)
      | some f => exact ⟨f, rfl, rfl⟩
    · rename_i h0
      exact absurd h h0⟩
  obtain ⟨E, hE⟩ : ∃ E, opE S [p] p = E := ⟨_, rfl⟩
  obtain ⟨Fo, hFo⟩ : ∃ Fo, opF S [p] p = Fo := ⟨_, rfl⟩
  rw [hE, hFo] at KOp KOF
  rw [hE] at KE
  obtain ⟨a2, c2, rfl, -, hc2⟩ := hr
  clear h hg hb1 hr1 hE hFo hA hc2
  have hyi : (ys.length : Int) ≤ 1000000000 := by omega
  go_enter Tryz.func14, Tryz.ntmps14
  go_wp2_with fail
  refine Calls.mono KOp.out (fun x w2 hq => ?_)
  obtain ⟨rfl, hd2, hf2⟩ := hq
  have KD2 := Kept.mk hd2
  have KF2 : Kept (Fx B w w2) := ⟨(Fx.ofBelow (S := B) KB1.out (Nat.le_refl _)).trans hf2 (fun i _ e => by subst e; exact KD.out.inB)⟩
  clear hw1 hd2 hf2 KOp
  by_cases h0 : E = 0
  · subst h0
    obtain ⟨f, rfl, hN⟩ := KOF.out rfl
    obtain ⟨c, hc⟩ := KD.out.bd.nF p f hN
    have hcF : (bgS S).F f = some c := by rw [bgS_F]; exact hc
    have hfl := KD2.out.bd.fl f c hcF
    have KFl := Kept.mk hfl
    have KcF := Kept.mk hcF
    have KFP : Kept (fileP S.ps p = some (f, c.xs, c.s)) := ⟨by
      unfold fileP
      show (S.N p).bind (fun f => ((S.F f).map fun c => (c.xs, c.s)).map fun c => (f, c.1, c.2)) = _
      rw [hN]
      show ((S.F f).map fun c => (c.xs, c.s)).map (fun c => (f, c.1, c.2)) = _
      rw [hc]
      rfl⟩
    have KEr : Kept (apE S.ps p ys.length = if 2097152 < c.xs.length + ys.length then 2 else if S.quota < S.used + ys.length then 12 else 0) := ⟨by rw [KE.out, if_pos rfl, KFP.out]⟩
    obtain ⟨av, cv, hv⟩ := own_form hfl.own
    have hbig := hfl.big
    have k0 := hfl.blk.cell 0 _ rfl
    rw [hv] at k0
    have hl1 : IntKind.i64.wrap ((c.xs.length : Int) + (ys.length : Int)) = (c.xs.length : Int) + (ys.length : Int) := wr64 (by omega) (by omega)
    have Kv := Kept.mk hv
    clear hc hcF hN hfl hv
    unfold ptrV
    by_cases hlong : 2097152 < c.xs.length + ys.length
    · have hli : (2097152 : Int) < (c.xs.length : Int) + (ys.length : Int) := by omega
      have KE2 : Kept (apE S.ps p ys.length = 2) := ⟨by rw [KEr.out, if_pos hlong]⟩
      clear hlong
      go_wp2
      go_ret
      refine ⟨by rw [KE2.out]; rfl, bgS S, KD2.out.weak (fun i _ h => .inl h) (Nat.le_refl _), ?_, KF2.out, bgS_m S⟩
      rw [KP.out, KE2.out, if_neg (by decide)]
      exact bgS_ps S
    · have hli : ¬ (2097152 : Int) < (c.xs.length : Int) + (ys.length : Int) := by omega
      have q0 := KD2.out.quota
      have q1 := KD2.out.used
      have eq0 : (bgS S).quota = S.quota := by unfold bgS; split <;> rfl
      have eq1 : (bgS S).used = S.used := by unfold bgS; split <;> rfl
      rw [eq0] at q0
      rw [eq1] at q1
      have hl2 : IntKind.i64.wrap (S.used + (ys.length : Int)) = S.used + (ys.length : Int) := wr64 (by omega) (by omega)
      have KS1 := Kept.mk eq1
      clear eq0 eq1
      go_upto_region 6 with fail
      by_cases hfull : S.quota < S.used + (ys.length : Int)
      · have KE2 : Kept (apE S.ps p ys.length = 12) := ⟨by rw [KEr.out, if_neg hlong, if_pos hfull]⟩
        go_quiet (fail)
        obtain ⟨w3, hw3⟩ : ∃ w3, w2.drewN nq = w3 := ⟨_, rfl⟩
        rw [hw3]
        have hb3 : Below w2.heap.size w2 w3 := hw3 ▸ below_drewN (Below.refl _ _) nq
        have KD3 := Kept.mk (KD2.out.later hb3)
        have KF3 : Kept (Fx B w w3) := ⟨KF2.out.trans (Fx.ofBelow (S := fun _ => False) hb3 (Nat.le_refl _)) (fun _ _ h => h.elim)⟩
        clear hw3 hb3 q0 q1 k0
        go_wp2
        go_ret
        refine ⟨by rw [KE2.out]; rfl, bgS S, KD3.out.weak (fun i _ h => .inl h) (Nat.le_refl _), ?_, KF3.out, bgS_m S⟩
        rw [KP.out, KE2.out, if_neg (by decide)]
        exact bgS_ps S
      · have KE2 : Kept (apE S.ps p ys.length = 0) := ⟨by rw [KEr.out, if_neg hlong, if_neg hfull]⟩
        go_quiet (fail)
        obtain ⟨w3, hw3⟩ : ∃ w3, w2.drewN nq = w3 := ⟨_, rfl⟩
        rw [hw3]
        have hb3 : Below w2.heap.size w2 w3 := hw3 ▸ below_drewN (Below.refl _ _) nq
        have KD3 := Kept.mk (KD2.out.later hb3)
        have KF3 : Kept (Fx B w w3) := ⟨KF2.out.trans (Fx.ofBelow (S := fun _ => False) hb3 (Nat.le_refl _)) (fun _ _ h => h.elim)⟩
        have hfl3 := KD3.out.bd.fl f c KcF.out
        have KO3 : Kept (Own .u8 5 w3 0 (.slice av c.xs.length cv) c.xs) := ⟨by rw [← Kv.out]; exact hfl3.own⟩
        have k0' := hfl3.blk.cell 0 _ rfl
        rw [Kv.out] at k0'
        have f0 := hfl3.blk.frozen 0
        have KX3 := Kept.mk (KR.out.fx KF3.out)
        obtain ⟨i0, z0, hi, hz, hs, hb8, hcz⟩ := info8
        clear hw3 hb3 q0 q1 k0 hfl3
        go_upto_region 9 with (at_builtin; refine wpList_append_rd _ rfl _ _ 23 rfl .u8 (fun b => ¬ B b) 1 0 5 i0 z0 Tryz.underlying23 hi hz hs hb8 hcz (by omega) (.slice av c.xs.length cv) c.xs rfl KO3.out _ ys rfl KX3.out (by omega) (Nat.zero_le _) ?_; intro v3 w4 hown4 hgrow4 hat4; obtain ⟨a3, c3, rfl⟩ := own_form hown4; have hAp := KD3.out.appended KcF.out hown4 (by rw [Kv.out]; exact hgrow4) (by rw [Kv.out]; exact hat4) KA.out (by rw [List.length_append]; omega); have k4 := hAp.1.cell 0 _ rfl; have f4 := hAp.1.frozen 0; rw [Kv.out] at k4; have KD5 := Kept.mk hAp.2.1; have KF5 := Kept.mk hAp.2.2; have KO4 := Kept.mk hown4; clear hown4 hgrow4 hat4 hAp k0' f0; obtain ⟨w5, hw5⟩ : ∃ w5, w4.setCell ⟨f, 0, none⟩ (.slice a3 (c.xs.length + ys.length) c3) = w5 := ⟨_, rfl⟩; have hw5' : w4.setCell ⟨f, 0, none⟩ (.slice a3 (c.xs ++ ys).length c3) = w5 := (by rw [List.length_append]; exact hw5); rw [hw5'] at KD5 KF5; clear hw5')
        have q1a := KD5.out.used
        have f1 := KD5.out.blk.frozen 1
        have q1 : w5.cell? ⟨d, 1, none⟩ = some (.int .i64 S.used) := by rw [q1a, ← KS1.out]
        clear q1a
        have KD6 : Kept (Dk (w5.setCell ⟨d, 1, none⟩ (.int .i64 (S.used + (ys.length : Int)))) (Gr B w3) d { bgS S with F := upd (bgS S).F f (some ⟨.slice a3 (c.xs ++ ys).length c3, c.xs ++ ys, c.s⟩), used := S.used + (ys.length : Int) } n) := ⟨KD5.out.setCell 1 _ rfl (fun h => h.fields (bgS S).quota (S.used + (ys.length : Int)) (bgS S).last (bgS S).count (bgS S).dark)⟩
        have KF6 : Kept (Fx B w (w5.setCell ⟨d, 1, none⟩ (.int .i64 (S.used + (ys.length : Int))))) := ⟨(KF3.out.trans KF5.out (fun _ _ h => h)).trans (Fx.setCell w5 d 1 _) (fun i _ e => by subst e; exact KD.out.inB)⟩
        clear hw5 k4 f4 hi hz hs hb8 hcz
        obtain ⟨w6, hw6⟩ : ∃ w6, w5.setCell ⟨d, 1, none⟩ (.int .i64 (S.used + (ys.length : Int))) = w6 := ⟨_, rfl⟩
        rw [hw6] at KD6 KF6
        go_wp2
        go_ret
        refine ⟨by rw [KE2.out]; rfl, _, KD6.out.weak (B' := Gr B w) (fun i _ h => Or.elim h Or.inl (fun h => Or.inr (Nat.le_trans KF3.out.size h))) (Nat.le_refl _), ?_, KF6.out, bgS_m S⟩
        rw [KP.out, KE2.out, if_pos rfl, KFP.out]
        have e1 := ps_setF (bgS S) f ⟨.slice a3 (c.xs ++ ys).length c3, c.xs ++ ys, c.s⟩
        have e2 : (bgP S.ps).F = S.ps.F := by unfold bgP; split <;> rfl
        rw [bgS_ps, e2] at e1
        have e3 : St.ps { bgS S with F := upd (bgS S).F f (some ⟨.slice a3 (c.xs ++ ys).length c3, c.xs ++ ys, c.s⟩), used := S.used + (ys.length : Int) } = { St.ps { bgS S with F := upd (bgS S).F f (some ⟨.slice a3 (c.xs ++ ys).length c3, c.xs ++ ys, c.s⟩) } with used := S.used + (ys.length : Int) } := rfl
        rw [e3, e1]
  · have KE2 : Kept (apE S.ps p ys.length = E) := ⟨by rw [KE.out, if_neg h0]⟩
    have hb : (E == 0) = false := by simpa using h0
    go_wp2
    go_ret
    refine ⟨by rw [KE2.out]; rfl, bgS S, KD2.out.weak (fun i _ h => .inl h) (Nat.le_refl _), ?_, KF2.out, bgS_m S⟩
    rw [KP.out, KE2.out, if_neg h0]
    exact bgS_ps S

open Go.RowKit Go.WideMaps

def syP (s : Ps) (p : ByteArray) : Ps := if opEP s [p] p = 0 then (match fileP s p with | none => bgP s | some (f, xs, _) => { bgP s with F := upd s.F f (some (xs, xs.length)) }) else bgP s
theorem bgP_F (s : Ps) : (bgP s).F = s.F := by unfold bgP; split <;> rfl
theorem bgP_N (s : Ps) : (bgP s).N = s.N := by unfold bgP; split <;> rfl
theorem bgP_C (s : Ps) : (bgP s).C = s.C := by unfold bgP; split <;> rfl
theorem bgP_L (s : Ps) : (bgP s).L = s.L := by unfold bgP; split <;> rfl
theorem bgP_used (s : Ps) : (bgP s).used = s.used := by unfold bgP; split <;> rfl
/-- What open found. -/
theorem open_found {S : St} {p : ByteArray} {L : List ByteArray} (h : opE S L p = 0) : ∃ f, opF S L p = some f ∧ S.N p = some f := by
  unfold opE at h
  unfold opF
  split at h
  · rename_i h0
    rw [if_pos h0]
    cases hN : S.N p with
    | none => rw [hN] at h; exact absurd h (by decide)
    | some f => exact ⟨f, rfl, rfl⟩
  · rename_i h0
    exact absurd h h0
theorem fileP_some {S : St} {p : ByteArray} {f : Nat} {c : FileC} (hN : S.N p = some f) (hc : S.F f = some c) : fileP S.ps p = some (f, c.xs, c.s) := by
  unfold fileP
  show (S.N p).bind (fun f => ((S.F f).map fun c => (c.xs, c.s)).map fun c => (f, c.1, c.2)) = _
  rw [hN]
  show ((S.F f).map fun c => (c.xs, c.s)).map (fun c => (f, c.1, c.2)) = _
  rw [hc]
  rfl
set_option maxRecDepth 100000 in
set_option maxHeartbeats 2000000 in
theorem sync_any (p : ByteArray) {w : World} {B : Nat → Prop} {d n : Nat} {S : St} (h : Dk w B d S n) (hg : Gl w) (hc0 : 0 ≤ S.count) (hc1 : S.count < 1000000) (hgd : 3 ≤ d) :
    Calls Tryz.prog 19 #[.pointer (some ⟨d, 0, none⟩), .string p] w fun e w' => e = .returned (.int .i64 (opEP S.ps [p] p)) ∧ ∃ S', Dk w' (Gr B w) d S' n ∧ S'.ps = syP S.ps p ∧ Fx B w w' ∧ S'.m = S.m := by
  obtain ⟨w1, hw1⟩ : ∃ w1, w.alloc (.cells #[.string p] 9) = w1 := ⟨_, rfl⟩
  have hb1 : Below w.heap.size w w1 := by rw [← hw1]; exact (Below.refl _ _).alloc (Nat.le_refl _) _
  have hr1 : RdS w1 (.slice (some ⟨w.heap.size, 0, none⟩) 1 1) [p] := by rw [← hw1]; exact rdS_made w p
  have hdlt := h.blk.lt
  have KOp := Kept.mk (open_any _ p [] (h.later hb1) (hg.later hb1) hr1 (by simp) (fun b off k c e => by injection e with e; injection e with e; injection e with e; omega) hc0 hc1 hgd)
  have KD := Kept.mk h
  have KB1 := Kept.mk hb1
  have KE : Kept (opEP S.ps [p] p = opE S [p] p) := ⟨rfl⟩
  have KP : Kept (syP S.ps p = if opE S [p] p = 0 then (match fileP S.ps p with | none => bgP S.ps | some (f, xs, _) => { bgP S.ps with F := upd S.ps.F f (some (xs, xs.length)) }) else bgP S.ps) := ⟨rfl⟩
  have KOF : Kept (opE S [p] p = 0 → ∃ f, opF S [p] p = some f ∧ S.N p = some f) := ⟨open_found⟩
  obtain ⟨E, hE⟩ : ∃ E, opE S [p] p = E := ⟨_, rfl⟩
  obtain ⟨Fo, hFo⟩ : ∃ Fo, opF S [p] p = Fo := ⟨_, rfl⟩
  rw [hE, hFo] at KOp KOF
  rw [hE] at KE KP
  clear h hg hb1 hr1 hE hFo
  go_enter Tryz.func19, Tryz.ntmps19
  go_wp2_with fail
  refine Calls.mono KOp.out (fun x w2 hq => ?_)
  obtain ⟨rfl, hd2, hf2⟩ := hq
  have KD2 := Kept.mk hd2
  have KF2 : Kept (Fx B w w2) := ⟨(Fx.ofBelow (S := B) KB1.out (Nat.le_refl _)).trans hf2 (fun i _ e => by subst e; exact KD.out.inB)⟩
  clear hw1 hd2 hf2 KOp
  by_cases h0 : E = 0
  · subst h0
    obtain ⟨f, rfl, hN⟩ := KOF.out rfl
    obtain ⟨c, hc⟩ := KD.out.bd.nF p f hN
    have hcF : (bgS S).F f = some c := by rw [bgS_F]; exact hc
    have hfl := KD2.out.bd.fl f c hcF
    have KFP := Kept.mk (fileP_some hN hc)
    have KP2 : Kept (syP S.ps p = { bgP S.ps with F := upd S.ps.F f (some (c.xs, c.xs.length)) }) := ⟨by rw [KP.out, if_pos rfl, KFP.out]⟩
    have hset : Bk (w2.setCell ⟨f, 1, none⟩ (.int .i64 (c.xs.length : Nat))) f 73 [c.v, .int .i64 (c.xs.length : Nat)] := hfl.blk.set 1 _
    have hnf : ∀ g, c.v.ownBlock = some g → g ≠ f := fun g hg e => by
      subst e
      obtain ⟨cur, hcur⟩ := ownsRow_blk hfl.own hg
      exact type_ne hfl.blk hcur (by decide) rfl
    have KD3 := Kept.mk (KD2.out.setFile (w3 := w2.setCell ⟨f, 1, none⟩ (.int .i64 (c.xs.length : Nat))) (c' := ⟨c.v, c.xs, c.xs.length⟩) hcF (fun i _ h1 _ => Below.heap_setCell _ _ _ _ h1)
      ⟨hset, .inl hfl.inB, hfl.own.far (fun g hg => Below.heap_setCell _ _ _ _ (hnf g hg)), fun g hg => .inl (hfl.ownB g hg), hfl.all, Nat.le_refl _, hfl.big⟩ (.inl rfl))
    have KF3 : Kept (Fx B w (w2.setCell ⟨f, 1, none⟩ (.int .i64 (c.xs.length : Nat)))) := ⟨KF2.out.trans (Fx.setCell w2 f 1 _) (fun i _ e => by subst e; exact hfl.inB)⟩
    obtain ⟨av, cv, hv⟩ := own_form hfl.own
    have k0 := hfl.blk.cell 0 _ rfl
    have k1 := hfl.blk.cell 1 _ rfl
    have f1 := hfl.blk.frozen 1
    rw [hv] at k0
    have KS' : Kept (St.ps { bgS S with F := upd (bgS S).F f (some ⟨c.v, c.xs, c.xs.length⟩) } = syP S.ps p) := ⟨by rw [ps_setF, bgS_ps, KP2.out, bgP_F]⟩
    obtain ⟨w3, hw3⟩ : ∃ w3, w2.setCell ⟨f, 1, none⟩ (.int .i64 (c.xs.length : Nat)) = w3 := ⟨_, rfl⟩
    rw [hw3] at KD3 KF3
    clear hc hcF hN hfl hv hset hnf
    unfold ptrV
    go_wp2
    go_ret
    exact ⟨by rw [KE.out]; rfl, _, KD3.out.weak (B' := Gr B w) (fun i _ h => Or.elim h Or.inl (fun h => Or.inr (Nat.le_trans KF2.out.size h))) (Nat.le_refl _), KS'.out, KF3.out, bgS_m S⟩
  · have hb : (E == 0) = false := by simpa using h0
    have KP2 : Kept (syP S.ps p = bgP S.ps) := ⟨by rw [KP.out, if_neg h0]⟩
    go_wp2
    go_ret
    exact ⟨by rw [KE.out]; rfl, bgS S, KD2.out.weak (fun i _ h => .inl h) (Nat.le_refl _), by rw [KP2.out]; exact bgS_ps S, KF2.out, bgS_m S⟩

open Go.RowKit Go.WideMaps

def rmC (p : ByteArray) : Chg := ⟨p, none⟩
def rmP (s : Ps) (p : ByteArray) : Ps := if opEP s [p] p = 0 then (match fileP s p with | none => bgP s | some (_, xs, _) => noteP { bgP s with used := s.used - xs.length } p (rmC p)) else bgP s
set_option maxRecDepth 100000 in
set_option maxHeartbeats 2000000 in
theorem remove_any (p : ByteArray) {w : World} {B : Nat → Prop} {d n : Nat} {S : St} (h : Dk w B d S n) (hg : Gl w) (hc0 : 0 ≤ S.count) (hc1 : S.count < 1000000) (hgd : 3 ≤ d) (hn : n < 900000) (hm : S.m < 1000) (hu0 : -4398046511104 ≤ S.used) (hu1 : S.used ≤ 4398046511104) :
    Calls Tryz.prog 21 #[.pointer (some ⟨d, 0, none⟩), .string p] w fun e w' => e = .returned (.int .i64 (opEP S.ps [p] p)) ∧ ∃ S', Dk w' (Gr B w) d S' (n + 2) ∧ S'.ps = rmP S.ps p ∧ Fx B w w' ∧ S'.m ≤ S.m + 1 := by
  obtain ⟨w1, hw1⟩ : ∃ w1, w.alloc (.cells #[.string p] 9) = w1 := ⟨_, rfl⟩
  have hb1 : Below w.heap.size w w1 := by rw [← hw1]; exact (Below.refl _ _).alloc (Nat.le_refl _) _
  have hr1 : RdS w1 (.slice (some ⟨w.heap.size, 0, none⟩) 1 1) [p] := by rw [← hw1]; exact rdS_made w p
  have hdlt := h.blk.lt
  have KOp := Kept.mk (open_any _ p [] (h.later hb1) (hg.later hb1) hr1 (by simp) (fun b off k c e => by injection e with e; injection e with e; injection e with e; omega) hc0 hc1 hgd)
  have KD := Kept.mk h
  have KB1 := Kept.mk hb1
  have KE : Kept (opEP S.ps [p] p = opE S [p] p) := ⟨rfl⟩
  have KP : Kept (rmP S.ps p = if opE S [p] p = 0 then (match fileP S.ps p with | none => bgP S.ps | some (_, xs, _) => noteP { bgP S.ps with used := S.used - xs.length } p (rmC p)) else bgP S.ps) := ⟨rfl⟩
  have KOF : Kept (opE S [p] p = 0 → ∃ f, opF S [p] p = some f ∧ S.N p = some f) := ⟨open_found⟩
  have KOs : Kept (opE S [p] p = 0 → p.size ≤ 200) := ⟨fun h => by
    unfold opE at h
    split at h
    · rename_i h0; exact oneF_size (bg_ok h0) p (by simp)
    · rename_i h0; exact absurd h h0⟩
  obtain ⟨E, hE⟩ : ∃ E, opE S [p] p = E := ⟨_, rfl⟩
  obtain ⟨Fo, hFo⟩ : ∃ Fo, opF S [p] p = Fo := ⟨_, rfl⟩
  rw [hE, hFo] at KOp KOF
  rw [hE] at KE KP KOs
  clear h hg hb1 hr1 hE hFo
  go_enter Tryz.func21, Tryz.ntmps21
  go_wp2_with fail
  refine Calls.mono KOp.out (fun x w2 hq => ?_)
  obtain ⟨rfl, hd2, hf2⟩ := hq
  have KD2 := Kept.mk hd2
  have KF2 : Kept (Fx B w w2) := ⟨(Fx.ofBelow (S := B) KB1.out (Nat.le_refl _)).trans hf2 (fun i _ e => by subst e; exact KD.out.inB)⟩
  clear hw1 hd2 hf2 KOp
  by_cases h0 : E = 0
  · subst h0
    obtain ⟨f, rfl, hN⟩ := KOF.out rfl
    obtain ⟨c, hc⟩ := KD.out.bd.nF p f hN
    have hcF : (bgS S).F f = some c := by rw [bgS_F]; exact hc
    have hfl := KD2.out.bd.fl f c hcF
    have KFP := Kept.mk (fileP_some hN hc)
    have KP2 : Kept (rmP S.ps p = noteP { bgP S.ps with used := S.used - c.xs.length } p (rmC p)) := ⟨by rw [KP.out, if_pos rfl, KFP.out]⟩
    obtain ⟨av, cv, hv⟩ := own_form hfl.own
    have hbig := hfl.big
    have eu : (bgS S).used = S.used := by unfold bgS; split <;> rfl
    have Kps := Kept.mk (KOs.out rfl)
    have hl : IntKind.i64.wrap (S.used - (c.xs.length : Int)) = S.used - (c.xs.length : Int) := wr64 (by omega) (by omega)
    have KFl := Kept.mk hfl
    have KV := Kept.mk hv
    have KU := Kept.mk eu
    clear hc hcF hN hfl hv eu
    unfold ptrV
    go_upto_region 4 with fail
    refine wp_region_last _ 12 (by kernel_rfl) (by kernel_rfl) rfl rfl ?_
    simp only [List.take_succ_cons, List.take_zero]
    have k0 := KFl.out.blk.cell 0 _ rfl
    rw [KV.out] at k0
    have q1 := KD2.out.used
    rw [KU.out] at q1
    repeat (go_big_quiet_step ((intro _; rfl)))
    refine wpQuiet_nil ?_
    intro k
    obtain ⟨w3, hw3⟩ : ∃ w3, w2.drewN k = w3 := ⟨_, rfl⟩
    rw [hw3]
    have hb3 : Below w2.heap.size w2 w3 := hw3 ▸ below_drewN (Below.refl _ _) k
    have KD3 := Kept.mk (KD2.out.later hb3)
    have KF3 : Kept (Fx B w w3) := ⟨KF2.out.trans (Fx.ofBelow (S := fun _ => False) hb3 (Nat.le_refl _)) (fun _ _ h => h.elim)⟩
    clear hw3 hb3 k0 q1
    have q1 := KD3.out.used
    rw [KU.out] at q1
    have f1 := KD3.out.blk.frozen 1
    have KD4 : Kept (Dk (w3.setCell ⟨d, 1, none⟩ (.int .i64 (S.used - (c.xs.length : Int)))) B d { bgS S with used := S.used - (c.xs.length : Int) } n) := ⟨KD3.out.setCell 1 _ rfl (fun h => h.fields (bgS S).quota (S.used - (c.xs.length : Int)) (bgS S).last (bgS S).count (bgS S).dark)⟩
    have KF4 : Kept (Fx B w (w3.setCell ⟨d, 1, none⟩ (.int .i64 (S.used - (c.xs.length : Int))))) := ⟨KF3.out.trans (Fx.setCell w3 d 1 _) (fun i _ e => by subst e; exact KD.out.inB)⟩
    obtain ⟨w4, hw4⟩ : ∃ w4, w3.setCell ⟨d, 1, none⟩ (.int .i64 (S.used - (c.xs.length : Int))) = w4 := ⟨_, rfl⟩
    rw [hw4] at KD4 KF4
    go_simp
    clear q1 f1
    have KCl := Kept.mk (sclone_any p w4 (by have := Kps.out; omega))
    go_wp2_with fail
    refine Calls.mono KCl.out (fun x w5 hq => ?_)
    obtain ⟨rfl, hb5⟩ := hq
    have KD5 := Kept.mk (KD4.out.later hb5)
    have KF5 : Kept (Fx B w w5) := ⟨KF4.out.trans (Fx.ofBelow (S := fun _ => False) hb5 (Nat.le_refl _)) (fun _ _ h => h.elim)⟩
    have KNo := Kept.mk (note_any p (rmC p) KD5.out Kps.out ⟨Kps.out, fun _ _ h => nomatch h⟩ (fun _ h => nomatch h) hn (by show (bgS S).m < 1000; rw [bgS_m]; exact hm))
    have KNo : Kept (Calls Tryz.prog 38 #[.pointer (some ⟨d, 0, none⟩), .string p, .agg #[.string p, .string ⟨#[]⟩, .pointer none]] w5 _) := KNo
    clear hb5 KCl hw4
    go_wp2_with fail
    refine Calls.mono KNo.out (fun x w6 hq => ?_)
    obtain ⟨rfl, S6, hd6, hps6, -, hf6, hm6⟩ := hq
    have KM6 : Kept (S6.m ≤ S.m + 1) := ⟨by rw [hm6]; show (bgS S).m + 1 ≤ S.m + 1; rw [bgS_m]; omega⟩
    have KD6 := Kept.mk hd6
    have KP6 := Kept.mk hps6
    have KF6 : Kept (Fx B w w6) := ⟨KF5.out.trans hf6 (fun i _ h => h)⟩
    clear hd6 hps6 hf6 hm6 KNo
    go_wp2
    go_ret
    refine ⟨by rw [KE.out]; rfl, S6, KD6.out.weak (fun i _ h => Or.elim h Or.inl (fun h => Or.inr (Nat.le_trans KF5.out.size h))) (Nat.le_refl _), ?_, KF6.out, KM6.out⟩
    rw [KP6.out, KP2.out]
    have e3 : St.ps { bgS S with used := S.used - (c.xs.length : Int) } = { St.ps (bgS S) with used := S.used - (c.xs.length : Int) } := rfl
    rw [e3, bgS_ps]
  · have hb : (E == 0) = false := by simpa using h0
    have KP2 : Kept (rmP S.ps p = bgP S.ps) := ⟨by rw [KP.out, if_neg h0]⟩
    go_wp2
    go_ret
    exact ⟨by rw [KE.out]; rfl, bgS S, KD2.out.weak (fun i _ h => .inl h) (by omega), by rw [KP2.out]; exact bgS_ps S, KF2.out, by rw [bgS_m]; omega⟩

open Go.RowKit Go.WideMaps

def rnC (p q : ByteArray) (f : Nat) : Chg := ⟨p, some (q, f)⟩
def lenAt (s : Ps) (q : ByteArray) : Int := match fileP s q with | none => 0 | some (_, xs, _) => (xs.length : Int)
def rnP (s : Ps) (p q : ByteArray) : Ps := if opEP s [p, q] p = 0 ∧ p ≠ q then (match s.N p with | none => bgP s | some f => noteP { bgP s with used := s.used - lenAt s q } p (rnC p q f)) else bgP s
theorem rdS_made2 (w : World) (p q : ByteArray) : RdS (w.alloc (.cells #[.string p, .string q] 9)) (.slice (some ⟨w.heap.size, 0, none⟩) 2 2) [p, q] :=
  ⟨some ⟨w.heap.size, 0, none⟩, 2, rfl, Nat.le_refl _, fun _ => ⟨w.heap.size, 0, rfl, by simp, (Bk.new w 9 [.string p, .string q]).range⟩⟩
theorem str_of_list {p q : ByteArray} (h : (p.toList == q.toList) = true) : p = q := by
  have h1 : p.toList = q.toList := by simpa using h
  rw [Lib.toList_data, Lib.toList_data] at h1
  apply ByteArray.ext
  exact Array.ext' h1
theorem str_ne_list {p q : ByteArray} (h : p ≠ q) : (p.toList == q.toList) = false := by
  cases hx : (p.toList == q.toList) with
  | false => rfl
  | true => exact absurd (str_of_list hx) h
set_option maxRecDepth 100000 in
set_option maxHeartbeats 4000000 in
theorem rename_any (p q : ByteArray) {w : World} {B : Nat → Prop} {d n : Nat} {S : St} (h : Dk w B d S n) (hg : Gl w) (hc0 : 0 ≤ S.count) (hc1 : S.count < 1000000) (hgd : 3 ≤ d) (hn : n < 900000) (hm : S.m < 1000) (hu0 : -4398046511104 ≤ S.used) (hu1 : S.used ≤ 4398046511104) :
    Calls Tryz.prog 20 #[.pointer (some ⟨d, 0, none⟩), .string p, .string q] w fun e w' => e = .returned (.int .i64 (opEP S.ps [p, q] p)) ∧ ∃ S', Dk w' (Gr B w) d S' (n + 2) ∧ S'.ps = rnP S.ps p q ∧ Fx B w w' ∧ S'.m ≤ S.m + 1 := by
  obtain ⟨w1, hw1⟩ : ∃ w1, w.alloc (.cells #[.string p, .string q] 9) = w1 := ⟨_, rfl⟩
  have hb1 : Below w.heap.size w w1 := by rw [← hw1]; exact (Below.refl _ _).alloc (Nat.le_refl _) _
  have hr1 : RdS w1 (.slice (some ⟨w.heap.size, 0, none⟩) 2 2) [p, q] := by rw [← hw1]; exact rdS_made2 w p q
  have hdlt := h.blk.lt
  have KOp := Kept.mk (open_any _ p [q] (h.later hb1) (hg.later hb1) hr1 (by simp) (fun b off k c e => by injection e with e; injection e with e; injection e with e; omega) hc0 hc1 hgd)
  have KD := Kept.mk h
  have KB1 := Kept.mk hb1
  have KE : Kept (opEP S.ps [p, q] p = opE S [p, q] p) := ⟨rfl⟩
  have KP : Kept (rnP S.ps p q = if opE S [p, q] p = 0 ∧ p ≠ q then (match S.N p with | none => bgP S.ps | some f => noteP { bgP S.ps with used := S.used - lenAt S.ps q } p (rnC p q f)) else bgP S.ps) := ⟨rfl⟩
  have KOF : Kept (opE S [p, q] p = 0 → ∃ f, opF S [p, q] p = some f ∧ S.N p = some f) := ⟨open_found⟩
  have KOs : Kept (opE S [p, q] p = 0 → p.size ≤ 200 ∧ q.size ≤ 200 ∧ 1 ≤ q.size) := ⟨fun h => by
    unfold opE at h
    split at h
    · rename_i h0; exact ⟨oneF_size (bg_ok h0) p (by simp), oneF_size (bg_ok h0) q (by simp), oneF_pos (bg_ok h0) q (by simp)⟩
    · rename_i h0; exact absurd h h0⟩
  obtain ⟨E, hE⟩ : ∃ E, opE S [p, q] p = E := ⟨_, rfl⟩
  obtain ⟨Fo, hFo⟩ : ∃ Fo, opF S [p, q] p = Fo := ⟨_, rfl⟩
  rw [hE, hFo] at KOp KOF
  rw [hE] at KE KP KOs
  clear h hg hb1 hr1 hE hFo
  go_enter Tryz.func20, Tryz.ntmps20
  go_wp2_with fail
  refine Calls.mono KOp.out (fun x w2 hq => ?_)
  obtain ⟨rfl, hd2, hf2⟩ := hq
  have KD2 := Kept.mk hd2
  have KF2 : Kept (Fx B w w2) := ⟨(Fx.ofBelow (S := B) KB1.out (Nat.le_refl _)).trans hf2 (fun i _ e => by subst e; exact KD.out.inB)⟩
  clear hw1 hd2 hf2 KOp
  by_cases h0 : E = 0
  · subst h0
    by_cases hpq : p = q
    · have KP2 : Kept (rnP S.ps p q = bgP S.ps) := ⟨by rw [KP.out, if_neg (fun h => h.2 hpq)]⟩
      have hb : (p.toList == q.toList) = true := by rw [hpq]; simp
      clear hpq
      go_wp2
      go_ret
      exact ⟨by rw [KE.out]; rfl, bgS S, KD2.out.weak (fun i _ h => .inl h) (by omega), by rw [KP2.out]; exact bgS_ps S, KF2.out, by rw [bgS_m]; omega⟩
    · have hb := str_ne_list hpq
      obtain ⟨f, rfl, hN⟩ := KOF.out rfl
      obtain ⟨c, hc⟩ := KD.out.bd.nF p f hN
      have Khc := Kept.mk hc
      have KP2 : Kept (rnP S.ps p q = noteP { bgP S.ps with used := S.used - lenAt S.ps q } p (rnC p q f)) := ⟨by rw [KP.out, if_pos ⟨rfl, hpq⟩, hN]⟩
      obtain ⟨hps, hqs, hqp⟩ := KOs.out rfl
      have hlk := KD2.out.bd.mN.look Tryz.underlying53 (zero_ptr w2) (s := q) (by unfold maxLen; omega)
      rw [bgS_N, nmV_get, bgS_bn] at hlk
      have g2 := KD2.out.names
      rw [bgS_bn] at g2
      have Ks := Kept.mk (And.intro hps (And.intro hqs hqp))
      have eu : (bgS S).used = S.used := by unfold bgS; split <;> rfl
      have KU := Kept.mk eu
      have KTail : Kept (∀ W (u : Int), Dk W B d { bgS S with used := u } n → Fx B w W → S.used - lenAt S.ps q = u → Calls Tryz.prog 38 #[.pointer (some ⟨d, 0, none⟩), .string p, .agg #[.string p, .string q, .pointer (some ⟨f, 0, none⟩)]] W fun e w' => e = .returned (.tuple #[]) ∧ ∃ S', Dk w' (Gr B w) d S' (n + 2) ∧ S'.ps = rnP S.ps p q ∧ Fx B w w' ∧ S'.m ≤ S.m + 1) := ⟨fun W u hW hF hu => by
        have hx : ∃ e, (bgS S).F f = some e := ⟨c, by rw [bgS_F]; exact Khc.out⟩
        refine Calls.mono (note_any p (rnC p q f) hW Ks.out.1 ⟨Ks.out.1, fun a b e => by injection e with e; injection e with e1 e2; subst e1; exact ⟨Ks.out.2.2, Ks.out.2.1⟩⟩ (fun g e => by injection e with e; subst e; exact hx) hn (by show (bgS S).m < 1000; rw [bgS_m]; exact hm)) (fun e w' hq => ?_)
        obtain ⟨h1, S', h2, h3, -, h5, h6⟩ := hq
        refine ⟨h1, S', h2.weak (fun i _ h => Or.elim h Or.inl (fun h => Or.inr (Nat.le_trans hF.size h))) (Nat.le_refl _), ?_, hF.trans h5 (fun _ _ h => h), by rw [h6]; show (bgS S).m + 1 ≤ S.m + 1; rw [bgS_m]; omega⟩
        rw [h3, KP2.out, hu]
        have e3 : St.ps { bgS S with used := u } = { St.ps (bgS S) with used := u } := rfl
        rw [e3, bgS_ps]⟩
      clear hpq hN hc hps hqs hqp eu
      cases hNq : S.N q with
      | none =>
        rw [hNq] at hlk
        have Kl : Kept (S.used - lenAt S.ps q = S.used) := ⟨by
          unfold lenAt fileP
          show S.used - (match ((S.N q).bind fun f => _ : Option (Nat × List Int × Nat)) with | none => 0 | some (_, xs, _) => (xs.length : Int)) = _
          rw [hNq]
          simp⟩
        have KDu : Kept (Dk w2 B d { bgS S with used := S.used } n) := ⟨by have := KD2.out; rw [← KU.out]; exact this⟩
        clear hNq
        unfold ptrV at hlk ⊢
        have KCl := Kept.mk (sclone_any p w2 (by have := Ks.out.1; omega))
        go_wp2_with fail
        refine Calls.mono KCl.out (fun x w5 hq => ?_)
        obtain ⟨rfl, hb5⟩ := hq
        have KD5 := Kept.mk (KDu.out.later hb5)
        have KF5 : Kept (Fx B w w5) := ⟨KF2.out.trans (Fx.ofBelow (S := fun _ => False) hb5 (Nat.le_refl _)) (fun _ _ h => h.elim)⟩
        have KCl2 := Kept.mk (sclone_any q w5 (by have := Ks.out.2.1; omega))
        clear hb5 KCl
        go_wp2_with fail
        refine Calls.mono KCl2.out (fun x w6 hq => ?_)
        obtain ⟨rfl, hb6⟩ := hq
        have KD6 := Kept.mk (KD5.out.later hb6)
        have KF6 : Kept (Fx B w w6) := ⟨KF5.out.trans (Fx.ofBelow (S := fun _ => False) hb6 (Nat.le_refl _)) (fun _ _ h => h.elim)⟩
        have KNo := Kept.mk (KTail.out w6 _ KD6.out KF6.out Kl.out)
        clear hb6 KCl2 KTail
        go_wp2_with fail
        refine Calls.mono KNo.out (fun x w7 hq => ?_)
        obtain ⟨rfl, hres⟩ := hq
        have KRes := Kept.mk hres
        clear hres KNo
        go_wp2
        go_ret
        exact ⟨by rw [KE.out]; rfl, KRes.out⟩
      | some fq =>
        rw [hNq] at hlk
        obtain ⟨cq, hcq⟩ := KD.out.bd.nF q fq hNq
        have hfl := KD2.out.bd.fl fq cq (by rw [bgS_F]; exact hcq)
        have KFP := Kept.mk (fileP_some hNq hcq)
        have Kl : Kept (S.used - lenAt S.ps q = S.used - (cq.xs.length : Int)) := ⟨by unfold lenAt; rw [KFP.out]⟩
        obtain ⟨av, cv, hv⟩ := own_form hfl.own
        have hbig := hfl.big
        have hl : IntKind.i64.wrap (S.used - (cq.xs.length : Int)) = S.used - (cq.xs.length : Int) := wr64 (by omega) (by omega)
        have KFl := Kept.mk hfl
        have KV := Kept.mk hv
        clear hNq hcq hfl hv
        unfold ptrV at hlk ⊢
        go_upto_region 6 with fail
        clear g2
        refine wp_region_last _ 12 (by kernel_rfl) (by kernel_rfl) rfl rfl ?_
        simp only [List.take_succ_cons, List.take_zero]
        have k0 := KFl.out.blk.cell 0 _ rfl
        rw [KV.out] at k0
        have q1 := KD2.out.used
        rw [KU.out] at q1
        repeat (go_big_quiet_step ((intro _; rfl)))
        refine wpQuiet_nil ?_
        intro k
        obtain ⟨w3, hw3⟩ : ∃ w3, w2.drewN k = w3 := ⟨_, rfl⟩
        rw [hw3]
        have hb3 : Below w2.heap.size w2 w3 := hw3 ▸ below_drewN (Below.refl _ _) k
        have KD3 := Kept.mk (KD2.out.later hb3)
        have KF3 : Kept (Fx B w w3) := ⟨KF2.out.trans (Fx.ofBelow (S := fun _ => False) hb3 (Nat.le_refl _)) (fun _ _ h => h.elim)⟩
        clear hw3 hb3 k0 q1
        have q1 := KD3.out.used
        rw [KU.out] at q1
        have f1 := KD3.out.blk.frozen 1
        have KD4 : Kept (Dk (w3.setCell ⟨d, 1, none⟩ (.int .i64 (S.used - (cq.xs.length : Int)))) B d { bgS S with used := S.used - (cq.xs.length : Int) } n) := ⟨KD3.out.setCell 1 _ rfl (fun h => h.fields (bgS S).quota (S.used - (cq.xs.length : Int)) (bgS S).last (bgS S).count (bgS S).dark)⟩
        have KF4 : Kept (Fx B w (w3.setCell ⟨d, 1, none⟩ (.int .i64 (S.used - (cq.xs.length : Int))))) := ⟨KF3.out.trans (Fx.setCell w3 d 1 _) (fun i _ e => by subst e; exact KD.out.inB)⟩
        obtain ⟨w4, hw4⟩ : ∃ w4, w3.setCell ⟨d, 1, none⟩ (.int .i64 (S.used - (cq.xs.length : Int))) = w4 := ⟨_, rfl⟩
        rw [hw4] at KD4 KF4
        go_simp
        clear q1 f1
        have KCl := Kept.mk (sclone_any p w4 (by have := Ks.out.1; omega))
        go_wp2_with fail
        refine Calls.mono KCl.out (fun x w5 hq => ?_)
        obtain ⟨rfl, hb5⟩ := hq
        have KD5 := Kept.mk (KD4.out.later hb5)
        have KF5 : Kept (Fx B w w5) := ⟨KF4.out.trans (Fx.ofBelow (S := fun _ => False) hb5 (Nat.le_refl _)) (fun _ _ h => h.elim)⟩
        have KCl2 := Kept.mk (sclone_any q w5 (by have := Ks.out.2.1; omega))
        clear hb5 KCl
        go_wp2_with fail
        refine Calls.mono KCl2.out (fun x w6 hq => ?_)
        obtain ⟨rfl, hb6⟩ := hq
        have KD6 := Kept.mk (KD5.out.later hb6)
        have KF6 : Kept (Fx B w w6) := ⟨KF5.out.trans (Fx.ofBelow (S := fun _ => False) hb6 (Nat.le_refl _)) (fun _ _ h => h.elim)⟩
        have KNo := Kept.mk (KTail.out w6 _ KD6.out KF6.out Kl.out)
        clear hb6 KCl2 KTail
        go_wp2_with fail
        refine Calls.mono KNo.out (fun x w7 hq => ?_)
        obtain ⟨rfl, hres⟩ := hq
        have KRes := Kept.mk hres
        clear hres KNo
        go_wp2
        go_ret
        exact ⟨by rw [KE.out]; rfl, KRes.out⟩
  · have hb : (E == 0) = false := by simpa using h0
    have KP2 : Kept (rnP S.ps p q = bgP S.ps) := ⟨by rw [KP.out, if_neg (fun h => h0 h.1)]⟩
    go_wp2
    go_ret
    exact ⟨by rw [KE.out]; rfl, bgS S, KD2.out.weak (fun i _ h => .inl h) (by omega), by rw [KP2.out]; exact bgS_ps S, KF2.out, by rw [bgS_m]; omega⟩

open Go.RowKit Go.WideMaps

theorem bgS_C (S : St) : (bgS S).C = S.C := by unfold bgS; split <;> rfl
theorem bgS_L (S : St) : (bgS S).L = S.L := by unfold bgS; split <;> rfl
def sdP (s : Ps) (p : ByteArray) : Ps := if bgEP s false [] = 0 then { bgP s with L := (s.C p).foldl apl s.L, C := upd s.C p [] } else bgP s
/-- A change of a row, cell by cell. -/
theorem row_cells {w : World} {g cap : Nat} {l : List Chg} (h : w.ownsRow 0 90 3 (.slice (some ⟨g, 0, none⟩) l.length cap) l.length (l.flatMap Chg.cs)) {k : Nat} (hk : k < l.length) {j : Nat} (hj : j < 3) : w.cell? ⟨g, k * 3 + j, none⟩ = (l[k]'hk).cs[j]? := by
  have hflat : (l.flatMap Chg.cs)[k * 3 + j]? = (l[k]'hk).cs[j]? := by
    clear h
    induction l generalizing k with
    | nil => simp at hk
    | cons c l ih =>
      rw [List.flatMap_cons]
      cases k with
      | zero =>
        rw [Nat.zero_mul, Nat.zero_add, List.getElem?_append_left (by show j < 3; exact hj)]
        rfl
      | succ k =>
        have hl : c.cs.length = 3 := rfl
        rw [List.getElem?_append_right (by rw [hl]; omega), hl, show (k + 1) * 3 + j - 3 = k * 3 + j by omega, ih (k := k) (by simpa using hk)]
        rfl
  have hlt : j < (l[k]'hk).cs.length := hj
  have := World.ownsRow.cells h (g := g) rfl (k * 3 + j) ((l[k]'hk).cs[j]'hlt) (by rw [hflat]; exact List.getElem?_eq_getElem hlt)
  rw [add_plain, Nat.zero_add] at this
  rw [this, List.getElem?_eq_getElem hlt]
theorem Bd.delC {w w' : World} {B : Nat → Prop} {S : St} {n : Nat} (h : Bd w B S n) {p : ByteArray} (hM : MapAt w' S.bp n (upd (rwV S.C) p none)) (hF : Fx (fun i => S.bp = some i) w w') : Bd w' B { S with C := upd S.C p none } n := by
  have hall : (∀ f c, S.F f = some c → FileAt w' B f c) ∧ (∀ q v l, S.C q = some (v, l) → RowC w' B v l ∧ l.length ≤ S.m) ∧ MapAt w' S.bn n (nmV S.N) ∧ MapAt w' S.bl n (nmV S.L) ∧ RefAt w' S.rb n S.R := by
    cases hb : S.bp with
    | some b =>
      have hF1 : Fx (fun i => i = b) w w' := hF.weak (fun i _ e => by rw [hb] at e; injection e with e; exact e.symm)
      have hk := h.kept (h.mC.at hb).isMap hF1.one
      have s := h.sp b
      exact ⟨hk.1, hk.2, h.mN.past (fun e => (s.1 e).2.1 hb) (fun x e => h.bB x (.inl e)) hF1.one (Nat.le_refl _), h.mL.past (fun e => (s.2.1 e).1 hb) (fun x e => h.bB x (.inr (.inl e))) hF1.one (Nat.le_refl _), h.mR.past (s.2.2 hb) (fun x e => h.bB x (.inr (.inr (.inr e)))) hF1.one (Nat.le_refl _)⟩
    | none =>
      have h1 : Bd w' B S n := h.far (fun i hi _ => .inl (hF.block i hi (fun e => by rw [hb] at e; cases e))) (fun _ _ h => h) (Nat.le_refl _)
      exact ⟨h1.fl, h1.rw, h1.mN, h1.mL, h1.mR⟩
  have hC : ∀ q x, upd S.C p none q = some x → q ≠ p ∧ S.C q = some x := fun q x hq => by
    by_cases e : q = p
    · subst e; rw [upd_same] at hq; cases hq
    · rw [upd_other _ _ e] at hq; exact ⟨e, hq⟩
  exact {
    mN := hall.2.2.1, mL := hall.2.2.2.1, mR := hall.2.2.2.2, bB := h.bB, sp := h.sp, nl := h.nl, fl := hall.1, fA := h.fA, nF := h.nF, lF := h.lF
    mC := by
      show MapAt w' S.bp n (rwV (upd S.C p none))
      have e : upd (rwV S.C) p none = rwV (upd S.C p none) := rwV_upd S.C p none
      rw [← e]
      exact hM
    cF := fun q v l x f hq hx hf => h.cF q v l x f (hC q _ hq).2 hx hf
    rw := fun q v l hq => hall.2.1 q v l (hC q _ hq).2
    rA := fun q q' u u' m m' r hne hq hq' hr => h.rA q q' u u' m m' r hne (hC q _ hq).2 (hC q' _ hq').2 hr
    kz := fun q hq => by
      rcases hq with h' | h' | h'
      · exact h.kz q (.inl h')
      · exact h.kz q (.inr (.inl h'))
      · refine h.kz q (.inr (.inr (fun e => h' ?_)))
        show upd S.C p none q = none
        unfold upd
        split
        · rfl
        · exact e }
theorem Dk.delC {w w' : World} {B : Nat → Prop} {d n : Nat} {S : St} (h : Dk w B d S n) {p : ByteArray} (hM : MapAt w' S.bp n (upd (rwV S.C) p none)) (hF : Fx (fun i => S.bp = some i) w w') : Dk w' B d { S with C := upd S.C p none } n :=
  ⟨h.blk.far (hF.block d h.blk.lt (fun e => by
    have hm := h.bd.mC.at e
    exact hm.notBk h.blk)), h.inB, h.bd.delC hM hF⟩
theorem ps_delC (S : St) (p : ByteArray) : St.ps { S with C := upd S.C p none } = { S.ps with C := upd S.ps.C p [] } := by
  have e : (fun q => ((upd S.C p none q).map Prod.snd).getD []) = upd (fun q => ((S.C q).map Prod.snd).getD []) p [] := by
    funext q
    by_cases h : q = p
    · subst h; simp [upd_same]
    · simp [upd_other _ _ h]
  unfold St.ps
  simp only [e]
set_option maxRecDepth 100000 in
set_option maxHeartbeats 4000000 in
theorem syncDir_any (p : ByteArray) {w : World} {B : Nat → Prop} {d n : Nat} {S : St} (h : Dk w B d S n) (hg : Gl w) (hc0 : 0 ≤ S.count) (hc1 : S.count < 1000000) (hgd : 3 ≤ d) (hn : n < 900000) (hm : S.m < 1000) (hps : p.size ≤ maxLen) :
    Calls Tryz.prog 22 #[.pointer (some ⟨d, 0, none⟩), .string p] w fun e w' => e = .returned (.int .i64 (bgEP S.ps false [])) ∧ ∃ S', Dk w' (Gr B w) d S' (n + S.m) ∧ S'.ps = sdP S.ps p ∧ Fx B w w' ∧ S'.m = S.m := by
  have KBg := Kept.mk (begin_any false (.slice none 0 0) [] h hg ⟨none, 0, rfl, Nat.le_refl _, fun h => by simp at h⟩ (by simp) (fun b off k c e => by injection e with e; cases e) hc0 hc1 hgd)
  have KD := Kept.mk h
  have KE : Kept (bgEP S.ps false [] = bgE S false []) := ⟨rfl⟩
  have KP : Kept (sdP S.ps p = if bgE S false [] = 0 then { bgP S.ps with L := (rowL S p).foldl apl S.L, C := upd S.ps.C p [] } else bgP S.ps) := ⟨rfl⟩
  obtain ⟨E, hE⟩ : ∃ E, bgE S false [] = E := ⟨_, rfl⟩
  rw [hE] at KBg KE KP
  clear h hg hE
  go_enter Tryz.func22, Tryz.ntmps22
  go_wp2_with fail
  refine Calls.mono KBg.out (fun x w2 hq => ?_)
  obtain ⟨rfl, hd2, hf2⟩ := hq
  have KD2 := Kept.mk hd2
  have KF2 : Kept (Fx B w w2) := ⟨hf2.weak (fun i _ e => by subst e; exact KD.out.inB)⟩
  clear hd2 hf2 KBg
  by_cases h0 : E = 0
  · subst h0
    have hlk0 := KD2.out.bd.mC.look Tryz.underlying54 (zero_row w2) (s := p) hps
    have q4 := KD2.out.pending
    have hrow := KD2.out.bd.rowAt p
    have hlk : (Instr.lookup 54 (.map (bgS S).bp) (.string p) false).run Tryz.prog w2 = .ok (rowV (bgS S) p) w2 := hlk0
    clear hlk0
    have KLr : Kept (rowL (bgS S) p = rowL S p) := ⟨by unfold rowL; rw [bgS_C]⟩
    obtain ⟨l, hl⟩ : ∃ l, rowL (bgS S) p = l := ⟨_, rfl⟩
    obtain ⟨a, cp, hv⟩ : ∃ a c, rowV (bgS S) p = .slice a l.length c := by
      rcases hrow.1.2 with ⟨h1, h2⟩ | ⟨g, cap, cur, h1, -⟩
      · exact ⟨none, 0, by rw [h1, ← hl, h2]⟩
      · exact ⟨_, _, by rw [h1, hl]⟩
    rw [hv] at hlk
    have Kl := Kept.mk hl
    have Kv := Kept.mk hv
    have Klm : Kept (l.length ≤ S.m) := ⟨by have := hrow.2.1; rw [hl, bgS_m] at this; exact this⟩
    have KH := Kept.mk hrow
    have KP2 : Kept (sdP S.ps p = { bgP S.ps with L := l.foldl apl S.L, C := upd S.ps.C p [] }) := ⟨by rw [KP.out, if_pos rfl, ← hl, KLr.out]⟩
    clear hrow hl hv
    have KD3 : Kept (Dk w2 (Gr B w) d { bgS S with L := (l.take 0).foldl apl (bgS S).L } (n + 0)) := ⟨KD2.out.weak (fun i _ h => .inl h) (Nat.le_refl _)⟩
    have hli : (l.length : Int) ≤ 1000 := by have := Klm.out; omega
    go_wp2
    go_loopw [7, 20] (fun _ kv wr => ∃ k : Nat, k ≤ l.length ∧ kv = .int .i64 k ∧ Dk wr (Gr B w) d { bgS S with L := (l.take k).foldl apl (bgS S).L } (n + k) ∧ Fx B w wr) (fun _ kv _ => l.length - (intOf kv).toNat)
    case atStart => exact ⟨0, Nat.zero_le _, rfl, KD3.out, KF2.out⟩
    case round =>
      obtain ⟨k, hk, rfl, hdr, hfr⟩ := hrel
      have KDr := Kept.mk hdr
      have KFr := Kept.mk hfr
      by_cases hlt : k < l.length
      · have hki : (k : Int) < (l.length : Int) := by omega
        have hrow := hdr.bd.rowAt p
        have eV : rowV { bgS S with L := (l.take k).foldl apl (bgS S).L } p = .slice a l.length cp := Kv.out
        have eL : rowL { bgS S with L := (l.take k).foldl apl (bgS S).L } p = l := Kl.out
        rw [eV, eL] at hrow
        obtain ⟨hown, -, hC⟩ := hrow
        have hC : (bgS S).C p = some (.slice a l.length cp, l) := by
          rcases hC with hC | ⟨-, -, hC⟩
          · exact hC
          · rw [hC] at hlt; simp at hlt
        obtain ⟨g, rfl⟩ : ∃ g, a = some ⟨g, 0, none⟩ := by
          rcases hown.2 with ⟨h1, h2⟩ | ⟨g, cap, cur, h1, -⟩
          · rw [h2] at hlt; simp at hlt
          · injection h1 with h1; exact ⟨g, h1⟩
        obtain ⟨c, hc⟩ : ∃ c, l[k]'hlt = c := ⟨_, rfl⟩
        have hcm : c ∈ l := by rw [← hc]; exact List.getElem_mem hlt
        have Kc := Kept.mk hc
        have Kok := Kept.mk ((hdr.bd.rw p _ l hC).1.ok c hcm)
        have Kex : Kept (∀ f, c.file = some f → ∃ e, (bgS S).F f = some e) := ⟨fun f hf => hdr.bd.cF p _ l c f hC hcm hf⟩
        have c0 := row_cells hown hlt (j := 0) (by decide)
        have c1 := row_cells hown hlt (j := 1) (by decide)
        have c2 := row_cells hown hlt (j := 2) (by decide)
        rw [hc] at c0 c1 c2
        have d0 : wr.cell? ⟨g, k * 3, none⟩ = some (.string c.gone) := c0
        have d1 : wr.cell? ⟨g, k * 3 + 1, none⟩ = some (.string c.made) := c1
        obtain ⟨fo, hfo⟩ : ∃ fo, c.file.map (fun b => (⟨b, 0, none⟩ : Addr)) = fo := ⟨_, rfl⟩
        have d2 : wr.cell? ⟨g, k * 3 + 2, none⟩ = some (.pointer fo) := by rw [← hfo]; exact c2
        obtain ⟨cg, hcg⟩ : ∃ cg, c.gone = cg := ⟨_, rfl⟩
        obtain ⟨cm, hcm2⟩ : ∃ cm, c.made = cm := ⟨_, rfl⟩
        rw [hcg] at d0
        rw [hcm2] at d1
        have KV : Kept (c.v = .agg #[.string cg, .string cm, .pointer fo] ∧ c.cs = [.string cg, .string cm, .pointer fo]) := ⟨by rw [← hcg, ← hcm2, ← hfo]; exact ⟨rfl, rfl⟩⟩
        have Kbl : Kept (∃ b, (bgS S).bl = some b) := ⟨by
          cases hx : (bgS S).bl with
          | some b => exact ⟨b, rfl⟩
          | none =>
            exfalso
            have hbn := KD2.out.bd.nl.1.2 hx
            have hbp := KD2.out.bd.nl.2.1 hbn
            have hm0 := KD2.out.bd.mC
            rw [hbp] at hm0
            have := hm0 p
            unfold rwV at this
            rw [hC] at this
            cases this⟩
        clear c0 c1 c2 hfo hcg hcm2
        clear hown hC hdr hfr eV eL hcm hc hlk q4
        go_upto_region 7 with fail
        obtain ⟨w3, hw3⟩ : ∃ w3, wr.alloc (.cells #[.string cg, .string cm, .pointer fo] 90) = w3 := ⟨_, rfl⟩
        have hb3 : Below wr.heap.size wr w3 := by rw [← hw3]; exact (Below.refl _ _).alloc (Nat.le_refl _) _
        have hB3 : Bk w3 wr.heap.size 90 [.string cg, .string cm, .pointer fo] := by rw [← hw3]; exact Bk.new wr _ _
        rw [hw3]
        have KD3' := Kept.mk (KDr.out.later hb3)
        have KF3 : Kept (Fx B w w3) := ⟨KFr.out.trans (Fx.ofBelow (S := fun _ => False) hb3 (Nat.le_refl _)) (fun _ _ h => h.elim)⟩
        have KB3 := Kept.mk hB3
        obtain ⟨bl, hbl⟩ := Kbl.out
        have KBl := Kept.mk hbl
        clear hw3 hb3 hB3 d0 d1 d2 hbl
        refine wp_region_last _ 5 (by kernel_rfl) (by kernel_rfl) rfl rfl ?_
        simp only [List.take_succ_cons, List.take_zero]
        refine BigFrame.wpQuiet_want rfl (fun K hK => quiet_load_mid 90 _ rfl wr.heap.size 0 rfl [.string cg, .string cm, .pointer fo] _ (fun W hW => by
          obtain ⟨k, rfl⟩ := hW
          exact KB3.out.range) Tryz.underlying90 rfl sizeC (hK _ ?_))
        clear hK K
        simp only [Act.put, List.setIfInBounds_toArray, List.set_cons_zero, List.set_cons_succ]
        have q3a := KD3'.out.lasting
        have q3 : w3.cell? ⟨d, 3, none⟩ = some (.map (some bl)) := by rw [q3a]; show some (Value.map (bgS S).bl) = _; rw [KBl.out]
        clear q3a
        repeat (go_big_quiet_step ((intro _; rfl)))
        refine wpQuiet_nil ?_
        intro kk
        obtain ⟨w4, hw4⟩ : ∃ w4, w3.drewN kk = w4 := ⟨_, rfl⟩
        rw [hw4]
        have hb4 : Below w3.heap.size w3 w4 := hw4 ▸ below_drewN (Below.refl _ _) kk
        have KD4 := Kept.mk (KD3'.out.later hb4)
        have KF4 : Kept (Fx B w w4) := ⟨KF3.out.trans (Fx.ofBelow (S := fun _ => False) hb4 (Nat.le_refl _)) (fun _ _ h => h.elim)⟩
        have KAp := Kept.mk (apply_any c bl (n + k) ((l.take k).foldl apl (bgS S).L) w4 Kok.out (KD4.out.bd.mL.at KBl.out) (by have := Klm.out; omega))
        rw [KV.out.1] at KAp
        clear hw4 hb4 q3
        go_simp
        refine Calls.mono KAp.out (fun x w5 hq => ?_)
        obtain ⟨rfl, hM, hF⟩ := hq
        have KD5 := Kept.mk (KD4.out.lasted KBl.out Kok.out Kex.out hM hF)
        have KF5 : Kept (Fx B w w5) := ⟨KF4.out.trans hF (fun i hi e => by
          rcases KD4.out.bd.bB bl (.inr (.inl KBl.out)) with h | h
          · rw [e]; exact h
          · omega)⟩
        have KTk : Kept ((l.take (k + 1)).foldl apl (bgS S).L = apl ((l.take k).foldl apl (bgS S).L) c) := ⟨by
          rw [List.take_add_one, List.getElem?_eq_getElem hlt, Kc.out, List.foldl_append]
          rfl⟩
        clear hM hF KAp
        go_wp2
        go_roundw
        case rel => exact ⟨k + 1, hlt, by go_num, by rw [KTk.out]; exact KD5.out, KF5.out⟩
        case measure => simp [intOf]; omega
      · have hki : ¬ (k : Int) < (l.length : Int) := by omega
        obtain rfl : k = l.length := by omega
        rw [List.take_length] at KDr
        have q5 := KDr.out.pending
        clear hdr hfr hlk q4
        go_upto_region 10 with (at_delete; refine wpList_del _ rfl _ _ 54 100 rfl Tryz.underlying54 (bgS S).bp (n + l.length) (rwV (bgS S).C) rfl KDr.out.bd.mC p hps rfl ?_; intro w5 hM5 hF5; have KD5 := Kept.mk (KDr.out.delC hM5 hF5); have KF5 : Kept (Fx B w w5) := ⟨KFr.out.trans hF5 (fun i hi e => by rcases KDr.out.bd.bB i (.inr (.inr (.inl e))) with h | h <;> first | exact h | omega)⟩; clear hM5 hF5)
        simp only [Act.put]
        go_wp2
        go_ret
        refine ⟨by rw [KE.out]; rfl, _, KD5.out.weak (fun _ _ h => h) (by have := Klm.out; omega), ?_, KF5.out, bgS_m S⟩
        refine (ps_delC { bgS S with L := l.foldl apl (bgS S).L } p).trans ?_
        rw [KP2.out]
        show { St.ps (bgS S) with L := l.foldl apl (bgS S).L, C := upd (St.ps (bgS S)).C p [] } = _
        rw [bgS_L, bgS_ps, bgP_C]
  · have hb : (E == 0) = false := by simpa using h0
    have KP2 : Kept (sdP S.ps p = bgP S.ps) := ⟨by rw [KP.out, if_neg h0]⟩
    go_wp2
    go_ret
    exact ⟨by rw [KE.out]; rfl, bgS S, KD2.out.weak (fun i _ h => .inl h) (by omega), by rw [KP2.out]; exact bgS_ps S, KF2.out, bgS_m S⟩

open Go.RowKit Go.WideMaps

def newS (q : Int) : St := ⟨q, 0, none, none, none, none, 0, 0, false, fun _ => none, fun _ => none, fun _ => none, fun _ => false, fun _ => none, 0⟩
theorem new_bd (w : World) (B : Nat → Prop) (q : Int) : Bd w B (newS q) 0 := {
  mN := fun _ => rfl, mL := fun _ => rfl, mC := fun _ => rfl, mR := fun _ => rfl
  bB := fun b h => by rcases h with h | h | h | h <;> exact nomatch h
  sp := fun b => ⟨(fun h => nomatch h), (fun h => nomatch h), (fun h => nomatch h)⟩
  nl := ⟨⟨fun _ => rfl, fun _ => rfl⟩, ⟨fun _ => rfl, fun _ => rfl⟩⟩
  fl := (fun _ _ h => nomatch h)
  fA := (fun _ _ _ _ _ _ h => nomatch h)
  nF := (fun _ _ h => nomatch h)
  lF := (fun _ _ h => nomatch h)
  cF := (fun _ _ _ _ _ h => nomatch h)
  rw := (fun _ _ _ h => nomatch h)
  rA := (fun _ _ _ _ _ _ _ _ h => nomatch h)
  kz := fun _ h => by rcases h with h | h | h <;> exact absurd rfl h }
set_option maxRecDepth 100000 in
theorem new_any (q : Int) (w : World) (hq : 0 ≤ q) : Calls Tryz.prog 6 #[.int .i64 q] w fun e w' => e = .returned (.tuple #[.pointer (some ⟨w.heap.size, 0, none⟩), .int .i64 0]) ∧ Dk w' (fun i => i = w.heap.size) w.heap.size (newS q) 0 ∧ Below w.heap.size w w' := by
  have hqi : ¬ q < 0 := by omega
  go_enter Tryz.func6, Tryz.ntmps6
  go_wp2
  go_ret2
  exact ⟨rfl, ⟨Bk.new w _ _, rfl, new_bd _ _ _⟩, (Below.refl _ _).alloc (Nat.le_refl _) _⟩
set_option maxRecDepth 100000 in
theorem off_any {w : World} {B : Nat → Prop} {d n : Nat} {S : St} (h : Dk w B d S n) : Calls Tryz.prog 33 #[.pointer (some ⟨d, 0, none⟩)] w fun e w' => e = .returned (.bool S.dark) ∧ w' = w := by
  have h8 := h.dark
  clear h
  go_enter Tryz.func33, Tryz.ntmps33
  go_wp2
  go_ret
  exact ⟨rfl, rfl⟩
set_option maxRecDepth 100000 in
theorem off_nil (w : World) : Calls Tryz.prog 33 #[.pointer none] w fun e w' => e = .returned (.bool false) ∧ w' = w := by
  go_enter Tryz.func33, Tryz.ntmps33
  go_wp2
  go_ret
  exact ⟨rfl, rfl⟩
set_option maxRecDepth 100000 in
theorem count_any {w : World} {B : Nat → Prop} {d n : Nat} {S : St} (h : Dk w B d S n) : Calls Tryz.prog 36 #[.pointer (some ⟨d, 0, none⟩)] w fun e w' => e = .returned (.int .i64 S.count) ∧ w' = w := by
  have h8 := h.count
  clear h
  go_enter Tryz.func36, Tryz.ntmps36
  go_wp2
  go_ret
  exact ⟨rfl, rfl⟩
set_option maxRecDepth 100000 in
theorem count_nil (w : World) : Calls Tryz.prog 36 #[.pointer none] w fun e w' => e = .returned (.int .i64 0) ∧ w' = w := by
  go_enter Tryz.func36, Tryz.ntmps36
  go_wp2
  go_ret
  exact ⟨rfl, rfl⟩
/-- A copy of a file's bytes. -/
theorem clone_own {w : World} {v : Value} {xs : List Int} (h : Own .u8 5 w 0 v xs) (hl : xs.length ≤ 2097152) : Calls Tryz.prog 42 #[v] w fun e w' => ∃ v', e = .returned v' ∧ Own .u8 5 w' w.heap.size v' xs ∧ Below w.heap.size w w' := by
  rcases h.2 with ⟨rfl, hn⟩ | ⟨g, cap, cur, rfl, -⟩
  · have hx : xs = [] := List.eq_nil_of_length_eq_zero hn
    subst hx
    refine Calls.mono (Tryz.bytes_Clone_nil 0 0 w) (fun e w' hp => ?_)
    obtain ⟨rfl, rfl⟩ := hp
    exact ⟨_, rfl, Own.nil _ _ _ _, Below.refl _ _⟩
  · refine Calls.mono (Tryz.bytes_Clone_at ⟨g, 0, none⟩ xs.length cap xs w rfl (by omega) (fun i hi => ?_)) (fun e w' hp => ?_)
    · have := World.ownsRow.cells h (g := g) rfl i (.int .u8 (xs.getD i 0)) (by
        unfold cellsK
        rw [List.getElem?_map, List.getElem?_eq_getElem hi]
        simp [List.getD, List.getElem?_eq_getElem hi])
      exact this
    · obtain ⟨v', rfl, h1, -, h3⟩ := hp
      exact ⟨v', rfl, h1, h3⟩
def rdE (s : Ps) (p : ByteArray) : Int := if s.dark = true then 13 else if pathF p = false then 1 else (match s.N p with | none => 7 | some _ => 0)
def rdL (s : Ps) (p : ByteArray) : List Int := if rdE s p = 0 then (match fileP s p with | none => [] | some (_, xs, _) => xs) else []
end Go.Proofs.YtegdadkejheagaaGreatDoor
