/-
  Walks: Append.
-/
import Derived.Test.YtegdadkejheagaaDoorFI
namespace Go.Proofs.YtegdadkejheagaaDoor
open Go.RowKit Go.WideMaps

/-- A file turned. -/
theorem Bd.setFile {w w3 : World} {B : Nat → Prop} {S : St} {n f : Nat} {c c' : FileC} (h : Bd w B S n) (hf : S.F f = some c) (hk : ∀ i, i < w.heap.size → i ≠ f → c.v.ownBlock ≠ some i → w3.heap[i]? = w.heap[i]?)
    (hfile : FileAt w3 (Gr B w) f c') (hvb : c'.v.ownBlock = c.v.ownBlock ∨ ∃ g, c'.v.ownBlock = some g ∧ w.heap.size ≤ g) : Bd w3 (Gr B w) { S with F := upd S.F f (some c') } n := by
  have hx := h.fl f c hf
  have hB : ∀ i, i < w.heap.size → B i → Gr B w i := fun _ _ h => .inl h
  have hst : ∀ {g : Nat} {cs : Array Value} {e : TypeId} {q : Nat × Nat}, w.heap[g]? = some (.cells cs e q) → g ≠ f → c.v.ownBlock ≠ some g → w3.heap[g]? = w.heap[g]? := fun {g cs e q} hg h1 h2 => hk g (Array.getElem?_eq_some_iff.1 hg).1 h1 h2
  have hmap : ∀ {mb : Option Nat} {k : ByteArray → Option Value}, MapAt w mb n k → MapAt w3 mb n k := fun {mb k} hM => hM.far (fun b e => by
    subst e
    refine hk b hM.lt (fun e' => by subst e'; exact hM.notBk hx.blk) (fun e' => ?_)
    obtain ⟨cur, hcur⟩ := ownsRow_blk hx.own e'
    exact hM.notBk hcur) (Nat.le_refl _)
  have hex : ∀ g, (∃ c, S.F g = some c) → ∃ e, upd S.F f (some c') g = some e := fun g ⟨e, he⟩ => by
    by_cases e2 : g = f
    · subst e2; exact ⟨_, upd_same _ _ _⟩
    · exact ⟨e, by rw [upd_other _ _ e2]; exact he⟩
  exact {
    mN := hmap h.mN, mL := hmap h.mL, mC := hmap h.mC
    mR := h.mR.far (fun b e => by
      have hR := h.mR
      rw [e] at hR
      refine hk b hR.lt (fun e' => by subst e'; exact hR.notBk hx.blk) (fun e' => ?_)
      obtain ⟨cur, hcur⟩ := ownsRow_blk hx.own e'
      exact hR.notBk hcur) (Nat.le_refl _)
    bB := fun b hb => .inl (h.bB b hb), sp := h.sp, nl := h.nl, kz := h.kz
    fl := fun g e hg => by
      by_cases e1 : g = f
      · subst e1
        simp only [upd_same, Option.some.injEq] at hg
        subst hg
        exact hfile
      · simp only [upd_other _ _ e1] at hg
        have hy := h.fl g e hg
        refine hy.far (hst hy.blk e1 (fun e' => ?_)) (fun r hr => ?_) hB
        · obtain ⟨cur, hcur⟩ := ownsRow_blk hx.own e'
          exact type_ne hy.blk hcur (by decide) rfl
        · obtain ⟨cur, hcur⟩ := ownsRow_blk hy.own hr
          exact hst hcur (fun e' => type_ne hcur hx.blk (by decide) e') (fun e' => h.fA f g c e r (fun e2 => e1 e2.symm) hf hg e' hr)
    fA := fun g k x y r hne hg hk' hr hr' => by
      have hnew : ∀ k y, k ≠ f → S.F k = some y → c'.v.ownBlock = some r → y.v.ownBlock = some r → False := fun k y hkf hky h1 h2 => by
        rcases hvb with e3 | ⟨g', hg', hle⟩
        · exact h.fA f k c y r (fun e => hkf e.symm) hf hky (by rw [← e3]; exact h1) h2
        · rw [h1] at hg'
          injection hg' with hg'
          subst hg'
          have := ((h.fl k y hky).own.lt r h2).2
          omega
      by_cases e1 : g = f
      · subst e1
        simp only [upd_same, Option.some.injEq] at hg
        subst hg
        simp only [upd_other _ _ (fun e : k = g => hne e.symm)] at hk'
        exact hnew k y (fun e => hne e.symm) hk' hr hr'
      · simp only [upd_other _ _ e1] at hg
        by_cases e2 : k = f
        · subst e2
          simp only [upd_same, Option.some.injEq] at hk'
          subst hk'
          exact hnew g x e1 hg hr' hr
        · simp only [upd_other _ _ e2] at hk'
          exact h.fA g k x y r hne hg hk' hr hr'
    nF := fun p g hp => hex g (h.nF p g hp)
    lF := fun p g hp => hex g (h.lF p g hp)
    cF := fun p v l x g hp hxl hg => hex g (h.cF p v l x g hp hxl hg)
    rw := fun p v l hp => by
      have hy := h.rw p v l hp
      refine ⟨hy.1.far (fun r hr => ?_) hB, hy.2⟩
      obtain ⟨cur, hcur⟩ := ownsRow_blk hy.1.own hr
      refine hst hcur (fun e' => type_ne hcur hx.blk (by decide) e') (fun e' => ?_)
      obtain ⟨cur', hcur'⟩ := ownsRow_blk hx.own e'
      exact type_ne hcur hcur' (by decide) rfl
    rA := h.rA }
theorem Dk.setFile {w w3 : World} {B : Nat → Prop} {S : St} {d n f : Nat} {c c' : FileC} (h : Dk w B d S n) (hf : S.F f = some c) (hk : ∀ i, i < w.heap.size → i ≠ f → c.v.ownBlock ≠ some i → w3.heap[i]? = w.heap[i]?)
    (hfile : FileAt w3 (Gr B w) f c') (hvb : c'.v.ownBlock = c.v.ownBlock ∨ ∃ g, c'.v.ownBlock = some g ∧ w.heap.size ≤ g) : Dk w3 (Gr B w) d { S with F := upd S.F f (some c') } n := by
  have hx := h.bd.fl f c hf
  refine ⟨h.blk.far (hk d h.blk.lt (fun e => by subst e; exact type_ne h.blk hx.blk (by decide) rfl) (fun e => ?_)), .inl h.inB, h.bd.setFile hf hk hfile hvb⟩
  obtain ⟨cur, hcur⟩ := ownsRow_blk hx.own e
  exact type_ne h.blk hcur (by decide) rfl
def opEP (s : Ps) (L : List ByteArray) (p : ByteArray) : Int := if bgEP s true L = 0 then (match s.N p with | none => 7 | some _ => 0) else bgEP s true L
theorem opE_ps (S : St) (L : List ByteArray) (p : ByteArray) : opE S L p = opEP S.ps L p := rfl
def fileP (s : Ps) (p : ByteArray) : Option (Nat × List Int × Nat) := (s.N p).bind fun f => (s.F f).map fun c => (f, c.1, c.2)
def apE (s : Ps) (p : ByteArray) (k : Nat) : Int := if opEP s [p] p = 0 then (match fileP s p with | none => 0 | some (_, xs, _) => if 2097152 < xs.length + k then 2 else if s.quota < s.used + k then 12 else 0) else opEP s [p] p
def apP (s : Ps) (p : ByteArray) (ys : List Int) : Ps := if apE s p ys.length = 0 then (match fileP s p with | none => bgP s | some (f, xs, k) => { bgP s with used := s.used + ys.length, F := upd s.F f (some (xs ++ ys, k)) }) else bgP s
theorem own_form {w : World} {base : Nat} {k : IntKind} {e : TypeId} {v : Value} {xs : List Int} (h : Own k e w base v xs) : ∃ a c, v = .slice a xs.length c := by
  rcases h.2 with ⟨rfl, hn⟩ | ⟨g, cap, cur, rfl, -⟩
  · exact ⟨none, 0, by rw [hn]⟩
  · exact ⟨_, _, rfl⟩
theorem Dk.appended {w3 w4 : World} {B : Nat → Prop} {d n f : Nat} {S : St} {c : FileC} (h : Dk w3 B d S n) (hf : S.F f = some c) {ys : List Int} {v3 : Value} (ho : Own .u8 5 w4 0 v3 (c.xs ++ ys)) (hg : w3.grownBy w4 c.v.ownBlock) (ha : v3.ownBlock = c.v.ownBlock ∨ v3.ownBlock = some w3.heap.size) (hA : AllB ys) (hl : (c.xs ++ ys).length ≤ 2097152) :
    Bk w4 f 64 [c.v, .int .i64 (c.s : Nat)] ∧ Dk (w4.setCell ⟨f, 0, none⟩ v3) (Gr B w3) d { S with F := upd S.F f (some ⟨v3, c.xs ++ ys, c.s⟩) } n ∧ Fx B w3 (w4.setCell ⟨f, 0, none⟩ v3) := by
  have hx := h.bd.fl f c hf
  have hfr : ∀ g, c.v.ownBlock = some g → g ≠ f := fun g hg e => by
    subst e
    obtain ⟨cur, hcur⟩ := ownsRow_blk hx.own hg
    exact type_ne hx.blk hcur (by decide) rfl
  have hk4 : Bk w4 f 64 [c.v, .int .i64 (c.s : Nat)] := hx.blk.far (hg.block f hx.blk.lt (fun e => hfr f e.symm rfl))
  have hne : ∀ g, v3.ownBlock = some g → g ≠ f := fun g hg' e => by
    subst e
    obtain ⟨cur, hcur⟩ := ownsRow_blk ho hg'
    exact type_ne hk4 hcur (by decide) rfl
  refine ⟨hk4, h.setFile hf (fun i hi h1 h2 => ?_) ⟨hk4.set 0 v3, .inl hx.inB, ho.far (fun g hg' => Below.heap_setCell _ _ _ _ (hne g hg')), fun g hg' => ?_, hx.all.append hA, by show c.s ≤ (c.xs ++ ys).length; have := hx.le; rw [List.length_append]; omega, hl⟩ ?_, ?_⟩
  · rw [Below.heap_setCell _ _ _ _ h1]
    exact hg.block i hi (fun e => h2 e.symm)
  · rcases ha with e | e
    · exact .inl (hx.ownB g (by rw [← e]; exact hg'))
    · rw [hg'] at e
      injection e with e
      exact .inr (by omega)
  · rcases ha with e | e
    · exact .inl e
    · exact .inr ⟨_, e, Nat.le_refl _⟩
  · exact ((Fx.grown hg).weak (S' := B) (fun i _ e => hx.ownB i e)).trans (Fx.setCell _ f 0 v3) (fun i _ e => by subst e; exact hx.inB)
theorem Rd.fx {k : IntKind} {B : Nat → Prop} {w w' : World} {v : Value} {xs : List Int} (h : Rd k (fun b => ¬ B b) w v xs) (hF : Fx B w w') : Rd k (fun b => ¬ B b) w' v xs := h.far hF.size (fun b hb hn => ⟨hn, hF.block b hb hn⟩)
set_option maxRecDepth 100000 in
set_option maxHeartbeats 2000000 in
theorem append_any (p : ByteArray) (v2 : Value) (ys : List Int) {w : World} {B : Nat → Prop} {d n : Nat} {S : St} (h : Dk w B d S n) (hg : Gl w) (hc0 : 0 ≤ S.count) (hc1 : S.count < 1000000) (hgd : 3 ≤ d)
    (hr : Rd .u8 (fun b => ¬ B b) w v2 ys) (hA : AllB ys) (hy : ys.length ≤ 1000000000) (hu0 : -4398046511104 ≤ S.used) (hu1 : S.used ≤ 4398046511104) :
    Calls Tryd.prog 10 #[.pointer (some ⟨d, 0, none⟩), .string p, v2] w fun e w' => e = .returned (.int .i64 (apE S.ps p ys.length)) ∧ ∃ S', Dk w' (Gr B w) d S' n ∧ S'.ps = apP S.ps p ys ∧ Fx B w w' ∧ S'.m = S.m := by
  obtain ⟨w1, hw1⟩ : ∃ w1, w.alloc (.cells #[.string p] 9) = w1 := ⟨_, rfl⟩
  have hb1 : Below w.heap.size w w1 := by rw [← hw1]; exact (Below.refl _ _).alloc (Nat.le_refl _) _
  have hr1 : RdS w1 (.slice (some ⟨w.heap.size, 0, none⟩) 1 1) [p] := by rw [← hw1]; exact rdS_made w p
  have hdlt := h.blk.lt
  have KOp := Kept.mk (open_any _ p [] (h.later hb1) (hg.later hb1) hr1 (by simp) (fun b off k c e => by injection e with e; injection e with e; injection e with e; omega) hc0 hc1 hgd)
  have KD := Kept.mk h
  have KB1 := Kept.mk hb1
  have KR := Kept.mk hr
  have KA := Kept.mk hA
  have KE : Kept (apE S.ps p ys.length = if opE S [p] p = 0 then (match fileP S.ps p with | none => 0 | some (_, xs, _) => if 2097152 < xs.length + ys.length then 2 else if S.quota < S.used + ys.length then 12 else 0) else opE S [p] p) := ⟨rfl⟩
  have KP : Kept (apP S.ps p ys = if apE S.ps p ys.length = 0 then (match fileP S.ps p with | none => bgP S.ps | some (f, xs, k) => { bgP S.ps with used := S.used + ys.length, F := upd S.ps.F f (some (xs ++ ys, k)) }) else bgP S.ps) := ⟨rfl⟩
  have KOF : Kept (opE S [p] p = 0 → ∃ f, opF S [p] p = some f ∧ S.N p = some f) := ⟨fun h => by
    unfold opE at h
    unfold opF
    split at h
    · rename_i h0
      rw [if_pos h0]
      cases hN : S.N p with
      | none => rw [hN] at h; exact absurd h (by decide)
      | some f => exact ⟨f, rfl, rfl⟩
    · rename_i h0
      exact absurd h h0⟩
  obtain ⟨E, hE⟩ : ∃ E, opE S [p] p = E := ⟨_, rfl⟩
  obtain ⟨Fo, hFo⟩ : ∃ Fo, opF S [p] p = Fo := ⟨_, rfl⟩
  rw [hE, hFo] at KOp KOF
  rw [hE] at KE
  obtain ⟨a2, c2, rfl, -, hc2⟩ := hr
  clear h hg hb1 hr1 hE hFo hA hc2
  have hyi : (ys.length : Int) ≤ 1000000000 := by omega
  go_enter Tryd.func10, Tryd.ntmps10
  go_wp2_with fail
  refine Calls.mono KOp.out (fun x w2 hq => ?_)
  obtain ⟨rfl, hd2, hf2⟩ := hq
  have KD2 := Kept.mk hd2
  have KF2 : Kept (Fx B w w2) := ⟨(Fx.ofBelow (S := B) KB1.out (Nat.le_refl _)).trans hf2 (fun i _ e => by subst e; exact KD.out.inB)⟩
  clear hw1 hd2 hf2 KOp
  by_cases h0 : E = 0
  · subst h0
    obtain ⟨f, rfl, hN⟩ := KOF.out rfl
    obtain ⟨c, hc⟩ := KD.out.bd.nF p f hN
    have hcF : (bgS S).F f = some c := by rw [bgS_F]; exact hc
    have hfl := KD2.out.bd.fl f c hcF
    have KFl := Kept.mk hfl
    have KcF := Kept.mk hcF
    have KFP : Kept (fileP S.ps p = some (f, c.xs, c.s)) := ⟨by
      unfold fileP
      show (S.N p).bind (fun f => ((S.F f).map fun c => (c.xs, c.s)).map fun c => (f, c.1, c.2)) = _
      rw [hN]
      show ((S.F f).map fun c => (c.xs, c.s)).map (fun c => (f, c.1, c.2)) = _
      rw [hc]
      rfl⟩
    have KEr : Kept (apE S.ps p ys.length = if 2097152 < c.xs.length + ys.length then 2 else if S.quota < S.used + ys.length then 12 else 0) := ⟨by rw [KE.out, if_pos rfl, KFP.out]⟩
    obtain ⟨av, cv, hv⟩ := own_form hfl.own
    have hbig := hfl.big
    have k0 := hfl.blk.cell 0 _ rfl
    rw [hv] at k0
    have hl1 : IntKind.i64.wrap ((c.xs.length : Int) + (ys.length : Int)) = (c.xs.length : Int) + (ys.length : Int) := wr64 (by omega) (by omega)
    have Kv := Kept.mk hv
    clear hc hcF hN hfl hv
    unfold ptrV
    by_cases hlong : 2097152 < c.xs.length + ys.length
    · have hli : (2097152 : Int) < (c.xs.length : Int) + (ys.length : Int) := by omega
      have KE2 : Kept (apE S.ps p ys.length = 2) := ⟨by rw [KEr.out, if_pos hlong]⟩
      clear hlong
      go_wp2
      go_ret
      refine ⟨by rw [KE2.out]; rfl, bgS S, KD2.out.weak (fun i _ h => .inl h) (Nat.le_refl _), ?_, KF2.out, bgS_m S⟩
      rw [KP.out, KE2.out, if_neg (by decide)]
      exact bgS_ps S
    · have hli : ¬ (2097152 : Int) < (c.xs.length : Int) + (ys.length : Int) := by omega
      have q0 := KD2.out.quota
      have q1 := KD2.out.used
      have eq0 : (bgS S).quota = S.quota := by unfold bgS; split <;> rfl
      have eq1 : (bgS S).used = S.used := by unfold bgS; split <;> rfl
      rw [eq0] at q0
      rw [eq1] at q1
      have hl2 : IntKind.i64.wrap (S.used + (ys.length : Int)) = S.used + (ys.length : Int) := wr64 (by omega) (by omega)
      have KS1 := Kept.mk eq1
      clear eq0 eq1
      go_upto_region 6 with fail
      by_cases hfull : S.quota < S.used + (ys.length : Int)
      · have KE2 : Kept (apE S.ps p ys.length = 12) := ⟨by rw [KEr.out, if_neg hlong, if_pos hfull]⟩
        go_quiet (fail)
        obtain ⟨w3, hw3⟩ : ∃ w3, w2.drewN nq = w3 := ⟨_, rfl⟩
        rw [hw3]
        have hb3 : Below w2.heap.size w2 w3 := hw3 ▸ below_drewN (Below.refl _ _) nq
        have KD3 := Kept.mk (KD2.out.later hb3)
        have KF3 : Kept (Fx B w w3) := ⟨KF2.out.trans (Fx.ofBelow (S := fun _ => False) hb3 (Nat.le_refl _)) (fun _ _ h => h.elim)⟩
        clear hw3 hb3 q0 q1 k0
        go_wp2
        go_ret
        refine ⟨by rw [KE2.out]; rfl, bgS S, KD3.out.weak (fun i _ h => .inl h) (Nat.le_refl _), ?_, KF3.out, bgS_m S⟩
        rw [KP.out, KE2.out, if_neg (by decide)]
        exact bgS_ps S
      · have KE2 : Kept (apE S.ps p ys.length = 0) := ⟨by rw [KEr.out, if_neg hlong, if_neg hfull]⟩
        go_quiet (fail)
        obtain ⟨w3, hw3⟩ : ∃ w3, w2.drewN nq = w3 := ⟨_, rfl⟩
        rw [hw3]
        have hb3 : Below w2.heap.size w2 w3 := hw3 ▸ below_drewN (Below.refl _ _) nq
        have KD3 := Kept.mk (KD2.out.later hb3)
        have KF3 : Kept (Fx B w w3) := ⟨KF2.out.trans (Fx.ofBelow (S := fun _ => False) hb3 (Nat.le_refl _)) (fun _ _ h => h.elim)⟩
        have hfl3 := KD3.out.bd.fl f c KcF.out
        have KO3 : Kept (Own .u8 5 w3 0 (.slice av c.xs.length cv) c.xs) := ⟨by rw [← Kv.out]; exact hfl3.own⟩
        have k0' := hfl3.blk.cell 0 _ rfl
        rw [Kv.out] at k0'
        have f0 := hfl3.blk.frozen 0
        have KX3 := Kept.mk (KR.out.fx KF3.out)
        obtain ⟨i0, z0, hi, hz, hs, hb8, hcz⟩ := info8
        clear hw3 hb3 q0 q1 k0 hfl3
        go_upto_region 9 with (at_builtin; refine wpList_append_rd _ rfl _ _ 23 rfl .u8 (fun b => ¬ B b) 1 0 5 i0 z0 Tryd.underlying23 hi hz hs hb8 hcz (by omega) (.slice av c.xs.length cv) c.xs rfl KO3.out _ ys rfl KX3.out (by omega) (Nat.zero_le _) ?_; intro v3 w4 hown4 hgrow4 hat4; obtain ⟨a3, c3, rfl⟩ := own_form hown4; have hAp := KD3.out.appended KcF.out hown4 (by rw [Kv.out]; exact hgrow4) (by rw [Kv.out]; exact hat4) KA.out (by rw [List.length_append]; omega); have k4 := hAp.1.cell 0 _ rfl; have f4 := hAp.1.frozen 0; rw [Kv.out] at k4; have KD5 := Kept.mk hAp.2.1; have KF5 := Kept.mk hAp.2.2; have KO4 := Kept.mk hown4; clear hown4 hgrow4 hat4 hAp k0' f0; obtain ⟨w5, hw5⟩ : ∃ w5, w4.setCell ⟨f, 0, none⟩ (.slice a3 (c.xs.length + ys.length) c3) = w5 := ⟨_, rfl⟩; have hw5' : w4.setCell ⟨f, 0, none⟩ (.slice a3 (c.xs ++ ys).length c3) = w5 := (by rw [List.length_append]; exact hw5); rw [hw5'] at KD5 KF5; clear hw5')
        have q1a := KD5.out.used
        have f1 := KD5.out.blk.frozen 1
        have q1 : w5.cell? ⟨d, 1, none⟩ = some (.int .i64 S.used) := by rw [q1a, ← KS1.out]
        clear q1a
        have KD6 : Kept (Dk (w5.setCell ⟨d, 1, none⟩ (.int .i64 (S.used + (ys.length : Int)))) (Gr B w3) d { bgS S with F := upd (bgS S).F f (some ⟨.slice a3 (c.xs ++ ys).length c3, c.xs ++ ys, c.s⟩), used := S.used + (ys.length : Int) } n) := ⟨KD5.out.setCell 1 _ rfl (fun h => h.fields (bgS S).quota (S.used + (ys.length : Int)) (bgS S).last (bgS S).count (bgS S).dark)⟩
        have KF6 : Kept (Fx B w (w5.setCell ⟨d, 1, none⟩ (.int .i64 (S.used + (ys.length : Int))))) := ⟨(KF3.out.trans KF5.out (fun _ _ h => h)).trans (Fx.setCell w5 d 1 _) (fun i _ e => by subst e; exact KD.out.inB)⟩
        clear hw5 k4 f4 hi hz hs hb8 hcz
        obtain ⟨w6, hw6⟩ : ∃ w6, w5.setCell ⟨d, 1, none⟩ (.int .i64 (S.used + (ys.length : Int))) = w6 := ⟨_, rfl⟩
        rw [hw6] at KD6 KF6
        go_wp2
        go_ret
        refine ⟨by rw [KE2.out]; rfl, _, KD6.out.weak (B' := Gr B w) (fun i _ h => Or.elim h Or.inl (fun h => Or.inr (Nat.le_trans KF3.out.size h))) (Nat.le_refl _), ?_, KF6.out, bgS_m S⟩
        rw [KP.out, KE2.out, if_pos rfl, KFP.out]
        have e1 := ps_setF (bgS S) f ⟨.slice a3 (c.xs ++ ys).length c3, c.xs ++ ys, c.s⟩
        have e2 : (bgP S.ps).F = S.ps.F := by unfold bgP; split <;> rfl
        rw [bgS_ps, e2] at e1
        have e3 : St.ps { bgS S with F := upd (bgS S).F f (some ⟨.slice a3 (c.xs ++ ys).length c3, c.xs ++ ys, c.s⟩), used := S.used + (ys.length : Int) } = { St.ps { bgS S with F := upd (bgS S).F f (some ⟨.slice a3 (c.xs ++ ys).length c3, c.xs ++ ys, c.s⟩) } with used := S.used + (ys.length : Int) } := rfl
        rw [e3, e1]
  · have KE2 : Kept (apE S.ps p ys.length = E) := ⟨by rw [KE.out, if_neg h0]⟩
    have hb : (E == 0) = false := by simpa using h0
    go_wp2
    go_ret
    refine ⟨by rw [KE2.out]; rfl, bgS S, KD2.out.weak (fun i _ h => .inl h) (Nat.le_refl _), ?_, KF2.out, bgS_m S⟩
    rw [KP.out, KE2.out, if_neg h0]
    exact bgS_ps S
end Go.Proofs.YtegdadkejheagaaDoor
