/-
  Walks: Create.
-/
import Derived.Test.YtegdadkejheagaaDoorFH
namespace Go.Proofs.YtegdadkejheagaaDoor
open Go.RowKit Go.WideMaps

theorem path_pos {p : ByteArray} (h : pathF p = true) : 1 ≤ p.size := by
  rcases Nat.eq_zero_or_pos p.size with e | e
  · have : p = ByteArray.empty := by
      apply ByteArray.ext
      exact Array.eq_empty_of_size_eq_zero e
    subst this
    exact absurd h (by decide)
  · exact e
theorem oneF_pos {L : List ByteArray} (h : oneF L = true) : ∀ p ∈ L, 1 ≤ p.size := by
  intro p hp
  have := List.all_eq_true.1 h p hp
  simp only [Bool.and_eq_true] at this
  exact path_pos this.1
def bgP (s : Ps) : Ps := if s.dark = true then s else { s with count := s.count + 1, dark := decide (s.count + 1 = s.last) }
theorem bgS_ps (S : St) : (bgS S).ps = bgP S.ps := by
  unfold bgS bgP St.ps
  split <;> rfl
theorem bgS_m (S : St) : (bgS S).m = S.m := by unfold bgS; split <;> rfl
theorem bgS_F (S : St) : (bgS S).F = S.F := by unfold bgS; split <;> rfl
def bgEP (s : Ps) (r : Bool) (L : List ByteArray) : Int := if s.dark = true then 13 else if s.count + 1 = s.last then 13 else if oneF L = false then 1 else if (s.R (s.count + 1) && r) = true then 11 else 0
theorem bgE_ps (S : St) (r : Bool) (L : List ByteArray) : bgE S r L = bgEP S.ps r L := rfl
def crE (s : Ps) (p : ByteArray) : Int := if bgEP s true [p] = 0 then (match s.N p with | none => 0 | some _ => 8) else bgEP s true [p]
def crC (p : ByteArray) (f : Nat) : Chg := ⟨ByteArray.empty, some (p, f)⟩
def CrP (s : Ps) (p : ByteArray) (s' : Ps) : Prop := if crE s p = 0 then ∃ f, s.F f = none ∧ s' = noteP { bgP s with F := upd s.F f (some ([], 0)) } p (crC p f) else s' = bgP s
theorem ps_setF (S : St) (f : Nat) (c : FileC) : St.ps { S with F := upd S.F f (some c) } = { S.ps with F := upd S.ps.F f (some (c.xs, c.s)) } := by
  have e := upd_map S.F (fun c : FileC => (c.xs, c.s)) f (some c)
  unfold St.ps
  simp only [Option.map_some] at e
  simp only [e]
/-- A slice of one text that was made. -/
theorem rdS_made (w : World) (p : ByteArray) : RdS (w.alloc (.cells #[.string p] 9)) (.slice (some ⟨w.heap.size, 0, none⟩) 1 1) [p] :=
  ⟨some ⟨w.heap.size, 0, none⟩, 1, rfl, Nat.le_refl _, fun _ => ⟨w.heap.size, 0, rfl, by simp, (Bk.new w 9 [.string p]).range⟩⟩
/-- A file more. -/
theorem Bd.addF {w : World} {B : Nat → Prop} {S : St} {n f : Nat} (h : Bd w B S n) (hf : S.F f = none) (hb : Bk w f 64 [.slice none 0 0, .int .i64 0]) (hB : B f) : Bd w B { S with F := upd S.F f (some ⟨.slice none 0 0, [], 0⟩) } n := by
  have hex : ∀ g, (∃ c, S.F g = some c) → ∃ c, upd S.F f (some ⟨.slice none 0 0, [], 0⟩) g = some c := fun g ⟨c, hc⟩ => by
    by_cases e : g = f
    · subst e; exact ⟨_, upd_same _ _ _⟩
    · exact ⟨c, by rw [upd_other _ _ e]; exact hc⟩
  exact {
    mN := h.mN, mL := h.mL, mC := h.mC, mR := h.mR, bB := h.bB, sp := h.sp, nl := h.nl, rw := h.rw, rA := h.rA, kz := h.kz
    fl := fun g c hg => by
      by_cases e : g = f
      · subst e
        simp only [upd_same, Option.some.injEq] at hg
        subst hg
        exact ⟨hb, hB, Own.nil _ _ _ _, (fun _ h => nomatch h), AllIn.nil, Nat.le_refl _, Nat.zero_le _⟩
      · simp only [upd_other _ _ e] at hg
        exact h.fl g c hg
    fA := fun g k c e r hne hg hk hr hr' => by
      by_cases e1 : g = f
      · subst e1
        simp only [upd_same, Option.some.injEq] at hg
        subst hg
        cases hr
      · simp only [upd_other _ _ e1] at hg
        by_cases e2 : k = f
        · subst e2
          simp only [upd_same, Option.some.injEq] at hk
          subst hk
          cases hr'
        · simp only [upd_other _ _ e2] at hk
          exact h.fA g k c e r hne hg hk hr hr'
    nF := fun p g hp => hex g (h.nF p g hp)
    lF := fun p g hp => hex g (h.lF p g hp)
    cF := fun p v l c g hp hc hg => hex g (h.cF p v l c g hp hc hg) }
theorem Bd.lt {w : World} {B : Nat → Prop} {S : St} {n f : Nat} (h : Bd w B S n) (hf : w.heap.size ≤ f) : S.F f = none := by
  cases hx : S.F f with
  | none => rfl
  | some c => have := (h.fl f c hx).blk.lt; omega
set_option maxRecDepth 100000 in
set_option maxHeartbeats 2000000 in
theorem create_any (p : ByteArray) {w : World} {B : Nat → Prop} {d n : Nat} {S : St} (h : Dk w B d S n) (hg : Gl w) (hc0 : 0 ≤ S.count) (hc1 : S.count < 1000000) (hgd : 3 ≤ d) (hn : n < 900000) (hm : S.m < 1000) :
    Calls Tryd.prog 17 #[.pointer (some ⟨d, 0, none⟩), .string p] w fun e w' => e = .returned (.int .i64 (crE S.ps p)) ∧ ∃ S', Dk w' (Gr B w) d S' (n + 2) ∧ CrP S.ps p S'.ps ∧ Fx B w w' ∧ S'.m ≤ S.m + 1 := by
  obtain ⟨w1, hw1⟩ : ∃ w1, w.alloc (.cells #[.string p] 9) = w1 := ⟨_, rfl⟩
  have hb1 : Below w.heap.size w w1 := by rw [← hw1]; exact (Below.refl _ _).alloc (Nat.le_refl _) _
  have hr1 : RdS w1 (.slice (some ⟨w.heap.size, 0, none⟩) 1 1) [p] := by rw [← hw1]; exact rdS_made w p
  have hdlt := h.blk.lt
  have KBg := Kept.mk (begin_any true _ [p] (h.later hb1) (hg.later hb1) hr1 (by simp) (fun b off k c e => by injection e with e; injection e with e; injection e with e; omega) hc0 hc1 hgd)
  have KD := Kept.mk h
  have KB1 := Kept.mk hb1
  have KCr : Kept (crE S.ps p = if bgE S true [p] = 0 then (match S.N p with | none => 0 | some _ => 8) else bgE S true [p]) := ⟨rfl⟩
  have KCP : Kept (∀ s', CrP S.ps p s' ↔ if crE S.ps p = 0 then ∃ f, S.F f = none ∧ s' = noteP { bgP S.ps with F := upd S.ps.F f (some ([], 0)) } p (crC p f) else s' = bgP S.ps) := ⟨fun s' => by
    unfold CrP
    have e : ∀ f, S.ps.F f = none ↔ S.F f = none := fun f => by
      show (S.F f).map _ = none ↔ _
      cases S.F f <;> simp
    simp only [e]⟩
  have KO : Kept (bgE S true [p] = 0 → p.size ≤ 200 ∧ 1 ≤ p.size) := ⟨fun h => ⟨oneF_size (bg_ok h) p (by simp), oneF_pos (bg_ok h) p (by simp)⟩⟩
  obtain ⟨E, hE⟩ : ∃ E, bgE S true [p] = E := ⟨_, rfl⟩
  rw [hE] at KBg KCr KO
  clear h hg hb1 hr1 hE
  go_enter Tryd.func17, Tryd.ntmps17
  go_wp2_with fail
  refine Calls.mono KBg.out (fun x w2 hq => ?_)
  obtain ⟨rfl, hd2, hf2⟩ := hq
  have KD2 := Kept.mk hd2
  have KF2 : Kept (Fx B w w2) := ⟨(Fx.ofBelow (S := B) KB1.out (Nat.le_refl _)).trans hf2 (fun i _ e => by subst e; exact KD.out.inB)⟩
  clear hw1 hd2 hf2 KBg
  by_cases h0 : E = 0
  · subst h0
    obtain ⟨hps, hpp⟩ := KO.out rfl
    have Kpp := Kept.mk hpp
    clear hpp
    have hlk := KD2.out.bd.mN.look Tryd.underlying53 (zero_ptr w2) (s := p) (by unfold maxLen; omega)
    rw [bgS_N, nmV_get, bgS_bn] at hlk
    have g2 := KD2.out.names
    rw [bgS_bn] at g2
    cases hN : S.N p with
    | some f =>
      have KE : Kept (crE S.ps p = 8) := ⟨by rw [KCr.out, if_pos rfl, hN]⟩
      rw [hN] at hlk
      unfold ptrV at hlk
      clear hN
      go_wp2
      go_ret
      refine ⟨by rw [KE.out]; rfl, bgS S, KD2.out.weak (fun i _ h => .inl h) (by omega), ?_, KF2.out, by rw [bgS_m]; omega⟩
      rw [KCP.out, KE.out, if_neg (by decide)]
      exact bgS_ps S
    | none =>
      have KE : Kept (crE S.ps p = 0) := ⟨by rw [KCr.out, if_pos rfl, hN]⟩
      rw [hN] at hlk
      unfold ptrV at hlk
      have KCl := Kept.mk (sclone_any p w2 (by omega))
      have Kps := Kept.mk hps
      clear hN hps
      go_wp2_with fail
      refine Calls.mono KCl.out (fun x w3 hq => ?_)
      obtain ⟨rfl, hb3⟩ := hq
      have KD3 := Kept.mk (KD2.out.later hb3)
      have KF3 : Kept (Fx B w w3) := ⟨KF2.out.trans (Fx.ofBelow (S := fun _ => False) hb3 (Nat.le_refl _)) (fun _ _ h => h.elim)⟩
      clear hb3 KCl hlk g2
      obtain ⟨w4, hw4⟩ : ∃ w4, w3.alloc (.cells #[.slice none 0 0, .int .i64 0] 64) = w4 := ⟨_, rfl⟩
      have hb4 : Below w3.heap.size w3 w4 := by rw [← hw4]; exact (Below.refl _ _).alloc (Nat.le_refl _) _
      have hk4 : Bk w4 w3.heap.size 64 [.slice none 0 0, .int .i64 0] := by rw [← hw4]; exact Bk.new w3 _ _
      have hfn : (bgS S).F w3.heap.size = none := KD3.out.bd.lt (Nat.le_refl _)
      have hd4 : Dk w4 (Gr B w) d { bgS S with F := upd (bgS S).F w3.heap.size (some ⟨.slice none 0 0, [], 0⟩) } n := by
        have h1 := (KD3.out.later hb4).weak (B' := Gr B w) (fun i _ h => .inl h) (Nat.le_refl _)
        exact ⟨h1.blk, h1.inB, h1.bd.addF hfn hk4 (.inr KF3.out.size)⟩
      have hcok : (crC p w3.heap.size).Ok := ⟨Nat.zero_le _, fun q f e => by injection e with e; injection e with e1 e2; subst e1; exact ⟨Kpp.out, Kps.out⟩⟩
      have KNo := Kept.mk (note_any p (crC p w3.heap.size) hd4 Kps.out hcok (fun f e => by
        have e : w3.heap.size = f := by injection e
        subst e
        exact ⟨_, upd_same _ _ _⟩) hn (by show (bgS S).m < 1000; rw [bgS_m]; exact hm))
      have KNo : Kept (Calls Tryd.prog 38 #[.pointer (some ⟨d, 0, none⟩), .string p, .agg #[.string ⟨#[]⟩, .string p, .pointer (some ⟨w3.heap.size, 0, none⟩)]] w4 _) := KNo
      have KF4 : Kept (Fx B w w4) := ⟨KF3.out.trans (Fx.ofBelow (S := fun _ => False) hb4 (Nat.le_refl _)) (fun _ _ h => h.elim)⟩
      have Kfn : Kept (S.F w3.heap.size = none) := ⟨by rw [← bgS_F]; exact hfn⟩
      clear hb4 hk4 hfn hd4 hcok
      go_wp2_with fail
      refine Calls.mono KNo.out (fun x w5 hq => ?_)
      obtain ⟨rfl, S5, hd5, hps5, -, hf5, hm5⟩ := hq
      have KM5 : Kept (S5.m ≤ S.m + 1) := ⟨by rw [hm5]; show (bgS S).m + 1 ≤ S.m + 1; rw [bgS_m]; omega⟩
      have KD5 := Kept.mk hd5
      have KP5 := Kept.mk hps5
      have KF5 : Kept (Fx B w w5) := ⟨KF4.out.trans hf5 (fun i hi h => h.elim id (fun h => by omega))⟩
      clear hd5 hps5 hf5 hm5 KNo hw4
      go_wp2
      go_ret
      refine ⟨by rw [KE.out]; rfl, S5, KD5.out.weak (fun i _ h => h.elim id (fun h => .inr (Nat.le_trans KF4.out.size h))) (Nat.le_refl _), ?_, KF5.out, KM5.out⟩
      rw [KCP.out, KE.out, if_pos rfl]
      refine ⟨_, Kfn.out, ?_⟩
      rw [KP5.out]
      rw [ps_setF, bgS_ps]
      have e : (bgP S.ps).F = S.ps.F := by unfold bgP; split <;> rfl
      rw [e]
  · have KE : Kept (crE S.ps p = E) := ⟨by rw [KCr.out, if_neg h0]⟩
    have hb : (E == 0) = false := by simpa using h0
    go_wp2
    go_ret
    refine ⟨by rw [KE.out]; rfl, bgS S, KD2.out.weak (fun i _ h => .inl h) (by omega), ?_, KF2.out, by rw [bgS_m]; omega⟩
    rw [KCP.out, KE.out, if_neg h0]
    exact bgS_ps S
end Go.Proofs.YtegdadkejheagaaDoor
