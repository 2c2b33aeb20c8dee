/-
  Walks: begin.
-/
import Derived.Test.YtegdadkejheagaaGreatDoorFB
import Derived.Deep.MidRow
namespace Go.Proofs.YtegdadkejheagaaGreatDoor
open Go.RowKit Go.WideMaps

theorem RdV.fx {S : Nat → Prop} {w w' : World} {v : Value} {cs : List Value} (h : RdV w v cs) (hx : Fx S w w') (hS : ∀ b off k c, v = .slice (some ⟨b, off, none⟩) k c → ¬ S b) : RdV w' v cs := by
  obtain ⟨a, c, hv, hc, h1⟩ := h
  refine ⟨a, c, hv, hc, fun h0 => ?_⟩
  obtain ⟨b, off, ha, hlt, hr⟩ := h1 h0
  subst ha
  refine ⟨b, off, rfl, Nat.lt_of_lt_of_le hlt hx.size, fun j u hu => ?_⟩
  rw [World.cell?_of_block (w := w) (hx.block _ hlt (hS b off _ _ hv))]
  exact hr j u hu
theorem Gl.fx {S : Nat → Prop} {w w' : World} (h : Gl w) (hx : Fx S w w') (hS : ∀ i, i < 3 → ¬ S i) : Gl w' := by
  have hl := h.lo
  obtain ⟨m, hm⟩ := h.mx
  refine ⟨⟨m, ?_⟩, Nat.le_trans hl hx.size⟩
  rw [World.cell?_of_block (w := w) (hx.block _ (by simp only; omega) (hS _ (by simp only; omega)))]
  exact hm

/-- Looking a call's number up among those that a plan refuses. -/
theorem zero_unit (w : World) : (zeroValue 60).run Tryz.prog w = .ok (.agg #[]) w := by kernel_rfl
theorem RefAt.look {w : World} {rb : Option Nat} {n : Nat} {R : Int → Bool} (h : RefAt w rb n R) {i : Int} (h0 : 0 ≤ i) (h1 : i ≤ 1000000) :
    (Instr.lookup 55 (.map rb) (.int .i64 i) true).run Tryz.prog w = .ok (.tuple #[.agg #[], .bool (R i)]) w := by
  have wf : (Lit.int .i64 i).wf = true := by
    have e1 : IntKind.i64.min = -9223372036854775808 := rfl
    have e2 : IntKind.i64.max = 9223372036854775807 := rfl
    simp only [Lit.wf, e1, e2, Bool.and_eq_true, decide_eq_true_eq]
    omega
  have hk := Maps.keyOf_int_mk Tryz.underlying3 wf
  cases rb with
  | none => rw [Maps.look_nil true (Maps.int_keyed Tryz.underlying3) Tryz.underlying55 (zero_unit w) hk, h i]; rfl
  | some b =>
    obtain ⟨D, h1, h2, h3⟩ := h
    obtain ⟨v, ps, hr, hv⟩ := h1.look_ok (Maps.int_keyed Tryz.underlying3) Tryz.underlying55 (zero_unit w) unitElem_mk hk
    obtain ⟨rfl, -⟩ := unitElem_inv hv
    rw [hr, h3]
def bgS (S : St) : St := if S.dark = true then S else { S with count := S.count + 1, dark := decide (S.count + 1 = S.last) }
def bgE (S : St) (r : Bool) (L : List ByteArray) : Int := if S.dark = true then 13 else if S.count + 1 = S.last then 13 else if oneF L = false then 1 else if (S.R (S.count + 1) && r) = true then 11 else 0
set_option maxRecDepth 100000 in
set_option maxHeartbeats 2000000 in
theorem begin_any (r : Bool) (v : Value) (L : List ByteArray) {w : World} {B : Nat → Prop} {d n : Nat} {S : St} (h : Dk w B d S n) (hg : Gl w) (hr : RdS w v L) (hl : L.length ≤ 2) (hlr : ∀ b off k c, v = .slice (some ⟨b, off, none⟩) k c → b ≠ d) (hc0 : 0 ≤ S.count) (hc1 : S.count < 1000000) (hgd : 3 ≤ d) :
    Calls Tryz.prog 37 #[.pointer (some ⟨d, 0, none⟩), .bool r, v] w fun e w' => e = .returned (.int .i64 (bgE S r L)) ∧ Dk w' B d (bgS S) n ∧ Fx (fun i => i = d) w w' := by
  have KE : Kept (bgE S r L = if S.dark = true then 13 else if S.count + 1 = S.last then 13 else if oneF L = false then 1 else if (S.R (S.count + 1) && r) = true then 11 else 0) := ⟨rfl⟩
  have KS : Kept (bgS S = if S.dark = true then S else { S with count := S.count + 1, dark := decide (S.count + 1 = S.last) }) := ⟨rfl⟩
  have KD := Kept.mk h
  have KG := Kept.mk hg
  have KR := Kept.mk hr
  have KRy := Kept.mk (ready_any h)
  have h8 := h.dark
  have h7 := h.count
  have h6 := h.last
  have f7 := h.blk.frozen 7
  have f8 := h.blk.frozen 8
  have e1 : IntKind.i64.wrap (S.count + 1) = S.count + 1 := wr64 (by omega) (by omega)
  obtain ⟨a, c, rfl, -⟩ := hr
  have KR2 : Kept (∀ W, Fx (fun i => i = d) w W → RdS W (.slice a (L.map Value.string).length c) L) := ⟨fun W hW => KR.out.fx hW (fun b off k c' e e2 => hlr b off k c' e e2)⟩
  rw [List.length_map] at KR2 ⊢
  clear h hg hlr
  by_cases hk : S.dark = true
  · have KE2 : Kept (bgE S r L = 13) := ⟨by rw [KE.out, if_pos hk]⟩
    have KS2 : Kept (bgS S = S) := ⟨by rw [KS.out, if_pos hk]⟩
    have er : rdyE S.dark = 13 := by rw [hk]; rfl
    rw [er] at KRy
    clear er
    go_enter Tryz.func37, Tryz.ntmps37
    go_wp2_with fail
    refine Calls.mono KRy.out (fun x w1 hp => ?_)
    obtain ⟨rfl, hw⟩ := hp
    subst hw
    go_wp2
    go_ret
    exact ⟨by rw [KE2.out]; rfl, by rw [KS2.out]; exact KD.out, Fx.refl _ _⟩
  · have hkf : S.dark = false := by simpa using hk
    have er : rdyE S.dark = 0 := by rw [hkf]; rfl
    rw [er] at KRy
    rw [hkf] at h8
    have KD1 : Kept (Dk (w.setCell ⟨d, 7, none⟩ (.int .i64 (S.count + 1))) B d { S with count := S.count + 1 } n) := ⟨KD.out.setCell 7 _ rfl (fun h => h.fields S.quota S.used S.last (S.count + 1) S.dark)⟩
    have KF1 := Kept.mk (Fx.setCell w d 7 (.int .i64 (S.count + 1)))
    have KG1 : Kept (Gl (w.setCell ⟨d, 7, none⟩ (.int .i64 (S.count + 1)))) := ⟨KG.out.fx KF1.out (fun i hi e => by omega)⟩
    clear er hk
    go_enter Tryz.func37, Tryz.ntmps37
    go_wp2_with fail
    refine Calls.mono KRy.out (fun x w1 hp => ?_)
    obtain ⟨rfl, hw⟩ := hp
    subst hw
    obtain ⟨w2, hw2⟩ : ∃ w2, w1.setCell ⟨d, 7, none⟩ (.int .i64 (S.count + 1)) = w2 := ⟨_, rfl⟩
    rw [hw2] at KD1 KF1 KG1
    have g7 := KD1.out.count
    have g6 := KD1.out.last
    have g8 := KD1.out.blk.frozen 8
    go_upto_region 5 with fail
    clear hw2 h6 h7 h8 f7 f8 KRy e1
    by_cases he : S.count + 1 = S.last
    · have KE2 : Kept (bgE S r L = 13) := ⟨by rw [KE.out, if_neg (by rw [hkf]; decide), if_pos he]⟩
      have hb : (S.count + 1 == S.last) = true := by simpa using he
      have KHe := Kept.mk he
      clear he
      go_quiet (fail)
      obtain ⟨w3, hw3⟩ : ∃ w3, w2.drewN nq = w3 := ⟨_, rfl⟩
      rw [hw3]
      have hb3 : Below w2.heap.size w2 w3 := hw3 ▸ below_drewN (Below.refl _ _) nq
      have KD3 := Kept.mk (KD1.out.later hb3)
      have KF3 := Kept.mk (KF1.out.trans (Fx.ofBelow (S := fun _ => False) hb3 (Nat.le_refl _)) (fun _ _ h => h.elim))
      clear hw3 hb3 g6 g7 g8 KD1 KF1
      have KD2 : Kept (Dk (w3.setCell ⟨d, 8, none⟩ (.bool true)) B d (bgS S) n) := ⟨by
        rw [KS.out, if_neg (by rw [hkf]; decide)]
        refine KD3.out.setCell 8 _ ?_ (fun h => h.fields S.quota S.used S.last (S.count + 1) (decide (S.count + 1 = S.last)))
        simp [St.cs, KHe.out]⟩
      have KF2 := Kept.mk (KF3.out.trans (Fx.setCell w3 d 8 (.bool true)) (fun _ _ h => h))
      have g8 := KD3.out.blk.frozen 8
      have g8c := KD3.out.dark
      go_wp2
      go_ret
      exact ⟨by rw [KE2.out]; rfl, KD2.out, KF2.out⟩
    · have hne : (S.count + 1 == S.last) = false := by simpa using he
      have KS2 : Kept (bgS S = { S with count := S.count + 1 }) := ⟨by rw [KS.out, if_neg (by rw [hkf]; decide), decide_eq_false he, ← hkf]⟩
      rw [← KS2.out] at KD1
      have KRd : Kept (RdS w2 (.slice a L.length c) L) := ⟨KR2.out w2 KF1.out⟩
      have KEr : Kept (bgE S r L = if oneF L = false then 1 else if (S.R (S.count + 1) && r) = true then 11 else 0) := ⟨by rw [KE.out, if_neg (by rw [hkf]; decide), if_neg he]⟩
      clear he
      go_quiet (fail)
      obtain ⟨w2', hw2'⟩ : ∃ w2', w2.drewN nq = w2' := ⟨_, rfl⟩
      rw [hw2']
      have hb2 : Below w2.heap.size w2 w2' := hw2' ▸ below_drewN (Below.refl _ _) nq
      have KB2 := Kept.mk hb2
      have KOf := Kept.mk (oneFolder_any _ L w2' (KG1.out.later hb2) (KRd.out.later hb2 (Nat.le_refl _)) hl)
      clear hw2' hb2
      go_wp2_with fail
      refine Calls.mono KOf.out (fun x w3 hp => ?_)
      obtain ⟨rfl, hb3'⟩ := hp
      have hb3 := KB2.out.trans (hb3'.mono KB2.out.size)
      clear hb3'
      have KD3 := Kept.mk (KD1.out.later hb3)
      have KF3 := Kept.mk (KF1.out.trans (Fx.ofBelow (S := fun _ => False) hb3 (Nat.le_refl _)) (fun _ _ h => h.elim))
      clear hb3 KOf KD1 g6 g7 g8
      cases hO : oneF L with
      | false =>
        have KE2 : Kept (bgE S r L = 1) := ⟨by rw [KEr.out, if_pos hO]⟩
        go_wp2
        go_ret
        exact ⟨by rw [KE2.out]; rfl, KD3.out, KF3.out⟩
      | true =>
        have KE3 : Kept (bgE S r L = if (S.R (S.count + 1) && r) = true then 11 else 0) := ⟨by rw [KEr.out, if_neg (by rw [hO]; decide)]⟩
        have g5 := KD3.out.refuse
        have g7 := KD3.out.count
        rw [KS2.out] at g5 g7
        have glk := KD3.out.bd.mR.look (i := S.count + 1) (by omega) (by omega)
        rw [KS2.out] at glk
        go_upto_region 10 with fail
        have KSk : Kept (∀ W, CC w3 W → W.cell? ⟨d, 5, none⟩ = some (.map S.rb) ∧ W.cell? ⟨d, 7, none⟩ = some (.int .i64 (S.count + 1)) ∧ (Instr.lookup 55 (.map S.rb) (.int .i64 (S.count + 1)) true).run Tryz.prog W = .ok (.tuple #[.agg #[], .bool (S.R (S.count + 1))]) W) := ⟨fun W hW => by
          have hd := KD3.out.later hW
          have k5 := hd.refuse
          have k7 := hd.count
          have kl := hd.bd.mR.look (i := S.count + 1) (by omega) (by omega)
          rw [KS2.out] at k5 k7 kl
          exact ⟨k5, k7, kl⟩⟩
        go_region_held3 (fun W => W.cell? ⟨d, 5, none⟩ = some (.map S.rb) ∧ W.cell? ⟨d, 7, none⟩ = some (.int .i64 (S.count + 1)) ∧ (Instr.lookup 55 (.map S.rb) (.int .i64 (S.count + 1)) true).run Tryz.prog W = .ok (.tuple #[.agg #[], .bool (S.R (S.count + 1))]) W) (exact KSk.out _ (by first | exact Below.refl _ _ | exact (Below.refl _ _).alloc (Nat.le_refl _) _ | exact ((Below.refl _ _).alloc (Nat.le_refl _) _).drew | exact (Below.refl _ _).drew | exact (Below.refl _ _).drew.alloc (Nat.le_refl _) _)) (fail)
        all_goals
          obtain ⟨w4, hw4, hb4⟩ : ∃ w4, (w3.alloc (.cells #[] 60)).drew = w4 ∧ Below w3.heap.size w3 w4 := ⟨_, rfl, ((Below.refl _ _).alloc (Nat.le_refl _) _).drew⟩
          rw [hw4]
          have KD4 := Kept.mk (KD3.out.later hb4)
          have KF4 := Kept.mk (KF3.out.trans (Fx.ofBelow (S := fun _ => False) hb4 (Nat.le_refl _)) (fun _ _ h => h.elim))
          clear hw4 hb4 g5 g7 glk
          cases hR : S.R (S.count + 1) with
          | false =>
            have KE4 : Kept (bgE S r L = 0) := ⟨by rw [KE3.out, hR]; rfl⟩
            go_wp2
            go_ret
            exact ⟨by rw [KE4.out]; rfl, KD4.out, KF4.out⟩
          | true =>
            cases r with
            | false =>
              have KE4 : Kept (bgE S false L = 0) := ⟨by rw [KE3.out, hR]; rfl⟩
              go_wp2
              go_ret
              exact ⟨by rw [KE4.out]; rfl, KD4.out, KF4.out⟩
            | true =>
              have KE4 : Kept (bgE S true L = 11) := ⟨by rw [KE3.out, hR]; rfl⟩
              go_wp2
              go_ret
              exact ⟨by rw [KE4.out]; rfl, KD4.out, KF4.out⟩

open Go.RowKit Go.WideMaps

theorem bgS_N (S : St) : (bgS S).N = S.N := by unfold bgS; split <;> rfl
theorem bgS_bn (S : St) : (bgS S).bn = S.bn := by unfold bgS; split <;> rfl
/-- A call that goes on: its path may be. -/
theorem bg_ok {S : St} {r : Bool} {L : List ByteArray} (h : bgE S r L = 0) : oneF L = true := by
  unfold bgE at h
  split at h
  · exact absurd h (by decide)
  · split at h
    · exact absurd h (by decide)
    · split at h
      · exact absurd h (by decide)
      · rename_i h'
        simpa using h'
theorem oneF_size {L : List ByteArray} (h : oneF L = true) : ∀ p ∈ L, p.size ≤ 200 := by
  intro p hp
  have := List.all_eq_true.1 h p hp
  simp only [Bool.and_eq_true] at this
  exact path_size this.1
def opE (S : St) (L : List ByteArray) (p : ByteArray) : Int := if bgE S true L = 0 then (match S.N p with | none => 7 | some _ => 0) else bgE S true L
def opF (S : St) (L : List ByteArray) (p : ByteArray) : Option Nat := if bgE S true L = 0 then S.N p else none
theorem nmV_get (N : ByteArray → Option Nat) (p : ByteArray) : ((nmV N) p).getD (.pointer none) = ptrV (N p) := by
  unfold nmV ptrV
  cases N p <;> rfl
set_option maxRecDepth 100000 in
set_option maxHeartbeats 2000000 in
theorem open_any (v : Value) (p : ByteArray) (M : List ByteArray) {w : World} {B : Nat → Prop} {d n : Nat} {S : St} (h : Dk w B d S n) (hg : Gl w) (hr : RdS w v (p :: M)) (hl : (p :: M).length ≤ 2) (hlr : ∀ b off k c, v = .slice (some ⟨b, off, none⟩) k c → b ≠ d) (hc0 : 0 ≤ S.count) (hc1 : S.count < 1000000) (hgd : 3 ≤ d) :
    Calls Tryz.prog 40 #[.pointer (some ⟨d, 0, none⟩), v] w fun e w' => e = .returned (.tuple #[ptrV (opF S (p :: M) p), .int .i64 (opE S (p :: M) p)]) ∧ Dk w' B d (bgS S) n ∧ Fx (fun i => i = d) w w' := by
  have KBg := Kept.mk (begin_any true v (p :: M) h hg hr hl hlr hc0 hc1 hgd)
  have KR : Kept (∀ W, Fx (fun i => i = d) w W → RdS W v (p :: M)) := ⟨fun W hW => RdV.fx hr hW (fun b off k c' e e2 => hlr b off k c' e e2)⟩
  obtain ⟨E, hE⟩ : ∃ E, bgE S true (p :: M) = E := ⟨_, rfl⟩
  have KE : Kept (opE S (p :: M) p = if E = 0 then (match S.N p with | none => 7 | some _ => 0) else E) := ⟨by rw [← hE]; rfl⟩
  have KF : Kept (opF S (p :: M) p = if E = 0 then S.N p else none) := ⟨by rw [← hE]; rfl⟩
  have KO : Kept (E = 0 → p.size ≤ 200) := ⟨fun h => oneF_size (bg_ok (hE.trans h)) p (by simp)⟩
  rw [hE] at KBg
  clear hE h hg
  obtain ⟨a, c, rfl, -⟩ := hr
  clear hlr
  rw [List.length_map, List.length_cons] at *
  go_enter Tryz.func40, Tryz.ntmps40
  go_wp2_with fail
  refine Calls.mono KBg.out (fun x w1 hp => ?_)
  obtain ⟨rfl, hd, hf⟩ := hp
  have KD1 := Kept.mk hd
  have KF1 := Kept.mk hf
  clear KBg
  by_cases h0 : E = 0
  · subst h0
    have hps := KO.out rfl
    obtain ⟨a', c', hv, -, h4⟩ := KR.out w1 hf
    injection hv with hv1 hv2 hv3
    subst hv1
    obtain ⟨b, off, rfl, hblt, hrg⟩ := h4 (by simp)
    have hcp : w1.cell? ⟨b, off, none⟩ = some (.string p) := hrg 0 _ rfl
    have KK : Kept (∀ W, CC w1 W → W.cell? ⟨d, 2, none⟩ = some (.map S.bn) ∧ W.cell? ⟨b, off, none⟩ = some (.string p) ∧ (Instr.lookup 53 (.map S.bn) (.string p) false).run Tryz.prog W = .ok (ptrV (S.N p)) W) := ⟨fun W hW => by
      have hd' := hd.later hW
      have k1 := hd'.names
      have k2 := hd'.bd.mN.look Tryz.underlying53 (zero_ptr W) (s := p) (by unfold maxLen; omega)
      rw [bgS_N, nmV_get, bgS_bn] at k2
      rw [bgS_bn] at k1
      exact ⟨k1, by rw [CC.cell hW hblt]; exact hcp, k2⟩⟩
    have KE2 : Kept (opE S (p :: M) p = match S.N p with | none => 7 | some _ => 0) := ⟨by rw [KE.out, if_pos rfl]⟩
    have KF2 : Kept (opF S (p :: M) p = S.N p) := ⟨by rw [KF.out, if_pos rfl]⟩
    clear hd hf hrg h4 hv2 hv3 hps hblt hcp
    obtain ⟨N0, hN0⟩ : ∃ N0, S.N p = N0 := ⟨_, rfl⟩
    rw [hN0] at KK KE2 KF2
    clear hN0
    go_upto_region 4 with fail
    refine wp_region_quietC (C := CC w1) (by kernel_rfl) (by kernel_rfl) (Below.refl _ _).drew ?_
    go_big_quiet_step ((intro _; rfl))
    go_big_quiet_step ((intro _; rfl))
    go_big_quiet_step ((intro _; rfl))
    refine BigFrame.wpQuiet_want rfl (fun K hK => quiet_run (v := .map S.bn) (fun W hW => by have k := (KK.out W hW).1; go_simp) (hK _ ?_))
    clear hK K
    simp only [Act.put, List.setIfInBounds_toArray, List.set_cons_zero, List.set_cons_succ]
    go_big_quiet_step ((intro _; rfl))
    refine BigFrame.wpQuiet_want rfl (fun K hK => quiet_run (v := .pointer (some ⟨b, off, none⟩)) (fun W hW => by go_simp) (hK _ ?_))
    clear hK K
    simp only [Act.put, List.setIfInBounds_toArray, List.set_cons_zero, List.set_cons_succ]
    refine BigFrame.wpQuiet_want rfl (fun K hK => quiet_run (v := .string p) (fun W hW => by have k := (KK.out W hW).2.1; go_simp) (hK _ ?_))
    clear hK K
    simp only [Act.put, List.setIfInBounds_toArray, List.set_cons_zero, List.set_cons_succ]
    refine BigFrame.wpQuiet_want rfl (fun K hK => quiet_run (v := ptrV N0) (fun W hW => by have k := (KK.out W hW).2.2; go_simp) (hK _ ?_))
    clear hK K
    simp only [Act.put, List.setIfInBounds_toArray, List.set_cons_zero, List.set_cons_succ]
    go_big_quiet_step ((intro _; rfl))
    refine wpQuiet_nil ?_
    intro w3 hw3
    have KD3 := Kept.mk (KD1.out.later hw3)
    have KF3 := Kept.mk (KF1.out.trans (Fx.ofBelow (S := fun _ => False) hw3 (Nat.le_refl _)) (fun _ _ h => h.elim))
    clear hw3 KK
    cases N0 with
    | none =>
      unfold ptrV
      go_wp2
      go_ret2
      exact ⟨by rw [KE2.out, KF2.out]; rfl, KD3.out, KF3.out⟩
    | some f =>
      unfold ptrV
      go_wp2
      go_ret2
      exact ⟨by rw [KE2.out, KF2.out]; rfl, KD3.out, KF3.out⟩
  · have KE2 : Kept (opE S (p :: M) p = E) := ⟨by rw [KE.out, if_neg h0]⟩
    have KF2 : Kept (opF S (p :: M) p = none) := ⟨by rw [KF.out, if_neg h0]⟩
    have hb : (E == 0) = false := by simpa using h0
    clear hd hf
    go_wp2
    go_ret2
    exact ⟨by rw [KE2.out, KF2.out]; rfl, KD1.out, KF1.out⟩

open Go.RowKit Go.WideMaps

theorem nmV_upd (N : ByteArray → Option Nat) (p : ByteArray) (x : Option Nat) : upd (nmV N) p (x.map fun f => ptrV (some f)) = nmV (upd N p x) := (upd_map N _ p x).symm
set_option maxRecDepth 100000 in
set_option maxHeartbeats 1000000 in
theorem apply_any (c : Chg) (b n : Nat) (N : ByteArray → Option Nat) (w : World) (hc : c.Ok) (hM : MapAt w (some b) n (nmV N)) (hn : n < 1000000) :
    Calls Tryz.prog 49 #[c.v, .map (some b)] w fun e w' => e = .returned (.tuple #[]) ∧ MapAt w' (some b) (n + 1) (nmV (apl N c)) ∧ Fx (fun i => i = b) w w' := by
  have hg := hc.gone
  have hm := hc.made
  have KC := Kept.mk hc
  obtain ⟨w1, hw1⟩ : ∃ w1, w.alloc (.cells #[.string c.gone, .string c.made, ptrV c.file] 90) = w1 := ⟨_, rfl⟩
  have hB : Bk w1 w.heap.size 90 c.cs := by rw [← hw1]; exact Bk.new w _ _
  have hF1 : Fx (fun _ => False) w w1 := by rw [← hw1]; exact Fx.alloc _ _ _
  have hblt := hM.lt
  have KM1 : Kept (MapAt w1 (some b) n (nmV N)) := ⟨hM.far (fun b' e => by injection e with e; subst e; exact hF1.block _ hblt (fun h => h)) (Nat.le_refl _)⟩
  have KF1 := Kept.mk hF1
  have KB := Kept.mk hB
  have Kblt := Kept.mk hblt
  clear hc hM hF1 hB hblt
  unfold Chg.v
  obtain ⟨g, hgv⟩ : ∃ g, c.gone = g := ⟨_, rfl⟩
  obtain ⟨m, hmv⟩ : ∃ m, c.made = m := ⟨_, rfl⟩
  rw [hgv] at hg hw1 ⊢
  rw [hmv] at hm hw1 ⊢
  have KA : Kept (apl N c = if m.size = 0 then upd N g none else upd (upd N g none) m c.file) := ⟨by
    unfold apl
    rw [← hgv, ← hmv]
    unfold Chg.made Chg.file
    cases hto : c.nw with
    | none => rfl
    | some q =>
      obtain ⟨p, f⟩ := q
      have := (KC.out.nw p f hto).1
      rw [if_neg (by show ¬ p.size = 0; omega)]
      rfl⟩
  have KFi : Kept (m.size ≠ 0 → ∃ f, c.file = some f) := ⟨by
    rw [← hmv]
    unfold Chg.made Chg.file
    cases hto : c.nw with
    | none => intro h; exact absurd rfl h
    | some q => intro _; exact ⟨q.2, rfl⟩⟩
  have c0 : w1.cell? ⟨w.heap.size, 0, none⟩ = some (.string g) := by rw [← hgv]; exact KB.out.cell 0 _ rfl
  go_enter Tryz.func49, Tryz.ntmps49
  have hg2 : g.size ≤ maxLen := by unfold maxLen; omega
  go_upto_region 2 with (at_delete; refine wpList_del _ rfl _ _ 53 70 rfl Tryz.underlying53 (some b) n (nmV N) rfl KM1.out g hg2 rfl ?_; intro w2 hM2 hF2; have KM2 := Kept.mk hM2; have KF2 := Kept.mk hF2; clear hM2 hF2)
  have KF3 : Kept (Fx (fun i => i = b) w w2) := ⟨(KF1.out.weak (S' := fun i => i = b) (fun _ _ h => h.elim)).trans KF2.out (fun i _ e => by injection e with e; exact e.symm)⟩
  have hB2 : Bk w2 w.heap.size 90 c.cs := KB.out.far (KF2.out.block _ KB.out.lt (fun e => by injection e with e; have := Kblt.out; omega))
  have c1 : w2.cell? ⟨w.heap.size, 1, none⟩ = some (.string m) := by rw [← hmv]; exact hB2.cell 1 _ rfl
  have c2 : w2.cell? ⟨w.heap.size, 2, none⟩ = some (ptrV c.file) := hB2.cell 2 _ rfl
  have c0 : w2.cell? ⟨w.heap.size, 0, none⟩ = some (.string g) := by rw [← hgv]; exact hB2.cell 0 _ rfl
  have KM3 : Kept (MapAt w2 (some b) n (nmV (upd N g none))) := ⟨by rw [← nmV_upd]; exact KM2.out⟩
  clear hB2 KM2 KF2
  by_cases h0 : m.size = 0
  · have KA2 : Kept (apl N c = upd N g none) := ⟨by rw [KA.out, if_pos h0]⟩
    have hme : m = ByteArray.empty := by
      apply ByteArray.ext
      exact Array.eq_empty_of_size_eq_zero h0
    have hml : m.toList = [] := by rw [hme, Lib.toList_data]; rfl
    clear h0 hme
    simp only [Act.put]
    go_wp2
    refine bodyPost_end (results_none rfl _ _ _) rfl ?_
    exact ⟨rfl, by rw [KA2.out]; exact KM3.out.far (fun _ _ => rfl) (Nat.le_succ _), KF3.out⟩
  · obtain ⟨f, hf⟩ := KFi.out h0
    have KA2 : Kept (apl N c = upd (upd N g none) m (some f)) := ⟨by rw [KA.out, if_neg h0, hf]⟩
    rw [hf] at c2
    have hml : (m.toList == []) = false := by
      cases he : m.toList with
      | nil => 
        have : m.size = 0 := by rw [Lib.size_eq, ← Lib.toList_data, he]; rfl
        exact absurd this h0
      | cons a l => rfl
    have hm2 : m.size ≤ maxLen := by unfold maxLen; omega
    have hn2 : n < maxLen := by unfold maxLen; omega
    clear h0 hf
    simp only [Act.put]
    go_wp2_with (at_mapUpdate; refine wpList_put _ rfl _ _ _ 53 70 rfl Tryz.underlying53 b n _ rfl KM3.out hn2 m hm2 _ rfl rfl ?_; intro w3 hM3 hF3'; have KM4 := Kept.mk hM3; have KF4 := Kept.mk hF3'; clear hM3 hF3')
    refine bodyPost_end (results_none rfl _ _ _) rfl ?_
    exact ⟨rfl, by rw [KA2.out, ← nmV_upd]; exact KM4.out, KF3.out.trans KF4.out (fun _ _ h => h)⟩
/-- The blocks of a disk and the new ones. -/
def Gr (B : Nat → Prop) (w : World) : Nat → Prop := fun i => B i ∨ w.heap.size ≤ i
theorem Bd.setd {w : World} {B : Nat → Prop} {S : St} {n d : Nat} {cs : List Value} (h : Bd w B S n) (hb : Bk w d 59 cs) (j : Nat) (u : Value) : Bd (w.setCell ⟨d, j, none⟩ u) B S n :=
  h.far (fun i _ _ => by
    by_cases e : i = d
    · subst e; exact .inr ⟨_, hb⟩
    · exact .inl (Below.heap_setCell _ _ _ _ e)) (fun _ _ h => h) (Nat.le_refl _)
/-- A disk's state, but for where its pieces lie. -/
structure Ps where
  quota : Int
  used : Int
  last : Int
  count : Int
  dark : Bool
  N : ByteArray → Option Nat
  L : ByteArray → Option Nat
  C : ByteArray → List Chg
  R : Int → Bool
  F : Nat → Option (List Int × Nat)
def St.ps (S : St) : Ps := ⟨S.quota, S.used, S.last, S.count, S.dark, S.N, S.L, fun p => ((S.C p).map Prod.snd).getD [], S.R, fun f => (S.F f).map fun c => (c.xs, c.s)⟩
theorem map_none {N : ByteArray → Option Nat} (h : ∀ s, nmV N s = none) : nmV N = fun _ => none := funext h
/-- A disk whose maps are made. -/
theorem Bd.laid {w w1 : World} {B : Nat → Prop} {S : St} {n : Nat} (h : Bd w B S n) (hn : S.bn = none) {a b c : Nat} (hb : Below w.heap.size w w1) (ha : w.heap.size ≤ a) (hab : a ≠ b) (hac : a ≠ c) (hbc : b ≠ c) (hbb : w.heap.size ≤ b) (hcc : w.heap.size ≤ c)
    (ma : MapAt w1 (some a) n (fun _ => none)) (mb : MapAt w1 (some b) n (fun _ => none)) (mc : MapAt w1 (some c) n (fun _ => none)) : Bd w1 (Gr B w) { S with bn := some a, bl := some b, bp := some c } n := by
  have hl := h.nl.1.1 hn
  have hp := h.nl.2.1 hn
  have h1 : Bd w1 (Gr B w) S n := h.far (fun i hi _ => .inl (hb.block i hi)) (fun i _ h => .inl h) (Nat.le_refl _)
  have hrb : ∀ x, S.rb = some x → x < w.heap.size := fun x hx => by have := h.mR; rw [hx] at this; exact this.lt
  have kN : nmV S.N = fun _ => none := by have := h.mN; rw [hn] at this; exact funext this
  have kL : nmV S.L = fun _ => none := by have := h.mL; rw [hl] at this; exact funext this
  have kC : rwV S.C = fun _ => none := by have := h.mC; rw [hp] at this; exact funext this
  exact {
    mN := by show MapAt w1 (some a) n (nmV S.N); rw [kN]; exact ma
    mL := by show MapAt w1 (some b) n (nmV S.L); rw [kL]; exact mb
    mC := by show MapAt w1 (some c) n (rwV S.C); rw [kC]; exact mc
    mR := h1.mR
    bB := fun x hx => by
      rcases hx with e | e | e | e
      · injection e with e; exact .inr (by omega)
      · injection e with e; exact .inr (by omega)
      · injection e with e; exact .inr (by omega)
      · exact h1.bB x (.inr (.inr (.inr e)))
    sp := fun x => ⟨fun e => by
      injection e with e
      exact ⟨fun h => by injection h with h; omega, fun h => by injection h with h; omega, fun h => by have := hrb x h; omega⟩, fun e => by
      injection e with e
      exact ⟨fun h => by injection h with h; omega, fun h => by have := hrb x h; omega⟩, fun e h => by
      injection e with e
      have := hrb x h
      omega⟩
    nl := ⟨⟨fun h => (nomatch h), fun h => (nomatch h)⟩, ⟨fun h => (nomatch h), fun h => (nomatch h)⟩⟩
    fl := h1.fl, fA := h1.fA, nF := h1.nF, lF := h1.lF, cF := h1.cF, rw := h1.rw, rA := h1.rA, kz := h1.kz }
set_option maxRecDepth 100000 in
set_option maxHeartbeats 1000000 in
theorem lay_any {w : World} {B : Nat → Prop} {d n : Nat} {S : St} (h : Dk w B d S n) :
    Calls Tryz.prog 25 #[.pointer (some ⟨d, 0, none⟩)] w fun e w' => e = .returned (.tuple #[]) ∧ ∃ S', Dk w' (Gr B w) d S' n ∧ S'.ps = S.ps ∧ S'.bn ≠ none ∧ S'.F = S.F ∧ S'.C = S.C ∧ Fx (fun i => i = d) w w' ∧ S'.m = S.m := by
  have h2 := h.names
  have hmm := @run_makeMap Tryz.prog
  have hq := fun w p => run_eql_map_nil_sl (P := Tryz.prog) w 53 _ _ p Tryz.underlying53
  have f2 := h.blk.frozen 2
  have KD := Kept.mk h
  clear h
  cases hn : S.bn with
  | some b =>
    rw [hn] at h2
    have KN : Kept (S.bn ≠ none) := ⟨by rw [hn]; exact fun h => nomatch h⟩
    clear hn
    go_enter Tryz.func25, Tryz.ntmps25
    go_wp2
    refine bodyPost_end (results_none rfl _ _ _) rfl ?_
    exact ⟨rfl, S, KD.out.far (fun _ _ _ => rfl) (fun _ _ h => .inl h) (Nat.le_refl _), rfl, KN.out, rfl, rfl, Fx.refl _ _, rfl⟩
  | none =>
    rw [hn] at h2
    have KN := Kept.mk hn
    obtain ⟨w1, hw1⟩ : ∃ w1, ((w.alloc (.map #[] 0)).alloc (.map #[] 0)).alloc (.map #[] 0) = w1 := ⟨_, rfl⟩
    have hb1 : Below w.heap.size w w1 := by
      rw [← hw1]
      exact (((Below.refl _ _).alloc (Nat.le_refl _) _).alloc (by simp) _).alloc (by simp; omega) _
    have m1 : MapAt w1 (some w.heap.size) n (fun _ => none) := by
      rw [← hw1]
      refine (MapAt.made w n).far (fun b e => ?_) (Nat.le_refl _)
      injection e with e
      subst e
      exact ((((Below.refl _ (w.alloc (.map #[] 0))).alloc (Nat.le_refl _) _).alloc (by simp) _).block _ (by simp))
    have m2 : MapAt w1 (some (w.heap.size + 1)) n (fun _ => none) := by
      rw [← hw1]
      have hm := MapAt.made (w.alloc (.map #[] 0)) n
      have e1 : (w.alloc (.map #[] 0)).heap.size = w.heap.size + 1 := by simp
      rw [e1] at hm
      refine hm.far (fun b e => ?_) (Nat.le_refl _)
      injection e with e
      subst e
      exact ((Below.refl _ ((w.alloc (.map #[] 0)).alloc (.map #[] 0))).alloc (Nat.le_refl _) _).block _ (by simp)
    have m3 : MapAt w1 (some (w.heap.size + 1 + 1)) n (fun _ => none) := by
      rw [← hw1]
      have hm := MapAt.made ((w.alloc (.map #[] 0)).alloc (.map #[] 0)) n
      have e1 : ((w.alloc (.map #[] 0)).alloc (.map #[] 0)).heap.size = w.heap.size + 1 + 1 := by simp
      rw [e1] at hm
      exact hm
    have hbd := KD.out.bd.laid KN.out hb1 (Nat.le_refl _) (by omega) (by omega) (by omega) (by omega) (by omega) m1 m2 m3
    have hk1 : Bk w1 d 59 S.cs := KD.out.blk.far (hb1.block _ KD.out.blk.lt)
    have f2' := hk1.frozen 2
    have k2 := hk1.cell 2 _ rfl
    obtain ⟨w2, hw2⟩ : ∃ w2, w1.setCell ⟨d, 2, none⟩ (.map (some w.heap.size)) = w2 := ⟨_, rfl⟩
    have hk2 : Bk w2 d 59 (S.cs.set 2 (.map (some w.heap.size))) := by rw [← hw2]; exact hk1.set 2 _
    have hbd2 := hbd.setd hk1 2 (.map (some w.heap.size))
    rw [hw2] at hbd2
    have f3 := hk2.frozen 3
    have k3 := hk2.cell 3 _ rfl
    obtain ⟨w3, hw3⟩ : ∃ w3, w2.setCell ⟨d, 3, none⟩ (.map (some (w.heap.size + 1))) = w3 := ⟨_, rfl⟩
    have hk3 : Bk w3 d 59 ((S.cs.set 2 (.map (some w.heap.size))).set 3 (.map (some (w.heap.size + 1)))) := by rw [← hw3]; exact hk2.set 3 _
    have hbd3 := hbd2.setd hk2 3 (.map (some (w.heap.size + 1)))
    rw [hw3] at hbd3
    have f4 := hk3.frozen 4
    have k4 := hk3.cell 4 _ rfl
    obtain ⟨w4, hw4⟩ : ∃ w4, w3.setCell ⟨d, 4, none⟩ (.map (some (w.heap.size + 1 + 1))) = w4 := ⟨_, rfl⟩
    have hk4 : Bk w4 d 59 (((S.cs.set 2 (.map (some w.heap.size))).set 3 (.map (some (w.heap.size + 1)))).set 4 (.map (some (w.heap.size + 1 + 1)))) := by rw [← hw4]; exact hk3.set 4 _
    have hbd4 := hbd3.setd hk3 4 (.map (some (w.heap.size + 1 + 1)))
    rw [hw4] at hbd4
    have KDk : Kept (Dk w4 (Gr B w) d { S with bn := some w.heap.size, bl := some (w.heap.size + 1), bp := some (w.heap.size + 1 + 1) } n) := ⟨⟨hk4, .inl KD.out.inB, hbd4⟩⟩
    have KFx : Kept (Fx (fun i => i = d) w w4) := ⟨by
      rw [← hw4, ← hw3, ← hw2]
      exact (((Fx.ofBelow (S := fun i => i = d) hb1 (Nat.le_refl _)).trans (Fx.setCell w1 d 2 _) (fun _ _ h => h)).trans (Fx.setCell _ d 3 _) (fun _ _ h => h)).trans (Fx.setCell _ d 4 _) (fun _ _ h => h)⟩
    clear hn hb1 m1 m2 m3 hbd hk1 hk2 hbd2 hk3 hbd3 hk4 hbd4
    go_enter Tryz.func25, Tryz.ntmps25
    go_wp2
    refine bodyPost_end (results_none rfl _ _ _) rfl ?_
    exact ⟨rfl, _, KDk.out, rfl, (fun h => nomatch h), rfl, rfl, KFx.out, rfl⟩

open Go.RowKit Go.WideMaps

/-- What is not a map stays where only a map is turned. -/
theorem cells_far {w w' : World} {B : Nat → Prop} {b : Nat} (hb : ∃ es k, w.heap[b]? = some (.map es k)) (hF : ∀ i, i < w.heap.size → B i → i ≠ b → w'.heap[i]? = w.heap[i]?) {g : Nat} {cs : Array Value} {e : TypeId} {q : Nat × Nat} (hg : w.heap[g]? = some (.cells cs e q)) (hBg : B g) : w'.heap[g]? = w.heap[g]? := by
  refine hF g (Array.getElem?_eq_some_iff.1 hg).1 hBg (fun e' => ?_)
  obtain ⟨es, k, hm⟩ := hb
  subst e'
  rw [hm] at hg
  injection hg with hg
  cases hg
theorem MapAt.isMap {w : World} {b n : Nat} {f : ByteArray → Option Value} (h : MapAt w (some b) n f) : ∃ es k, w.heap[b]? = some (.map es k) := by
  obtain ⟨D, ⟨es, k, h1, -⟩, -⟩ := h
  exact ⟨es, k, h1⟩
/-- The files and rows of a disk stay where only a map is turned. -/
theorem Bd.kept {w w' : World} {B : Nat → Prop} {S : St} {n b : Nat} (h : Bd w B S n) (hb : ∃ es k, w.heap[b]? = some (.map es k)) (hF : ∀ i, i < w.heap.size → B i → i ≠ b → w'.heap[i]? = w.heap[i]?) :
    (∀ f c, S.F f = some c → FileAt w' B f c) ∧ (∀ p v l, S.C p = some (v, l) → RowC w' B v l ∧ l.length ≤ S.m) := by
  refine ⟨fun f c hf => ?_, fun p v l hp => ?_⟩
  · have hx := h.fl f c hf
    refine hx.far (cells_far hb hF hx.blk hx.inB) (fun g hg => ?_) (fun _ _ h => h)
    obtain ⟨cur, hcur⟩ := ownsRow_blk hx.own hg
    exact cells_far hb hF hcur (hx.ownB g hg)
  · have hx := h.rw p v l hp
    refine ⟨hx.1.far (fun g hg => ?_) (fun _ _ h => h), hx.2⟩
    obtain ⟨cur, hcur⟩ := ownsRow_blk hx.1.own hg
    exact cells_far hb hF hcur (hx.1.ownB g hg)
theorem MapAt.at {w : World} {mb : Option Nat} {b n : Nat} {f : ByteArray → Option Value} (h : MapAt w mb n f) (e : mb = some b) : MapAt w (some b) n f := e ▸ h
/-- Another map stays. -/
theorem MapAt.past {w w' : World} {B : Nat → Prop} {mb : Option Nat} {b n m : Nat} {f : ByteArray → Option Value} (h : MapAt w mb n f) (hne : mb ≠ some b) (hB : ∀ x, mb = some x → B x) (hF : ∀ i, i < w.heap.size → B i → i ≠ b → w'.heap[i]? = w.heap[i]?) (hn : n ≤ m) : MapAt w' mb m f :=
  h.far (fun x e => hF x (by subst e; exact h.lt) (hB x e) (fun e' => hne (by rw [e, e']))) hn
theorem RefAt.past {w w' : World} {B : Nat → Prop} {mb : Option Nat} {b n m : Nat} {f : Int → Bool} (h : RefAt w mb n f) (hne : mb ≠ some b) (hB : ∀ x, mb = some x → B x) (hF : ∀ i, i < w.heap.size → B i → i ≠ b → w'.heap[i]? = w.heap[i]?) (hn : n ≤ m) : RefAt w' mb m f :=
  h.far (fun x e => hF x (by subst e; exact h.lt) (hB x e) (fun e' => hne (by rw [e, e']))) hn
theorem Fx.one {w w' : World} {b : Nat} {B : Nat → Prop} (h : Fx (fun i => i = b) w w') : ∀ i, i < w.heap.size → B i → i ≠ b → w'.heap[i]? = w.heap[i]? := fun i hi _ hne => h.block i hi hne
theorem Bd.setN {w w' : World} {B : Nat → Prop} {S : St} {n b : Nat} (h : Bd w B S n) (hb : S.bn = some b) (N' : ByteArray → Option Nat) (hM : MapAt w' (some b) (n + 1) (nmV N')) (hF : Fx (fun i => i = b) w w') (hex : ∀ p f, N' p = some f → ∃ c, S.F f = some c) (hk : ∀ p, N' p ≠ none → p.size ≤ 200) : Bd w' B { S with N := N' } (n + 1) := by
  have hk1 := h.kept (h.mN.at hb).isMap hF.one
  have s := h.sp b
  exact {
    mN := by show MapAt w' S.bn (n + 1) (nmV N'); rw [hb]; exact hM
    mL := h.mL.past (s.1 hb).1 (fun x e => h.bB x (.inr (.inl e))) hF.one (Nat.le_succ n)
    mC := h.mC.past (s.1 hb).2.1 (fun x e => h.bB x (.inr (.inr (.inl e)))) hF.one (Nat.le_succ n)
    mR := h.mR.past (s.1 hb).2.2 (fun x e => h.bB x (.inr (.inr (.inr e)))) hF.one (Nat.le_succ n)
    bB := h.bB, sp := h.sp, nl := h.nl, fl := hk1.1, fA := h.fA, nF := hex, lF := h.lF, cF := h.cF, rw := hk1.2, rA := h.rA
    kz := fun p hp => by
      rcases hp with h' | h' | h'
      · exact hk p h'
      · exact h.kz p (.inr (.inl h'))
      · exact h.kz p (.inr (.inr h')) }
theorem Bd.setL {w w' : World} {B : Nat → Prop} {S : St} {n b : Nat} (h : Bd w B S n) (hb : S.bl = some b) (N' : ByteArray → Option Nat) (hM : MapAt w' (some b) (n + 1) (nmV N')) (hF : Fx (fun i => i = b) w w') (hex : ∀ p f, N' p = some f → ∃ c, S.F f = some c) (hk : ∀ p, N' p ≠ none → p.size ≤ 200) : Bd w' B { S with L := N' } (n + 1) := by
  have hk1 := h.kept (h.mL.at hb).isMap hF.one
  have s := h.sp b
  exact {
    mL := by show MapAt w' S.bl (n + 1) (nmV N'); rw [hb]; exact hM
    mN := h.mN.past (fun e => (s.1 e).1 hb) (fun x e => h.bB x (.inl e)) hF.one (Nat.le_succ n)
    mC := h.mC.past (s.2.1 hb).1 (fun x e => h.bB x (.inr (.inr (.inl e)))) hF.one (Nat.le_succ n)
    mR := h.mR.past (s.2.1 hb).2 (fun x e => h.bB x (.inr (.inr (.inr e)))) hF.one (Nat.le_succ n)
    bB := h.bB, sp := h.sp, nl := h.nl, fl := hk1.1, fA := h.fA, nF := h.nF, lF := hex, cF := h.cF, rw := hk1.2, rA := h.rA
    kz := fun p hp => by
      rcases hp with h' | h' | h'
      · exact h.kz p (.inl h')
      · exact hk p h'
      · exact h.kz p (.inr (.inr h')) }
/-- A disk's own block lies where no map is. -/
theorem Dk.past {w w' : World} {B : Nat → Prop} {S S' : St} {d n m b : Nat} (h : Dk w B d S n) (hb : ∃ es k, w.heap[b]? = some (.map es k)) (hF : Fx (fun i => i = b) w w') (hcs : S.cs = S'.cs) (hbd : Bd w' B S' m) : Dk w' B d S' m :=
  ⟨by rw [← hcs]; exact h.blk.far (cells_far (B := B) hb hF.one h.blk h.inB), h.inB, hbd⟩
theorem apl_some {N : ByteArray → Option Nat} {c : Chg} {p : ByteArray} {f : Nat} (h : apl N c p = some f) : N p = some f ∨ c.nw = some (p, f) := by
  unfold apl at h
  cases hc : c.nw with
  | none =>
    rw [hc] at h
    simp only [upd] at h
    split at h
    · cases h
    · exact .inl h
  | some q =>
    obtain ⟨p', f'⟩ := q
    rw [hc] at h
    simp only [upd] at h
    split at h
    · rename_i e
      subst e
      injection h with h
      subst h
      exact .inr rfl
    · split at h
      · cases h
      · exact .inl h
theorem apl_size {N : ByteArray → Option Nat} {c : Chg} (hN : ∀ p, N p ≠ none → p.size ≤ 200) (hc : c.Ok) : ∀ p, apl N c p ≠ none → p.size ≤ 200 := by
  intro p hp
  cases h : apl N c p with
  | none => exact absurd h hp
  | some f =>
    rcases apl_some h with h' | h'
    · exact hN p (by rw [h']; exact fun h => nomatch h)
    · exact (hc.nw p f h').2
theorem apl_ex {N : ByteArray → Option Nat} {c : Chg} {F : Nat → Option FileC} (hN : ∀ p f, N p = some f → ∃ e, F f = some e) (hc : ∀ f, c.file = some f → ∃ e, F f = some e) : ∀ p f, apl N c p = some f → ∃ e, F f = some e := by
  intro p f h
  rcases apl_some h with h' | h'
  · exact hN p f h'
  · exact hc f (by unfold Chg.file; rw [h']; rfl)
/-- The names of a disk behind a change. -/
theorem Dk.applied {w w' : World} {B : Nat → Prop} {S : St} {d n b : Nat} (h : Dk w B d S n) (hb : S.bn = some b) {c : Chg} (hc : c.Ok) (hex : ∀ f, c.file = some f → ∃ e, S.F f = some e) (hM : MapAt w' (some b) (n + 1) (nmV (apl S.N c))) (hF : Fx (fun i => i = b) w w') : Dk w' B d { S with N := apl S.N c } (n + 1) :=
  h.past (h.bd.mN.at hb).isMap hF rfl (h.bd.setN hb _ hM hF (apl_ex h.bd.nF hex) (apl_size (fun p hp => h.bd.kz p (.inl hp)) hc))
theorem Dk.lasted {w w' : World} {B : Nat → Prop} {S : St} {d n b : Nat} (h : Dk w B d S n) (hb : S.bl = some b) {c : Chg} (hc : c.Ok) (hex : ∀ f, c.file = some f → ∃ e, S.F f = some e) (hM : MapAt w' (some b) (n + 1) (nmV (apl S.L c))) (hF : Fx (fun i => i = b) w w') : Dk w' B d { S with L := apl S.L c } (n + 1) :=
  h.past (h.bd.mL.at hb).isMap hF rfl (h.bd.setL hb _ hM hF (apl_ex h.bd.lF hex) (apl_size (fun p hp => h.bd.kz p (.inr (.inl hp))) hc))

open Go.RowKit Go.WideMaps

theorem rwV_upd (C : ByteArray → Option (Value × List Chg)) (p : ByteArray) (x : Option (Value × List Chg)) : upd (rwV C) p (x.map Prod.fst) = rwV (upd C p x) := (upd_map C _ p x).symm
/-- A block of cells is none of another type, and no map. -/
theorem type_ne {w : World} {g h : Nat} {cs ds : Array Value} {e k : TypeId} {q r : Nat × Nat} (hg : w.heap[g]? = some (.cells cs e q)) (hh : w.heap[h]? = some (.cells ds k r)) (hne : e ≠ k) : g ≠ h := fun e' => by
  subst e'
  rw [hg] at hh
  injection hh with hh
  injection hh with _ hh
  exact hne hh
theorem Bd.setC {w w2 w3 : World} {B : Nat → Prop} {S : St} {n b : Nat} (h : Bd w B S n) (hb : S.bp = some b) {p : ByteArray} (hp : p.size ≤ 200) {v v' : Value} {l : List Chg} {c : Chg} (hv : S.C p = some (v, l) ∨ (S.C p = none ∧ v = .slice none 0 0 ∧ l = [])) (hc : c.Ok) (hex : ∀ f, c.file = some f → ∃ e, S.F f = some e)
    (hsz : w.heap.size ≤ w2.heap.size) (hk : ∀ i, i < w.heap.size → v.ownBlock ≠ some i → w2.heap[i]? = w.heap[i]?) (hrow : w2.ownsRow 0 90 3 v' (l ++ [c]).length ((l ++ [c]).flatMap Chg.cs)) (hvb : v'.ownBlock = v.ownBlock ∨ ∃ g, v'.ownBlock = some g ∧ w.heap.size ≤ g)
    (hM : MapAt w3 (some b) (n + 1) (upd (rwV S.C) p (some v'))) (hF : Fx (fun i => i = b) w2 w3) : Bd w3 (Gr B w) { S with C := upd S.C p (some (v', l ++ [c])), m := S.m + 1 } (n + 1) := by
  have s := h.sp b
  have hbp := h.mC.at hb
  -- the row that was there
  have hvr : ∀ g, v.ownBlock = some g → ∃ cur, w.heap[g]? = some (.cells cur 90 (0, 0)) := fun g hg => by
    rcases hv with hv | ⟨-, hv, -⟩
    · exact ownsRow_blk (h.rw p v l hv).1.own hg
    · subst hv; cases hg
  have hl : ∀ x ∈ l, x.Ok := fun x hx => by
    rcases hv with hv | ⟨-, -, hv⟩
    · exact (h.rw p v l hv).1.ok x hx
    · subst hv; cases hx
  have hlen : l.length ≤ S.m := by
    rcases hv with hv | ⟨-, -, hv⟩
    · exact (h.rw p v l hv).2
    · subst hv; exact Nat.zero_le _
  have hlf : ∀ x ∈ l, ∀ f, x.file = some f → ∃ e, S.F f = some e := fun x hx f hf => by
    rcases hv with hv | ⟨-, -, hv⟩
    · exact h.cF p v l x f hv hx hf
    · subst hv; cases hx
  have hB : ∀ i, i < w.heap.size → B i → Gr B w i := fun _ _ h => .inl h
  -- blocks that stay
  have hst : ∀ i, i < w.heap.size → v.ownBlock ≠ some i → i ≠ b → w3.heap[i]? = w.heap[i]? := fun i hi h1 h2 => by
    rw [hF.block i (by omega) h2]
    exact hk i hi h1
  have hcell : ∀ {g : Nat} {cs : Array Value} {e : TypeId} {q : Nat × Nat}, w.heap[g]? = some (.cells cs e q) → v.ownBlock ≠ some g → w3.heap[g]? = w.heap[g]? := fun {g cs e q} hg h1 => hst g (Array.getElem?_eq_some_iff.1 hg).1 h1 (fun e' => by subst e'; exact absurd hg hbp.notBk)
  have hother : ∀ {g : Nat} {cs : Array Value} {e : TypeId} {q : Nat × Nat}, w.heap[g]? = some (.cells cs e q) → e ≠ 90 → w3.heap[g]? = w.heap[g]? := fun {g cs e q} hg he => hcell hg (fun h1 => by
    obtain ⟨cur, hcur⟩ := hvr g h1
    exact type_ne hg hcur he rfl)
  have hmap : ∀ {mb f}, MapAt w mb n f → mb ≠ some b → MapAt w3 mb (n + 1) f := fun {mb f} hM0 hne => hM0.far (fun x e => by
    subst e
    refine hst x hM0.lt (fun h1 => ?_) (fun e' => hne (by rw [e']))
    obtain ⟨cur, hcur⟩ := hvr x h1
    exact hM0.notBk hcur) (Nat.le_succ n)
  have hnew : RowC w3 (Gr B w) v' (l ++ [c]) := by
    refine ⟨ownsRow_far hrow (fun g hg => ?_), fun g hg => ?_, fun x hx => ?_, by simp⟩
    · obtain ⟨cur, hcur⟩ := ownsRow_blk hrow hg
      refine hF.block g (ownsRow_lt hrow hg) (fun e' => ?_)
      subst e'
      obtain ⟨es, k, hm⟩ := hbp.isMap
      rcases hvb with e | ⟨g', hg', hle⟩
      · rw [hg] at e
        obtain ⟨cur', hcur'⟩ := hvr g e.symm
        rw [hm] at hcur'
        injection hcur' with hcur'
        cases hcur'
      · rw [hg] at hg'
        injection hg' with hg'
        subst hg'
        have := hbp.lt
        omega
    · rcases hvb with e | ⟨g', hg', hle⟩
      · rw [hg] at e
        rcases hv with hv | ⟨-, hv, -⟩
        · exact .inl ((h.rw p v l hv).1.ownB g e.symm)
        · subst hv; cases e
      · rw [hg] at hg'
        injection hg' with hg'
        subst hg'
        exact .inr hle
    · rcases List.mem_append.1 hx with hx | hx
      · exact hl x hx
      · simp at hx; subst hx; exact hc
  have hother_rows : ∀ q u m, q ≠ p → S.C q = some (u, m) → ∀ g, u.ownBlock = some g → v.ownBlock ≠ some g := fun q u m hq hqm g hg h1 => by
    rcases hv with hv | ⟨-, hv, -⟩
    · exact h.rA q p u v m l g hq hqm hv hg h1
    · subst hv; cases h1
  exact {
    mN := hmap h.mN (fun e => (s.1 e).2.1 hb)
    mL := hmap h.mL (fun e => (s.2.1 e).1 hb)
    mC := by show MapAt w3 S.bp (n + 1) (rwV _); rw [hb, ← rwV_upd]; exact hM
    mR := h.mR.far (fun x e => by
      have hR := h.mR
      rw [e] at hR
      refine hst x hR.lt (fun h1 => ?_) (fun e' => s.2.2 hb (by rw [e, e']))
      obtain ⟨cur, hcur⟩ := hvr x h1
      exact hR.notBk hcur) (Nat.le_succ n)
    bB := fun x hx => .inl (h.bB x hx)
    sp := h.sp, nl := h.nl
    fl := fun f e hf => (h.fl f e hf).far (hother (h.fl f e hf).blk (by decide)) (fun g hg => by
      obtain ⟨cur, hcur⟩ := ownsRow_blk (h.fl f e hf).own hg
      exact hother hcur (by decide)) hB
    fA := h.fA, nF := h.nF, lF := h.lF
    cF := fun q u m x f hq hx hf => by
      by_cases e : q = p
      · subst e
        simp only [upd_same, Option.some.injEq, Prod.mk.injEq] at hq
        obtain ⟨rfl, rfl⟩ := hq
        rcases List.mem_append.1 hx with hx | hx
        · exact hlf x hx f hf
        · simp at hx; subst hx; exact hex f hf
      · simp only [upd_other _ _ e] at hq
        exact h.cF q u m x f hq hx hf
    rw := fun q u m hq => by
      by_cases e : q = p
      · subst e
        simp only [upd_same, Option.some.injEq, Prod.mk.injEq] at hq
        obtain ⟨rfl, rfl⟩ := hq
        exact ⟨hnew, by rw [List.length_append, List.length_singleton]; show l.length + 1 ≤ S.m + 1; omega⟩
      · simp only [upd_other _ _ e] at hq
        refine ⟨(h.rw q u m hq).1.far (fun g hg => ?_) hB, Nat.le_trans (h.rw q u m hq).2 (Nat.le_succ S.m)⟩
        obtain ⟨cur, hcur⟩ := ownsRow_blk (h.rw q u m hq).1.own hg
        exact hcell hcur (hother_rows q u m e hq g hg)
    rA := fun q q' u u' m m' r hne hq hq' hr hr' => by
      by_cases e : q = p
      · subst e
        have e2 : q' ≠ q := fun h => hne h.symm
        simp only [upd_same, Option.some.injEq, Prod.mk.injEq] at hq
        obtain ⟨rfl, rfl⟩ := hq
        simp only [upd_other _ _ e2] at hq'
        rcases hvb with e3 | ⟨g', hg', hle⟩
        · rw [hr] at e3
          exact hother_rows q' u' m' e2 hq' r hr' e3.symm
        · rw [hr] at hg'
          injection hg' with hg'
          subst hg'
          have := ownsRow_lt (h.rw q' u' m' hq').1.own hr'
          omega
      · simp only [upd_other _ _ e] at hq
        by_cases e2 : q' = p
        · subst e2
          simp only [upd_same, Option.some.injEq, Prod.mk.injEq] at hq'
          obtain ⟨rfl, rfl⟩ := hq'
          rcases hvb with e3 | ⟨g', hg', hle⟩
          · rw [hr'] at e3
            exact hother_rows q u m e hq r hr e3.symm
          · rw [hr'] at hg'
            injection hg' with hg'
            subst hg'
            have := ownsRow_lt (h.rw q u m hq).1.own hr
            omega
        · simp only [upd_other _ _ e2] at hq'
          exact h.rA q q' u u' m m' r hne hq hq' hr hr'
    kz := fun q hq => by
      by_cases e : q = p
      · subst e; exact hp
      · simp only [upd_other _ _ e] at hq
        exact h.kz q hq }

open Go.RowKit Go.WideMaps

theorem quiet_load_mid {P : Program} {C : World → Prop} {K : Act → Prop} {o : Oper} {a : Act} (ty : TypeId) (x : Operand) (ho : o.op = .load ty x)
    (b off : Nat) (hx : a.eval x = .pointer (some ⟨b, off, none⟩)) (cs : List Value) (d : TypeDesc) (hc : ∀ w, C w → w.rangeAt b off cs)
    (hu : P.underlying ty = some d) (hd : d.isRow = true) (hi : (P.info? ty).map (·.size) = some cs.length) (hk : K (a.put o.dst (.agg cs.toArray))) : o.quiet P a C K :=
  quiet_run (fun w hw => by
    unfold execOp
    simp only [ho, hx, Instr.loadAt, Instr.sureAddr, Sem.run_bind, Sem.run_pure, Result.andThen_ok, run_loadVar_mid w b off ty cs d (hc w hw) hu hd hi]) hk
theorem wpAnyH_takeD {P : Program} {md : Region.Mode} {ops : Array Oper} {Q : Exit → Act → World → Prop} {S : World → Prop} {i : Nat} {oi : Oper} {d : Option Tmp} {v : Value} {fuel : Nat} {listed : Array Bool} {a : Act} {w : World} (hi : ops[i]? = some oi) (hd : oi.dst = d)
    (hs : Region.noSelect ops = true) (hf : Region.free md ops listed i = true) (hr : (Region.ready md ops listed).contains i = true)
    (hQ : ∀ c a w, Q (.panic c) (a.put oi.dst v) w → Q (.panic c) a w) (hy : YieldsIf P ops S oi v a) (hS : S w)
    (h : wpAnyH P md ops Q S fuel (listed.setIfInBounds i true) (a.put d v) w) : wpAnyH P md ops Q S (fuel + 1) listed a w := by
  subst hd
  exact wpAnyH_take hi hs hf hr hQ hy hS h
set_option maxRecDepth 100000 in
theorem infoC : ∃ i z, Tryz.prog.info? 90 = some i ∧ i.zero = some z ∧ i.size = 3 ∧ i.bytes = 40 ∧ z.cells.size = 3 := ⟨_, _, rfl, rfl, rfl, rfl, rfl⟩
theorem Chg.ones (c : Chg) : ∀ u ∈ c.cs, u.oneCell' = true := by
  intro u hu
  unfold Chg.cs ptrV at hu
  simp only [List.mem_cons, List.not_mem_nil, or_false] at hu
  rcases hu with rfl | rfl | rfl <;> rfl
section
variable {o : Oper} {a : Act} {w : World} {K : Act → World → Prop} {Q : Exit → Act → World → Prop}
set_option maxRecDepth 100000 in
/-- append of one change that lies in a block of its own. -/
theorem wp_append_C (s x : Operand) (ho : o.op = .call { callee := .builtin .append, args := #[s, x], argTypes := #[100, 100] })
    (v : Value) (l : List Chg) (hsv : a.eval s = v) (hown : w.ownsRow 0 90 3 v l.length (l.flatMap Chg.cs)) (c : Chg) (g k : Nat) (hx : a.eval x = .slice (some ⟨g, 0, none⟩) 1 k) (hblk : Bk w g 90 c.cs) (hl : l.length ≤ 1000)
    (h : ∀ v' w', w'.ownsRow 0 90 3 v' (l ++ [c]).length ((l ++ [c]).flatMap Chg.cs) → w.grownBy w' v.ownBlock → (v'.ownBlock = v.ownBlock ∨ v'.ownBlock = some w.heap.size) → K (a.put o.dst v') w') : o.wp Tryz.prog a w K Q := by
  obtain ⟨i, z, hi, hz, hs, hb0, hc⟩ := infoC
  have hcell : ∀ j u, c.cs[j]? = some u → w.cell? ((⟨g, 0, none⟩ : Addr).add j) = some u := fun j u hu => by
    rw [add_plain, Nat.zero_add]
    exact hblk.cell j u hu
  obtain ⟨v', w', hr, h2, h3, -, h5⟩ := run_append_own_at (P := Tryz.prog) w 0 100 o.type 90 i z 3 40 Tryz.underlying100 hi hz hs hb0 hc (by decide) v _ _ hown ⟨g, 0, none⟩ 1 k c.cs rfl hcell (Chg.ones c) (by unfold maxLen; omega) (by omega) (Nat.zero_le _)
  unfold Oper.wp execOp
  simp only [ho, resolve, invoke, builtin, Sem.run_bind, Sem.run_pure, Result.andThen_ok, List.map_toArray, List.map_cons, List.map_nil, hsv, hx, hr]
  refine h v' w' ?_ h3 h5
  rw [List.flatMap_append, List.length_append]
  simpa using h2
set_option maxRecDepth 100000 in
/-- A store at a text. -/
theorem wp_put (m x v : Operand) (t e : TypeId) (hop : o.op = Op.mapUpdate t m x v) (ht : Tryz.prog.underlying t = some (.map 9 e)) (b n : Nat) (f : ByteArray → Option Value)
    (hm : a.eval m = .map (some b)) (hown : MapAt w (some b) n f) (hn : n < maxLen) (s : ByteArray) (hs : s.size ≤ maxLen) (u : Value) (hx : a.eval x = .string s) (hv : a.eval v = u)
    (hK : ∀ w', MapAt w' (some b) (n + 1) (upd f s (some u)) → Fx (fun i => i = b) w w' → K (a.put o.dst undef) w') : o.wp Tryz.prog a w K Q := by
  obtain ⟨D, h1, h2⟩ := hown
  obtain ⟨w', hrun, r1, r2⟩ := h1.store keyed_str ht hn (key_str hs) (show heldR u = some (.held u, []) from rfl)
  unfold Oper.wp
  simp [execOp, hop, hm, hx, hv, hrun, Result.andThen]
  exact hK _ ⟨_, r1, h2.put hs u⟩ ((Fx.grown r2.grown).weak (fun i _ h => by injection h with h; exact h.symm))
end
theorem Dk.weak {w : World} {B B' : Nat → Prop} {d n m : Nat} {S : St} (h : Dk w B d S n) (hB : ∀ i, i < w.heap.size → B i → B' i) (hn : n ≤ m) : Dk w B' d S m := h.far (fun _ _ _ => rfl) hB hn
set_option maxRecDepth 100000 in
theorem sclone_any (s : ByteArray) (w : World) (hs : s.size ≤ 281474976710656) : Calls Tryz.prog 39 #[.string s] w fun e w' => e = .returned (.string s) ∧ Below w.heap.size w w' := by
  have KC := Kept.mk (Tryz.stringslite_Clone s w hs)
  go_enter Tryz.func39, Tryz.ntmps39
  go_wp2_with fail
  refine Calls.mono KC.out (fun x w1 hp => ?_)
  obtain ⟨rfl, hb⟩ := hp
  have KB := Kept.mk hb
  clear hb KC
  go_wp2
  go_ret
  exact ⟨rfl, KB.out⟩
theorem rwV_get (C : ByteArray → Option (Value × List Chg)) (p : ByteArray) : ((rwV C) p).getD (.slice none 0 0) = ((C p).map Prod.fst).getD (.slice none 0 0) := rfl
def rowV (S : St) (q : ByteArray) : Value := ((S.C q).map Prod.fst).getD (.slice none 0 0)
def rowL (S : St) (q : ByteArray) : List Chg := ((S.C q).map Prod.snd).getD []
theorem Bd.rowAt {w : World} {B : Nat → Prop} {S : St} {n : Nat} (h : Bd w B S n) (q : ByteArray) : w.ownsRow 0 90 3 (rowV S q) (rowL S q).length ((rowL S q).flatMap Chg.cs) ∧ (rowL S q).length ≤ S.m ∧ (S.C q = some (rowV S q, rowL S q) ∨ (S.C q = none ∧ rowV S q = .slice none 0 0 ∧ rowL S q = [])) := by
  unfold rowV rowL
  cases hx : S.C q with
  | none => exact ⟨World.ownsRow_nil w 0 _ 3, Nat.zero_le _, .inr ⟨rfl, rfl, rfl⟩⟩
  | some x =>
    obtain ⟨v, l⟩ := x
    exact ⟨(h.rw q v l hx).1.own, (h.rw q v l hx).2, .inl rfl⟩
theorem Dk.noted {w w9 w10 : World} {B : Nat → Prop} {d n b : Nat} {S : St} (h : Dk w B d S n) (hb : S.bp = some b) {q : ByteArray} (hq : q.size ≤ 200) {c : Chg} (hc : c.Ok) (hex : ∀ f, c.file = some f → ∃ e, S.F f = some e) (hsz : w.heap.size ≤ w9.heap.size)
    (hk : ∀ i, i < w.heap.size → (rowV S q).ownBlock ≠ some i → w9.heap[i]? = w.heap[i]?) {v1 : Value} (hrow : w9.ownsRow 0 90 3 v1 (rowL S q ++ [c]).length ((rowL S q ++ [c]).flatMap Chg.cs)) (hvb : v1.ownBlock = (rowV S q).ownBlock ∨ ∃ g, v1.ownBlock = some g ∧ w.heap.size ≤ g)
    (hM : MapAt w10 (some b) (n + 1) (upd (rwV S.C) q (some v1))) (hF : Fx (fun i => i = b) w9 w10) : Dk w10 (Gr B w) d { S with C := upd S.C q (some (v1, rowL S q ++ [c])), m := S.m + 1 } (n + 1) := by
  obtain ⟨hr, -, hv⟩ := h.bd.rowAt q
  refine ⟨?_, .inl h.inB, h.bd.setC hb hq hv hc hex hsz hk hrow hvb hM hF⟩
  refine h.blk.far ?_
  have hbm := (h.bd.mC.at hb)
  rw [hF.block d (by have := h.blk.lt; omega) (fun e => by subst e; exact hbm.notBk h.blk)]
  refine hk d h.blk.lt (fun e => ?_)
  obtain ⟨cur, hcur⟩ := ownsRow_blk hr e
  exact type_ne h.blk hcur (by decide) rfl
def noteP (s : Ps) (p : ByteArray) (c : Chg) : Ps := { s with N := apl s.N c, C := upd s.C (folF p) (s.C (folF p) ++ [c]) }
theorem ps_noted {S S2 : St} (hps : S2.ps = S.ps) (p : ByteArray) (c : Chg) (v1 : Value) (l : List Chg) (hl : l = rowL S2 (folF p)) : { S2 with N := apl S2.N c, C := upd S2.C (folF p) (some (v1, l ++ [c])), m := S2.m + 1 }.ps = noteP S.ps p c := by
  rw [← hps]
  subst hl
  unfold noteP St.ps
  congr 1
  funext x
  by_cases e : x = folF p
  · subst e
    simp only [upd_same, Option.map_some, Option.getD_some]
    rfl
  · simp only [upd_other _ _ e]
set_option maxRecDepth 100000 in
theorem sizeC : (Tryz.prog.info? 90).map (·.size) = some 3 := by kernel_rfl
set_option maxRecDepth 100000 in
set_option maxHeartbeats 2000000 in
theorem note_any (p : ByteArray) (c : Chg) {w : World} {B : Nat → Prop} {d n : Nat} {S : St} (h : Dk w B d S n) (hp : p.size ≤ 200) (hc : c.Ok) (hex : ∀ f, c.file = some f → ∃ e, S.F f = some e) (hn : n < 900000) (hm : S.m < 1000) :
    Calls Tryz.prog 38 #[.pointer (some ⟨d, 0, none⟩), .string p, c.v] w fun e w' => e = .returned (.tuple #[]) ∧ ∃ S', Dk w' (Gr B w) d S' (n + 2) ∧ S'.ps = noteP S.ps p c ∧ S'.F = S.F ∧ Fx B w w' ∧ S'.m = S.m + 1 := by
  obtain ⟨w1, hw1⟩ : ∃ w1, w.alloc (.cells #[.string c.gone, .string c.made, ptrV c.file] 90) = w1 := ⟨_, rfl⟩
  have hB1 : Bk w1 w.heap.size 90 c.cs := by rw [← hw1]; exact Bk.new w _ _
  have hF1 : Below w.heap.size w w1 := by rw [← hw1]; exact (Below.refl _ _).alloc (Nat.le_refl _) _
  have KLt : Kept (∀ q g, (rowV S q).ownBlock = some g → g < w.heap.size) := ⟨fun q g hg => ownsRow_lt (h.bd.rowAt q).1 hg⟩
  have KD1 := Kept.mk (h.later hF1)
  have KLy := Kept.mk (lay_any (h.later hF1))
  have KB1 := Kept.mk hB1
  have KF1 := Kept.mk hF1
  have Kdlt := Kept.mk h.blk.lt
  have KBd := Kept.mk h.inB
  have Khp := Kept.mk hp
  have KC := Kept.mk hc
  have KX := Kept.mk hex
  clear h hc hex hB1 hF1
  unfold Chg.v
  have KEq : Kept (c.cs = [.string c.gone, .string c.made, ptrV c.file]) := ⟨rfl⟩
  have KV : Kept (c.v = .agg #[.string c.gone, .string c.made, ptrV c.file]) := ⟨rfl⟩
  obtain ⟨g, hgv⟩ : ∃ g, c.gone = g := ⟨_, rfl⟩
  obtain ⟨m, hmv⟩ : ∃ m, c.made = m := ⟨_, rfl⟩
  obtain ⟨fv, hfv⟩ : ∃ fv, ptrV c.file = fv := ⟨_, rfl⟩
  rw [hgv, hmv, hfv] at KEq KV hw1 ⊢
  clear hgv hmv hfv
  go_enter Tryz.func38, Tryz.ntmps38
  go_upto_region 1 with fail
  clear hw1
  go_wp2_with fail
  refine Calls.mono KLy.out (fun x w2 hq => ?_)
  obtain ⟨rfl, S2, hd2, hps, hbn, hSF, hSC, hf2, hSm⟩ := hq
  have KSm := Kept.mk hSm
  have KD2 : Kept (Dk w2 (Gr B w) d S2 n) := ⟨hd2.weak (fun i _ h => h.elim .inl (fun h => .inr (Nat.le_trans KF1.out.size h))) (Nat.le_refl _)⟩
  have KB2 : Kept (Bk w2 w.heap.size 90 c.cs) := ⟨KB1.out.far (hf2.block _ KB1.out.lt (fun e => by have := Kdlt.out; omega))⟩
  have KF2 : Kept (Fx B w w2) := ⟨(Fx.ofBelow (S := B) KF1.out (Nat.le_refl _)).trans hf2 (fun i _ e => by subst e; exact KBd.out)⟩
  have KPs := Kept.mk hps
  have KSF := Kept.mk hSF
  have KSC := Kept.mk hSC
  obtain ⟨bn, hbn'⟩ : ∃ bn, S2.bn = some bn := by
    cases hx : S2.bn with
    | none => exact absurd hx hbn
    | some b => exact ⟨b, rfl⟩
  have KBn := Kept.mk hbn'
  clear hd2 hf2 hps hSF hSC hSm hbn hbn' KLy KD1 KB1
  go_upto_region 2 with fail
  refine wp_region_last _ 5 (by kernel_rfl) (by kernel_rfl) rfl rfl ?_
  simp only [List.take_succ_cons, List.take_zero]
  refine BigFrame.wpQuiet_want rfl (fun K hK => quiet_load_mid 90 _ rfl w.heap.size 0 rfl [.string g, .string m, fv] _ (fun W hW => by
    obtain ⟨k, rfl⟩ := hW
    have := KB2.out.range
    rw [KEq.out] at this
    exact this) Tryz.underlying90 rfl sizeC (hK _ ?_))
  clear hK K
  simp only [Act.put, List.setIfInBounds_toArray, List.set_cons_zero, List.set_cons_succ]
  have c2 := KD2.out.names
  rw [KBn.out] at c2
  repeat (go_big_quiet_step ((intro _; rfl)))
  refine wpQuiet_nil ?_
  intro k
  obtain ⟨w3, hw3⟩ : ∃ w3, w2.drewN k = w3 := ⟨_, rfl⟩
  rw [hw3]
  have hb23 : Below w2.heap.size w2 w3 := hw3 ▸ below_drewN (Below.refl _ _) k
  have KD3 := Kept.mk (KD2.out.later hb23)
  have KB3 : Kept (Bk w3 w.heap.size 90 c.cs) := ⟨KB2.out.far (hb23.block _ KB2.out.lt)⟩
  have KF3 : Kept (Fx B w w3) := ⟨KF2.out.trans (Fx.ofBelow (S := fun _ => False) hb23 (Nat.le_refl _)) (fun _ _ h => h.elim)⟩
  have KAp := Kept.mk (apply_any c bn n S2.N w3 KC.out (KD3.out.bd.mN.at KBn.out) (by omega))
  rw [KV.out] at KAp
  clear hw3 hb23 KD2 KB2 KF2 c2
  go_simp
  refine Calls.mono KAp.out (fun x w4 hq => ?_)
  obtain ⟨rfl, hM, hF⟩ := hq
  have hX2 : ∀ f, c.file = some f → ∃ e, S2.F f = some e := by rw [KSF.out]; exact KX.out
  have KD4 := Kept.mk (KD3.out.applied KBn.out KC.out hX2 hM hF)
  have KB4 : Kept (Bk w4 w.heap.size 90 c.cs) := ⟨KB3.out.far (hF.block _ KB3.out.lt (fun e => by
    have hm := KD3.out.bd.mN.at KBn.out
    rw [← e] at hm
    exact hm.notBk KB3.out))⟩
  have KF4 : Kept (Fx B w w4) := ⟨KF3.out.trans hF (fun i hi e => by
    rcases KD3.out.bd.bB bn (.inl KBn.out) with h | h
    · rw [e]; exact h
    · omega)⟩
  clear hM hF hX2 KAp KD3 KB3 KF3
  have KFo := Kept.mk (folderOf_any p w4 Khp.out)
  have KFs := folF_le Khp.out
  obtain ⟨q, hq⟩ : ∃ q, folF p = q := ⟨_, rfl⟩
  have KQ := Kept.mk hq
  rw [hq] at KFo KFs
  clear hq
  have KCl := Kept.mk (sclone_any q w4 (by omega))
  go_wp2_with fail
  refine Calls.mono KFo.out (fun x w5 hp5 => ?_)
  obtain ⟨rfl, hw5⟩ := hp5
  subst hw5
  go_wp2_with fail
  refine Calls.mono KCl.out (fun x w6 hp6 => ?_)
  obtain ⟨rfl, hb6⟩ := hp6
  have KD6 := Kept.mk (KD4.out.later hb6)
  have KB6 : Kept (Bk w6 w.heap.size 90 c.cs) := ⟨KB4.out.far (hb6.block _ KB4.out.lt)⟩
  have KF6 : Kept (Fx B w w6) := ⟨KF4.out.trans (Fx.ofBelow (S := fun _ => False) hb6 (Nat.le_refl _)) (fun _ _ h => h.elim)⟩
  clear hb6 KFo KCl KD4 KB4 KF4
  obtain ⟨bp, hbp⟩ : ∃ bp, S2.bp = some bp := by
    cases hx : S2.bp with
    | none => exact absurd (KD6.out.bd.nl.2.2 hx) (by show S2.bn ≠ none; rw [KBn.out]; exact fun h => nomatch h)
    | some b => exact ⟨b, rfl⟩
  have KBp := Kept.mk hbp
  clear hbp
  obtain ⟨v0, hv0⟩ : ∃ v0, rowV S2 q = v0 := ⟨_, rfl⟩
  have KV0 := Kept.mk hv0
  have KS : Kept (∀ W, CC w6 W → W.cell? ⟨d, 4, none⟩ = some (.map (some bp)) ∧ W.rangeAt w.heap.size 0 [.string g, .string m, fv]) := ⟨fun W hW => by
    have k1 := (KD6.out.later hW).pending
    have k2 := (KB6.out.far (Below.block hW _ KB6.out.lt)).range
    rw [KEq.out] at k2
    exact ⟨by rw [k1]; show some (Value.map S2.bp) = _; rw [KBp.out], k2⟩⟩
  have KLk : Kept (∀ W, CC w6 W → (Instr.lookup 54 (.map (some bp)) (.string q) false).run Tryz.prog W = .ok v0 W) := ⟨fun W hW => by
    have k := ((KD6.out.later hW).bd.mC.at KBp.out).look Tryz.underlying54 (zero_row W) (s := q) (by unfold maxLen; omega)
    rw [k]
    show Result.ok (rowV S2 q) W = _
    rw [KV0.out]⟩
  have KR0 := Kept.mk (KD6.out.bd.rowAt q)
  have KB0 : Kept (∀ g', v0.ownBlock = some g' → ∃ cur, w6.heap[g']? = some (.cells cur 90 (0, 0))) := ⟨fun g' hg' => by
    rw [← hv0] at hg'
    exact ownsRow_blk KR0.out.1 hg'⟩
  clear hv0
  go_upto_region 4 with fail
  refine wp_region_noPanic ?_
  refine wp_region_held_drew (S := fun W => W.cell? ⟨d, 4, none⟩ = some (.map (some bp)) ∧ W.rangeAt w.heap.size 0 [.string g, .string m, fv]) (by kernel_rfl) (KS.out _ (Below.refl _ _).drew) (fun hHeld => ?_)
  obtain ⟨w7, hw7⟩ : ∃ w7, w6.drew = w7 := ⟨_, rfl⟩
  have hb7 : CC w6 w7 := by rw [← hw7]; exact (Below.refl _ _).drew
  rw [hw7] at hHeld ⊢
  have KB7 := Kept.mk hb7
  clear hb7 hw7
  refine wpAnyH_takeD (i := 0) (d := some 18) (v := .pointer (some ⟨d, 0, none⟩)) rfl rfl (by kernel_rfl) (by kernel_rfl) (by kernel_rfl) (fun _ _ _ h => h) (Or.inl ⟨by rfl, fun W hSw => by obtain ⟨hSc, -⟩ := hSw; go_simp⟩) (by assumption) ?_
  simp only [Act.put, List.setIfInBounds_toArray, List.set_cons_zero, List.set_cons_succ]
  refine wpAnyH_takeD (i := 1) (d := some 19) (v := .pointer (some ⟨d, 0, none⟩)) rfl rfl (by kernel_rfl) (by kernel_rfl) (by kernel_rfl) (fun _ _ _ h => h) (Or.inl ⟨by rfl, fun W hSw => by obtain ⟨hSc, -⟩ := hSw; go_simp⟩) (by assumption) ?_
  simp only [Act.put, List.setIfInBounds_toArray, List.set_cons_zero, List.set_cons_succ]
  refine wpAnyH_takeD (i := 2) (d := some 20) (v := .pointer (some ⟨d, 4, none⟩)) rfl rfl (by kernel_rfl) (by kernel_rfl) (by kernel_rfl) (fun _ _ _ h => h) (Or.inl ⟨by rfl, fun W hSw => by obtain ⟨hSc, -⟩ := hSw; go_simp⟩) (by assumption) ?_
  simp only [Act.put, List.setIfInBounds_toArray, List.set_cons_zero, List.set_cons_succ]
  refine wpAnyH_takeD (i := 3) (d := some 21) (v := .map (some bp)) rfl rfl (by kernel_rfl) (by kernel_rfl) (by kernel_rfl) (fun _ _ _ h => h) (Or.inl ⟨by rfl, fun W hSw => by obtain ⟨hSc, -⟩ := hSw; go_simp⟩) (by assumption) ?_
  simp only [Act.put, List.setIfInBounds_toArray, List.set_cons_zero, List.set_cons_succ]
  refine wpAnyH_takeD (i := 4) (d := some 22) (v := .string q) rfl rfl (by kernel_rfl) (by kernel_rfl) (by kernel_rfl) (fun _ _ _ h => h) (Or.inl ⟨by rfl, fun W hSw => by obtain ⟨hSc, -⟩ := hSw; go_simp⟩) (by assumption) ?_
  simp only [Act.put, List.setIfInBounds_toArray, List.set_cons_zero, List.set_cons_succ]
  refine wpAnyH_takeD (i := 5) (d := some 23) (v := .pointer (some ⟨d, 0, none⟩)) rfl rfl (by kernel_rfl) (by kernel_rfl) (by kernel_rfl) (fun _ _ _ h => h) (Or.inl ⟨by rfl, fun W hSw => by obtain ⟨hSc, -⟩ := hSw; go_simp⟩) (by assumption) ?_
  simp only [Act.put, List.setIfInBounds_toArray, List.set_cons_zero, List.set_cons_succ]
  refine wpAnyH_takeD (i := 6) (d := some 24) (v := .pointer (some ⟨d, 0, none⟩)) rfl rfl (by kernel_rfl) (by kernel_rfl) (by kernel_rfl) (fun _ _ _ h => h) (Or.inl ⟨by rfl, fun W hSw => by obtain ⟨hSc, -⟩ := hSw; go_simp⟩) (by assumption) ?_
  simp only [Act.put, List.setIfInBounds_toArray, List.set_cons_zero, List.set_cons_succ]
  refine wpAnyH_takeD (i := 7) (d := some 25) (v := .pointer (some ⟨d, 4, none⟩)) rfl rfl (by kernel_rfl) (by kernel_rfl) (by kernel_rfl) (fun _ _ _ h => h) (Or.inl ⟨by rfl, fun W hSw => by obtain ⟨hSc, -⟩ := hSw; go_simp⟩) (by assumption) ?_
  simp only [Act.put, List.setIfInBounds_toArray, List.set_cons_zero, List.set_cons_succ]
  refine wpAnyH_takeD (i := 8) (d := some 26) (v := .map (some bp)) rfl rfl (by kernel_rfl) (by kernel_rfl) (by kernel_rfl) (fun _ _ _ h => h) (Or.inl ⟨by rfl, fun W hSw => by obtain ⟨hSc, -⟩ := hSw; go_simp⟩) (by assumption) ?_
  simp only [Act.put, List.setIfInBounds_toArray, List.set_cons_zero, List.set_cons_succ]
  refine wpAnyH_takeD (i := 9) (d := some 27) (v := .string q) rfl rfl (by kernel_rfl) (by kernel_rfl) (by kernel_rfl) (fun _ _ _ h => h) (Or.inl ⟨by rfl, fun W hSw => by obtain ⟨hSc, -⟩ := hSw; go_simp⟩) (by assumption) ?_
  simp only [Act.put, List.setIfInBounds_toArray, List.set_cons_zero, List.set_cons_succ]
  refine wpAnyH_takeD (i := 11) (d := some 29) (v := .agg #[.string g, .string m, fv]) rfl rfl (by kernel_rfl) (by kernel_rfl) (by kernel_rfl) (fun _ _ _ h => h) (yieldsIf_load_mid (by rfl) 90 _ rfl w.heap.size 0 rfl [.string g, .string m, fv] _ (fun W hSw => hSw.2) Tryz.underlying90 rfl sizeC) (by assumption) ?_
  simp only [Act.put, List.setIfInBounds_toArray, List.set_cons_zero, List.set_cons_succ]
  have hlk7 := KLk.out w7 KB7.out
  obtain ⟨w8, hw8⟩ : ∃ w8, w7.alloc (.cells #[.string g, .string m, fv] 90) = w8 := ⟨_, rfl⟩
  have hb8 : CC w6 w8 := by rw [← hw8]; exact Below.alloc KB7.out (Below.size KB7.out) _
  have hlk8 := KLk.out w8 hb8
  have hS8 := KS.out w8 hb8
  have hS7 := KS.out w7 KB7.out
  have hB8 : Bk w8 w7.heap.size 90 c.cs := by rw [← hw8, KEq.out]; exact Bk.new w7 _ _
  have KX8 := Kept.mk hB8
  have KR8 : Kept (w8.ownsRow 0 90 3 v0 (rowL S2 q).length ((rowL S2 q).flatMap Chg.cs)) := ⟨by
    rw [← KV0.out]
    exact ownsRow_far KR0.out.1 (fun g' hg' => Below.block hb8 _ (ownsRow_lt KR0.out.1 hg'))⟩
  have KL8 : Kept ((rowL S2 q).length ≤ 1000) := ⟨by have h2 : (rowL S2 q).length ≤ S2.m := KR0.out.2.1; have h3 := KSm.out; omega⟩
  have KQs : Kept (q.size ≤ maxLen) := ⟨by unfold maxLen; omega⟩
  have hd8 : v0.ownBlock ≠ some d := fun e => by
    obtain ⟨cur, hcur⟩ := KB0.out d e
    exact type_ne KD6.out.blk hcur (by decide) rfl
  have hx8 : v0.ownBlock ≠ some w.heap.size := fun e => by
    have e2 : rowV S2 q = rowV S q := by unfold rowV; rw [KSC.out]
    rw [← KV0.out, e2] at e
    have := KLt.out q _ e
    omega
  have hdne : d ≠ w.heap.size := fun e => by have := Kdlt.out; omega
  have hbm8 : MapAt w8 (some bp) (n + 1) (rwV S2.C) := ((KD6.out.later hb8).bd.mC.at KBp.out)
  have hbr : v0.ownBlock ≠ some bp := fun e => by
    obtain ⟨cur, hcur⟩ := KB0.out bp e
    exact (KD6.out.bd.mC.at KBp.out).notBk hcur
  have hD8 : Bk w8 d 59 _ := (KD6.out.later hb8).blk
  have hX8 : Bk w8 w.heap.size 90 c.cs := KB6.out.far (Below.block hb8 _ KB6.out.lt)
  have hdc : ∀ W, w8.grownBy W v0.ownBlock → Bk W d 59 (St.cs { S2 with N := apl S2.N c }) ∧ Bk W w.heap.size 90 c.cs := fun W hW => ⟨hD8.far (hW.block d hD8.lt (fun e => hd8 e.symm)), hX8.far (hW.block _ hX8.lt (fun e => hx8 e.symm))⟩
  have hcell : ∀ W, Bk W d 59 (St.cs { S2 with N := apl S2.N c }) → Bk W w.heap.size 90 c.cs → W.cell? ⟨d, 4, none⟩ = some (.map (some bp)) ∧ W.rangeAt w.heap.size 0 [.string g, .string m, fv] := fun W h1 h2 => by
    have k1 := h1.cell 4 _ rfl
    have k2 := h2.range
    rw [KEq.out] at k2
    exact ⟨by rw [k1]; show some (Value.map S2.bp) = _; rw [KBp.out], k2⟩
  have KS9 : Kept (∀ W, w8.grownBy W v0.ownBlock → W.cell? ⟨d, 4, none⟩ = some (.map (some bp)) ∧ W.rangeAt w.heap.size 0 [.string g, .string m, fv]) := ⟨fun W hW => hcell W (hdc W hW).1 (hdc W hW).2⟩
  have KN9 : Kept (∀ W, w8.grownBy W v0.ownBlock → MapAt W (some bp) (n + 1) (rwV S2.C)) := ⟨fun W hW => hbm8.far (fun b e => by injection e with e; subst e; exact hW.block _ hbm8.lt (fun e => hbr e.symm)) (Nat.le_refl _)⟩
  have KS10 : Kept (∀ W V, w8.grownBy W v0.ownBlock → Fx (fun i => i = bp) W V → V.cell? ⟨d, 4, none⟩ = some (.map (some bp)) ∧ V.rangeAt w.heap.size 0 [.string g, .string m, fv]) := ⟨fun W V hW hV => by
    have hmW := hbm8.far (w' := W) (fun b e => by injection e with e; subst e; exact hW.block _ hbm8.lt (fun e => hbr e.symm)) (Nat.le_refl _)
    obtain ⟨h1, h2⟩ := hdc W hW
    exact hcell V (h1.far (hV.block d h1.lt (fun e => by subst e; exact hmW.notBk h1))) (h2.far (hV.block _ h2.lt (fun e => by rw [← e] at hmW; exact hmW.notBk h2)))⟩
  have KM : Kept (n + 1 < maxLen) := ⟨by unfold maxLen; omega⟩
  have KEnd : Kept (∀ v1 W V, W.ownsRow 0 90 3 v1 (rowL S2 q ++ [c]).length ((rowL S2 q ++ [c]).flatMap Chg.cs) → w8.grownBy W v0.ownBlock → (v1.ownBlock = v0.ownBlock ∨ v1.ownBlock = some w8.heap.size) → MapAt V (some bp) (n + 1 + 1) (upd (rwV S2.C) q (some v1)) → Fx (fun i => i = bp) W V → ∃ S', Dk V (Gr B w) d S' (n + 2) ∧ S'.ps = noteP S.ps p c ∧ S'.F = S.F ∧ Fx B w V ∧ S'.m = S.m + 1) := ⟨fun v1 W V h1 h2 h3 h4 h5 => by
    have hX2 : ∀ f, c.file = some f → ∃ e, S2.F f = some e := by rw [KSF.out]; exact KX.out
    have hs8 : w6.heap.size ≤ w8.heap.size := Below.size hb8
    have hsW := h2.size
    have hD := KD6.out.noted (w9 := W) (w10 := V) KBp.out KFs KC.out hX2 (by omega) (fun i hi hne => by
      have e2 : v0.ownBlock ≠ some i := by rw [← KV0.out]; exact hne
      rw [h2.block i (by omega) (fun e => e2 e.symm)]
      exact Below.block hb8 i hi) h1 (by
      rcases h3 with h3 | h3
      · exact .inl (by rw [h3, ← KV0.out]; rfl)
      · exact .inr ⟨_, h3, hs8⟩) h4 h5
    refine ⟨_, hD.weak (fun i _ hi => ?_) (Nat.le_refl _), ?_, by show S2.F = S.F; exact KSF.out, ?_, by show S2.m + 1 = S.m + 1; rw [KSm.out]⟩
    · rcases hi with hi | hi
      · exact hi
      · exact .inr (Nat.le_trans KF6.out.size hi)
    · rw [← KQ.out]
      exact ps_noted KPs.out p c v1 _ rfl
    · have f1 : Fx B w w8 := KF6.out.trans (Fx.ofBelow (S := fun _ => False) hb8 (Nat.le_refl _)) (fun _ _ h => h.elim)
      have f2 : Fx B w W := f1.trans (Fx.grown h2) (fun i hi e => by
        have hg0 := KR0.out.2.2
        rcases hg0 with hg0 | ⟨-, hg0, -⟩
        · rcases (KD6.out.bd.rw q _ _ hg0).1.ownB i (by show (rowV S2 q).ownBlock = some i; rw [KV0.out]; exact e) with hb | hb
          · exact hb
          · omega
        · rw [← KV0.out] at e
          rw [show rowV S2 q = .slice none 0 0 from hg0] at e
          cases e)
      exact f2.trans h5 (fun i hi e => by
        subst e
        rcases KD6.out.bd.bB i (.inr (.inr (.inl KBp.out))) with hb | hb
        · exact hb
        · omega)⟩
  clear hd8 hx8 hB8 hdne hbm8 hbr hD8 hX8 hdc hcell
  refine wpAnyH_ready (rs := [10, 12]) (by kernel_rfl) (by simp) ?_
  refine AllReadyH.cons (o := _) rfl (fun K hK => ?_) (AllReadyH.cons (o := _) rfl (fun K hK => ?_) AllReadyH.nil)
  · go_simp
    refine hK.out _ _ hS7 (fun hHeld2 => ?_)
    clear hK K
    refine wpAnyH_ready (rs := [12]) (by kernel_rfl) (by simp) ?_
    refine AllReadyH.cons (o := _) rfl (fun K hK => ?_) AllReadyH.nil
    rw [if_pos (by rfl)]
    go_simp
    refine hK.out _ _ hS8 (fun hHeld3 => ?_)
    clear hK K
    refine wpAnyH_ready (rs := [13]) (by kernel_rfl) (by simp) ?_
    refine AllReadyH.cons (o := _) rfl (fun K hK => ?_) AllReadyH.nil
    rw [if_pos (by rfl)]
    refine wp_append_C _ _ rfl v0 (rowL S2 q) rfl KR8.out c w7.heap.size 1 rfl KX8.out KL8.out ?_
    intro v1 w9 hrow9 hg9 hat9
    have hn9 := KN9.out w9 hg9
    refine hK.out _ _ (KS9.out w9 hg9) (fun hHeld4 => ?_)
    clear hK K
    refine wpAnyH_ready (rs := [14]) (by kernel_rfl) (by simp) ?_
    refine AllReadyH.cons (o := _) rfl (fun K hK => ?_) AllReadyH.nil
    rw [if_pos (by rfl)]
    refine wp_put _ _ _ 54 100 rfl Tryz.underlying54 bp (n + 1) (rwV S2.C) rfl hn9 KM.out q KQs.out v1 rfl rfl ?_
    intro w10 hM10 hF10
    refine hK.out _ _ (KS10.out w9 w10 hg9 hF10) (fun hHeld5 => ?_)
    clear hK K
    refine wpAnyH_done (by kernel_rfl) ?_ _
    refine NoPanic.normal ?_
    refine bodyPost_end (results_none rfl _ _ _) rfl ?_
    exact ⟨rfl, KEnd.out v1 w9 w10 hrow9 hg9 hat9 hM10 hF10⟩
  · rw [if_pos (by rfl)]
    go_simp
    refine hK.out _ _ hS8 (fun hHeld2 => ?_)
    clear hK K
    refine wpAnyH_ready (rs := [10]) (by kernel_rfl) (by simp) ?_
    refine AllReadyH.cons (o := _) rfl (fun K hK => ?_) AllReadyH.nil
    go_simp
    refine hK.out _ _ hS8 (fun hHeld3 => ?_)
    clear hK K
    refine wpAnyH_ready (rs := [13]) (by kernel_rfl) (by simp) ?_
    refine AllReadyH.cons (o := _) rfl (fun K hK => ?_) AllReadyH.nil
    rw [if_pos (by rfl)]
    refine wp_append_C _ _ rfl v0 (rowL S2 q) rfl KR8.out c w7.heap.size 1 rfl KX8.out KL8.out ?_
    intro v1 w9 hrow9 hg9 hat9
    have hn9 := KN9.out w9 hg9
    refine hK.out _ _ (KS9.out w9 hg9) (fun hHeld4 => ?_)
    clear hK K
    refine wpAnyH_ready (rs := [14]) (by kernel_rfl) (by simp) ?_
    refine AllReadyH.cons (o := _) rfl (fun K hK => ?_) AllReadyH.nil
    rw [if_pos (by rfl)]
    refine wp_put _ _ _ 54 100 rfl Tryz.underlying54 bp (n + 1) (rwV S2.C) rfl hn9 KM.out q KQs.out v1 rfl rfl ?_
    intro w10 hM10 hF10
    refine hK.out _ _ (KS10.out w9 w10 hg9 hF10) (fun hHeld5 => ?_)
    clear hK K
    refine wpAnyH_done (by kernel_rfl) ?_ _
    refine NoPanic.normal ?_
    refine bodyPost_end (results_none rfl _ _ _) rfl ?_
    exact ⟨rfl, KEnd.out v1 w9 w10 hrow9 hg9 hat9 hM10 hF10⟩
end Go.Proofs.YtegdadkejheagaaGreatDoor
