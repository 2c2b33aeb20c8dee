/-
  Walks: open.
-/
import Derived.Test.YtegdadkejheagaaDoorFC
namespace Go.Proofs.YtegdadkejheagaaDoor
open Go.RowKit Go.WideMaps

theorem bgS_N (S : St) : (bgS S).N = S.N := by unfold bgS; split <;> rfl
theorem bgS_bn (S : St) : (bgS S).bn = S.bn := by unfold bgS; split <;> rfl
/-- A call that goes on: its path may be. -/
theorem bg_ok {S : St} {r : Bool} {L : List ByteArray} (h : bgE S r L = 0) : oneF L = true := by
  unfold bgE at h
  split at h
  · exact absurd h (by decide)
  · split at h
    · exact absurd h (by decide)
    · split at h
      · exact absurd h (by decide)
      · rename_i h'
        simpa using h'
theorem oneF_size {L : List ByteArray} (h : oneF L = true) : ∀ p ∈ L, p.size ≤ 200 := by
  intro p hp
  have := List.all_eq_true.1 h p hp
  simp only [Bool.and_eq_true] at this
  exact path_size this.1
def opE (S : St) (L : List ByteArray) (p : ByteArray) : Int := if bgE S true L = 0 then (match S.N p with | none => 7 | some _ => 0) else bgE S true L
def opF (S : St) (L : List ByteArray) (p : ByteArray) : Option Nat := if bgE S true L = 0 then S.N p else none
theorem nmV_get (N : ByteArray → Option Nat) (p : ByteArray) : ((nmV N) p).getD (.pointer none) = ptrV (N p) := by
  unfold nmV ptrV
  cases N p <;> rfl
set_option maxRecDepth 100000 in
set_option maxHeartbeats 2000000 in
theorem open_any (v : Value) (p : ByteArray) (M : List ByteArray) {w : World} {B : Nat → Prop} {d n : Nat} {S : St} (h : Dk w B d S n) (hg : Gl w) (hr : RdS w v (p :: M)) (hl : (p :: M).length ≤ 2) (hlr : ∀ b off k c, v = .slice (some ⟨b, off, none⟩) k c → b ≠ d) (hc0 : 0 ≤ S.count) (hc1 : S.count < 1000000) (hgd : 3 ≤ d) :
    Calls Tryd.prog 27 #[.pointer (some ⟨d, 0, none⟩), v] w fun e w' => e = .returned (.tuple #[ptrV (opF S (p :: M) p), .int .i64 (opE S (p :: M) p)]) ∧ Dk w' B d (bgS S) n ∧ Fx (fun i => i = d) w w' := by
  have KBg := Kept.mk (begin_any true v (p :: M) h hg hr hl hlr hc0 hc1 hgd)
  have KR : Kept (∀ W, Fx (fun i => i = d) w W → RdS W v (p :: M)) := ⟨fun W hW => RdV.fx hr hW (fun b off k c' e e2 => hlr b off k c' e e2)⟩
  obtain ⟨E, hE⟩ : ∃ E, bgE S true (p :: M) = E := ⟨_, rfl⟩
  have KE : Kept (opE S (p :: M) p = if E = 0 then (match S.N p with | none => 7 | some _ => 0) else E) := ⟨by rw [← hE]; rfl⟩
  have KF : Kept (opF S (p :: M) p = if E = 0 then S.N p else none) := ⟨by rw [← hE]; rfl⟩
  have KO : Kept (E = 0 → p.size ≤ 200) := ⟨fun h => oneF_size (bg_ok (hE.trans h)) p (by simp)⟩
  rw [hE] at KBg
  clear hE h hg
  obtain ⟨a, c, rfl, -⟩ := hr
  clear hlr
  rw [List.length_map, List.length_cons] at *
  go_enter Tryd.func27, Tryd.ntmps27
  go_wp2_with fail
  refine Calls.mono KBg.out (fun x w1 hp => ?_)
  obtain ⟨rfl, hd, hf⟩ := hp
  have KD1 := Kept.mk hd
  have KF1 := Kept.mk hf
  clear KBg
  by_cases h0 : E = 0
  · subst h0
    have hps := KO.out rfl
    obtain ⟨a', c', hv, -, h4⟩ := KR.out w1 hf
    injection hv with hv1 hv2 hv3
    subst hv1
    obtain ⟨b, off, rfl, hblt, hrg⟩ := h4 (by simp)
    have hcp : w1.cell? ⟨b, off, none⟩ = some (.string p) := hrg 0 _ rfl
    have KK : Kept (∀ W, CC w1 W → W.cell? ⟨d, 2, none⟩ = some (.map S.bn) ∧ W.cell? ⟨b, off, none⟩ = some (.string p) ∧ (Instr.lookup 53 (.map S.bn) (.string p) false).run Tryd.prog W = .ok (ptrV (S.N p)) W) := ⟨fun W hW => by
      have hd' := hd.later hW
      have k1 := hd'.names
      have k2 := hd'.bd.mN.look Tryd.underlying53 (zero_ptr W) (s := p) (by unfold maxLen; omega)
      rw [bgS_N, nmV_get, bgS_bn] at k2
      rw [bgS_bn] at k1
      exact ⟨k1, by rw [CC.cell hW hblt]; exact hcp, k2⟩⟩
    have KE2 : Kept (opE S (p :: M) p = match S.N p with | none => 7 | some _ => 0) := ⟨by rw [KE.out, if_pos rfl]⟩
    have KF2 : Kept (opF S (p :: M) p = S.N p) := ⟨by rw [KF.out, if_pos rfl]⟩
    clear hd hf hrg h4 hv2 hv3 hps hblt hcp
    obtain ⟨N0, hN0⟩ : ∃ N0, S.N p = N0 := ⟨_, rfl⟩
    rw [hN0] at KK KE2 KF2
    clear hN0
    go_upto_region 4 with fail
    refine wp_region_quietC (C := CC w1) (by kernel_rfl) (by kernel_rfl) (Below.refl _ _).drew ?_
    go_big_quiet_step ((intro _; rfl))
    go_big_quiet_step ((intro _; rfl))
    go_big_quiet_step ((intro _; rfl))
    refine BigFrame.wpQuiet_want rfl (fun K hK => quiet_run (v := .map S.bn) (fun W hW => by have k := (KK.out W hW).1; go_simp) (hK _ ?_))
    clear hK K
    simp only [Act.put, List.setIfInBounds_toArray, List.set_cons_zero, List.set_cons_succ]
    go_big_quiet_step ((intro _; rfl))
    refine BigFrame.wpQuiet_want rfl (fun K hK => quiet_run (v := .pointer (some ⟨b, off, none⟩)) (fun W hW => by go_simp) (hK _ ?_))
    clear hK K
    simp only [Act.put, List.setIfInBounds_toArray, List.set_cons_zero, List.set_cons_succ]
    refine BigFrame.wpQuiet_want rfl (fun K hK => quiet_run (v := .string p) (fun W hW => by have k := (KK.out W hW).2.1; go_simp) (hK _ ?_))
    clear hK K
    simp only [Act.put, List.setIfInBounds_toArray, List.set_cons_zero, List.set_cons_succ]
    refine BigFrame.wpQuiet_want rfl (fun K hK => quiet_run (v := ptrV N0) (fun W hW => by have k := (KK.out W hW).2.2; go_simp) (hK _ ?_))
    clear hK K
    simp only [Act.put, List.setIfInBounds_toArray, List.set_cons_zero, List.set_cons_succ]
    go_big_quiet_step ((intro _; rfl))
    refine wpQuiet_nil ?_
    intro w3 hw3
    have KD3 := Kept.mk (KD1.out.later hw3)
    have KF3 := Kept.mk (KF1.out.trans (Fx.ofBelow (S := fun _ => False) hw3 (Nat.le_refl _)) (fun _ _ h => h.elim))
    clear hw3 KK
    cases N0 with
    | none =>
      unfold ptrV
      go_wp2
      go_ret2
      exact ⟨by rw [KE2.out, KF2.out]; rfl, KD3.out, KF3.out⟩
    | some f =>
      unfold ptrV
      go_wp2
      go_ret2
      exact ⟨by rw [KE2.out, KF2.out]; rfl, KD3.out, KF3.out⟩
  · have KE2 : Kept (opE S (p :: M) p = E) := ⟨by rw [KE.out, if_neg h0]⟩
    have KF2 : Kept (opF S (p :: M) p = none) := ⟨by rw [KF.out, if_neg h0]⟩
    have hb : (E == 0) = false := by simpa using h0
    clear hd hf
    go_wp2
    go_ret2
    exact ⟨by rw [KE2.out, KF2.out]; rfl, KD1.out, KF1.out⟩
end Go.Proofs.YtegdadkejheagaaDoor
