/-
  The law FsMemory.
-/
import Derived.Test.YtegdadkejheagaaDoorFX1
namespace Go.Proofs.YtegdadkejheagaaDoor
open Go.RowKit Go.WideMaps Go.Maps

set_option maxRecDepth 100000 in
set_option maxHeartbeats 4000000 in
theorem memory_walk (v1 v2 : Value) (P Q : List Int) (w : World) (hg : Gl w) (h1 : Rd .u8 anyB w v1 P) (h2 : Rd .u8 anyB w v2 Q) (hP : AllB P) (hQ : AllB Q) : Calls Tryd.prog 5 #[v1, v2] w fun e w' => e = .returned (.bool true) ∧ Below w.heap.size w w' := by
  have KG := Kept.mk hg
  have KR1 : Kept (Rd .u8 (fun b => b < w.heap.size) w v1 P) := ⟨h1.weak (fun b hb _ => hb)⟩
  have KR2 : Kept (Rd .u8 (fun b => b < w.heap.size) w v2 Q) := ⟨h2.weak (fun b hb _ => hb)⟩
  have KP := Kept.mk hP
  have KQ := Kept.mk hQ
  have Kgw := Kept.mk hg.lo
  have KAw := Kept.mk (awake_any w hg)
  obtain ⟨a1, c1, rfl, -⟩ := h1.form
  obtain ⟨a2, c2, rfl, -⟩ := h2.form
  clear hg h1 h2 hP hQ
  go_enter Tryd.func5, Tryd.ntmps5
  go_wp2_with fail
  refine Calls.mono KAw.out (fun e w1 hp => ?_)
  obtain ⟨rfl, hb1⟩ := hp
  have KB1 := Kept.mk hb1
  clear hb1 KAw
  by_cases hbig : 2000 < P.length ∨ 2000 < Q.length
  · have hb : (2000 : Int) < (P.length : Int) ∨ ¬ (2000 : Int) < (P.length : Int) ∧ (2000 : Int) < (Q.length : Int) := by omega
    clear hbig
    rcases hb with hb | ⟨hb, hb2⟩
    · go_wp2
      go_ret
      exact ⟨rfl, KB1.out⟩
    · go_wp2
      go_ret
      exact ⟨rfl, KB1.out⟩
  · have hPi : ¬ (2000 : Int) < (P.length : Int) := by omega
    have hQi : ¬ (2000 : Int) < (Q.length : Int) := by omega
    have Kl : Kept (P.length ≤ 2000 ∧ Q.length ≤ 2000) := ⟨by omega⟩
    have KNew := Kept.mk (new_any 1048576 w1 (by decide))
    clear hbig
    go_wp2_with fail
    refine Calls.mono KNew.out (fun e w2 hp => ?_)
    obtain ⟨rfl, hd2, hb2⟩ := hp
    obtain ⟨d, hd⟩ : ∃ d, w1.heap.size = d := ⟨_, rfl⟩
    rw [hd] at hd2 ⊢
    have Kd : Kept (w1.heap.size = d ∧ w.heap.size ≤ d ∧ 3 ≤ d) := ⟨hd, by have := KB1.out.size; omega, by have := KB1.out.size; have := Kgw.out; omega⟩
    have KB2 : Kept (Below w.heap.size w w2) := ⟨KB1.out.trans (hb2.mono KB1.out.size)⟩
    have KD2 := Kept.mk hd2.cut
    have KSp := Kept.mk (spare_any _ P w2 (KR1.out.later KB2.out (Nat.le_refl _)) (by omega))
    clear hd2 hb2 KNew hd
    go_wp2_with fail
    refine Calls.mono KSp.out (fun e w3 hp => ?_)
    obtain ⟨g, cap, rfl, hcap, ho3, hb3⟩ := hp
    have Kcap := Kept.mk hcap
    have KO3 := Kept.mk ho3
    have KB3 : Kept (Below w.heap.size w w3) := ⟨KB2.out.trans (hb3.mono KB2.out.size)⟩
    have KD3 := Kept.mk (KD2.out.later hb3)
    have Ks3 := Kept.mk hb3.size
    have Kgl : Kept (w2.heap.size ≤ g ∧ g < w3.heap.size) := ⟨ho3.lt g rfl⟩
    have KG3 := Kept.mk (KG.out.later KB3.out)
    have KCr := Kept.mk (create_any pA KD3.out KG3.out (by decide) (by decide) Kd.out.2.2 (by decide) (by decide))
    have e1 : crE (newS 1048576).ps pA = 0 := (calm_new 1048576).crE pA_path rfl
    rw [e1] at KCr
    clear ho3 hb3 hcap KSp e1
    go_wp2_with fail
    refine Calls.mono KCr.out (fun e w4 hp => ?_)
    obtain ⟨rfl, S4, hd4, hcr4, hF4, hm4⟩ := hp
    have Kon := Kept.mk (one_file pA_path hcr4)
    have KB4 : Kept (Below w.heap.size w w4) := ⟨KB3.out.trans (hF4.below KB3.out.size (fun i hi e => by have := Kd.out.2.1; have := e.1; omega))⟩
    obtain ⟨f, hN4, hL4, hC4, hF4'⟩ := Kon.out.2.2.2.2
    have K14 : Kept (One S4.ps 1048576 pA f [] 0 ∧ (∀ r, S4.ps.L r = none) ∧ ∀ r, S4.ps.C r = if r = folF pA then [crC pA f] else []) := ⟨⟨⟨Kon.out.1, Kon.out.2.1, Kon.out.2.2.1, hN4, hF4'⟩, hL4, hC4⟩⟩
    obtain ⟨B4, hd4, hG4, hB4⟩ := hd4.gr (lo := w.heap.size) (G := fun i => i = g) ⟨fun i e e2 => by have := Kgl.out; have := e.2; omega, fun i e => by have := Kd.out.2.1; have := e.1; omega⟩ (fun i e => by have := Kgl.out; omega) KB3.out.size
    have KD4 := Kept.mk hd4
    have KBb4 := Kept.mk (And.intro hG4 hB4)
    have Kcm4 : Kept (S4.count = 1 ∧ S4.m ≤ 1 ∧ S4.used = 0) := ⟨Kon.out.2.2.2.1, hm4, Kon.out.2.2.1⟩
    have KO4 : Kept (Own .u8 5 w4 w2.heap.size (.slice (some ⟨g, 0, none⟩) (P.length + 4) cap) (spareL P)) := ⟨KO3.out.far (fun g' hg' => hF4.block g' (KO3.out.lt g' hg').2 (fun e => by
      have h1 := (KO3.out.lt g' hg').1
      have h2 := e.2
      omega))⟩
    have Ks4 := Kept.mk hF4.size
    have KG4 := Kept.mk (KG.out.later KB4.out)
    have r4 : Rd .u8 (fun b => ¬ B4 b) w4 (.slice (some ⟨g, 0, none⟩) P.length cap) P := by
      have := KO4.out.rd.piece2 (i := 0) (j := P.length) (by omega) (by rw [spareL_length]; omega)
      exact rd_block (by simpa [spareL] using this) (fun hb => KBb4.out.1 g hb rfl)
    have KAp := Kept.mk (append_any pA _ P KD4.out KG4.out (by have := Kcm4.out; omega) (by have := Kcm4.out; omega) Kd.out.2.2 r4 KP.out (by omega) (by have := Kcm4.out; omega) (by have := Kcm4.out; omega))
    have h15 := K14.out.1.ap pA_path P (by have := Kl.out; simp; omega) (by have := Kl.out; simp; omega)
    rw [h15.1] at KAp
    have K15 : Kept (One (apP S4.ps pA P) 1048576 pA f P 0 ∧ (apP S4.ps pA P).L = S4.ps.L ∧ (apP S4.ps pA P).C = S4.ps.C) := ⟨h15.2⟩
    clear hd4 hcr4 hF4 hm4 KCr hN4 hL4 hC4 hF4' hG4 hB4 r4 h15
    go_wp2_with fail
    refine Calls.mono KAp.out (fun e w5 hp => ?_)
    obtain ⟨rfl, S5, hd5, hps5, hF5, hm5⟩ := hp
    have KB5 : Kept (Below w.heap.size w w5) := ⟨KB4.out.trans (hF5.below KB4.out.size (fun i hi e => by have := (KBb4.out.2 i e).1; omega))⟩
    have hs34 := Ks4.out
    have hO5 : Own .u8 5 w5 w2.heap.size (.slice (some ⟨g, 0, none⟩) (P.length + 4) cap) (spareL P) := KO4.out.far (fun g' hg' => hF5.block g' (KO4.out.lt g' hg').2 (fun e => KBb4.out.1 g' e (by injection hg' with h; exact h.symm)))
    obtain ⟨B5, hd5, hG5, hB5⟩ := hd5.gr (lo := w.heap.size) (G := fun i => i = g) ⟨KBb4.out.1, fun i e => (KBb4.out.2 i e).1⟩ (fun i e => by have := Kgl.out; omega) KB4.out.size
    have Kcm5 : Kept (S5.count = 2 ∧ S5.m ≤ 1) := ⟨by
      have h := K14.out.1.calm.ap_count pA P
      rw [← hps5] at h
      have h2 : S5.ps.count = S5.count := rfl
      have h3 : S4.ps.count = S4.count := rfl
      have := Kcm4.out
      omega, by rw [hm5]; exact Kcm4.out.2.1⟩
    have K25 : Kept (One S5.ps 1048576 pA f P 0 ∧ S5.ps.L = S4.ps.L ∧ S5.ps.C = S4.ps.C) := ⟨by rw [hps5]; exact K15.out⟩
    have KKe := Kept.mk (kept_any _ P g cap w5 (KR1.out.later KB5.out (Nat.le_refl _)) KP.out Kcap.out hO5.rd (by have := Kl.out; omega))
    have KO5 := Kept.mk hO5
    have KD5 := Kept.mk hd5
    have KBb5 := Kept.mk (And.intro hG5 hB5)
    clear hd5 hps5 hF5 hm5 hs34 hG5 hB5 hO5 KAp
    go_wp2_with fail
    refine Calls.mono KKe.out (fun e w6 hp => ?_)
    obtain ⟨rfl, hb6⟩ := hp
    have KD6 := Kept.mk (KD5.out.later hb6)
    have KB6 : Kept (Below w.heap.size w w6) := ⟨KB5.out.trans (hb6.mono KB5.out.size)⟩
    have KO6 := Kept.mk (KO5.out.later hb6 (Nat.le_refl _))
    have Ks6 := Kept.mk hb6.size
    have KSy := Kept.mk (sync_any pA KD6.out (KG.out.later KB6.out) (by have := Kcm5.out; omega) (by have := Kcm5.out; omega) Kd.out.2.2)
    have h7 := K25.out.1.sy pA_path
    rw [h7.1] at KSy
    have K17 : Kept (One (syP S5.ps pA) 1048576 pA f P P.length ∧ (∀ r, (syP S5.ps pA).L r = none) ∧ ∀ r, (syP S5.ps pA).C r = if r = folF pA then [crC pA f] else []) := ⟨⟨h7.2.1, fun r => by rw [h7.2.2.1, K25.out.2.1]; exact K14.out.2.1 r, fun r => by rw [h7.2.2.2, K25.out.2.2]; exact K14.out.2.2 r⟩⟩
    clear hb6 KKe h7
    go_wp2_with fail
    refine Calls.mono KSy.out (fun e w7 hp => ?_)
    obtain ⟨rfl, S7, hd7, hps7, hF7, hm7⟩ := hp
    have KB7 : Kept (Below w.heap.size w w7) := ⟨KB6.out.trans (hF7.below KB6.out.size (fun i hi e => by have := (KBb5.out.2 i e).1; omega))⟩
    have hO7 : Own .u8 5 w7 w2.heap.size (.slice (some ⟨g, 0, none⟩) (P.length + 4) cap) (spareL P) := KO6.out.far (fun g' hg' => hF7.block g' (KO6.out.lt g' hg').2 (fun e => KBb5.out.1 g' e (by injection hg' with h; exact h.symm)))
    obtain ⟨B7, hd7, hG7, hB7⟩ := hd7.gr (lo := w.heap.size) (G := fun i => i = g) ⟨KBb5.out.1, fun i e => (KBb5.out.2 i e).1⟩ (fun i e => by subst e; exact (KO6.out.lt _ rfl).2) KB6.out.size
    have Kcm7 : Kept (S7.count = 3 ∧ S7.m ≤ 1) := ⟨by
      have h := K25.out.1.calm.sy_count pA
      rw [← hps7] at h
      have h2 : S5.ps.count = S5.count := rfl
      have h3 : S7.ps.count = S7.count := rfl
      have := Kcm5.out
      omega, by rw [hm7]; exact Kcm5.out.2⟩
    rw [← hps7] at K17
    have KO7 := Kept.mk hO7
    have KD7 := Kept.mk hd7
    have KBb7 := Kept.mk (And.intro hG7 hB7)
    have KSd := Kept.mk (syncDir_any pE KD7.out (KG.out.later KB7.out) (by have := Kcm7.out; omega) (by have := Kcm7.out; omega) Kd.out.2.2 (by decide) (by have := Kcm7.out; omega) (by decide))
    have h8 := K17.out.1.sd K17.out.2.1 K17.out.2.2
    rw [pA_fol] at h8
    rw [h8.1] at KSd
    have K18 := Kept.mk h8.2
    clear hd7 hps7 hF7 hm7 hG7 hB7 hO7 KSy h8
    go_wp2_with fail
    refine Calls.mono KSd.out (fun e w8 hp => ?_)
    obtain ⟨rfl, S8, hd8, hps8, hF8, hm8⟩ := hp
    have KB8 : Kept (Below w.heap.size w w8) := ⟨KB7.out.trans (hF8.below KB7.out.size (fun i hi e => by have := (KBb7.out.2 i e).1; omega))⟩
    have hO8 : Own .u8 5 w8 w2.heap.size (.slice (some ⟨g, 0, none⟩) (P.length + 4) cap) (spareL P) := KO7.out.far (fun g' hg' => hF8.block g' (KO7.out.lt g' hg').2 (fun e => KBb7.out.1 g' e (by injection hg' with h; exact h.symm)))
    obtain ⟨B8, hd8, hG8, hB8⟩ := hd8.gr (lo := w.heap.size) (G := fun i => i = g) ⟨KBb7.out.1, fun i e => (KBb7.out.2 i e).1⟩ (fun i e => by subst e; exact (KO7.out.lt _ rfl).2) KB7.out.size
    have Kcm8 : Kept (S8.count = 4 ∧ S8.m ≤ 1) := ⟨by
      have h := K17.out.1.calm.sd_count pE
      rw [← hps8] at h
      have h2 : S7.ps.count = S7.count := rfl
      have h3 : S8.ps.count = S8.count := rfl
      have := Kcm7.out
      omega, by rw [hm8]; exact Kcm7.out.2⟩
    rw [← hps8] at K18
    have Kw8 := Kept.mk hO8.wr1
    have KD8 : Kept (Dk w8 B8 d S8 (2 + S7.m)) := ⟨hd8⟩
    have KBb8 := Kept.mk (And.intro hG8 hB8)
    have Kg8 := Kept.mk (hO8.lt g rfl)
    clear hd8 hps8 hF8 hm8 hG8 hB8 hO8 KSd
    have hL4 : (spareL P).length = P.length + 4 := spareL_length P
    rw [hL4] at Kw8
    obtain ⟨L4, hl4⟩ : ∃ L4, P.length + 4 = L4 := ⟨_, rfl⟩
    have hl4i : (P.length : Int) + 4 = (L4 : Int) := by omega
    have Kl4 := Kept.mk hl4
    clear hL4
    have hcapi : (L4 : Int) ≤ (cap : Int) := by have := Kcap.out; omega
    have hL4b : (L4 : Int) ≤ 2004 := by omega
    rw [hl4] at Kw8
    go_wp2
    clear hl4 hl4i
    go_loopw [9, 73] (fun _ kx wr => ∃ k : Nat, k ≤ L4 ∧ kx = .int .i64 k ∧ Fx (fun i => i = g) w8 wr ∧ Wr1 wr (.slice (some ⟨g, 0, none⟩) L4 cap) L4) (fun _ kx _ => L4 - (intOf kx).toNat)
    case atStart => exact ⟨0, Nat.zero_le _, rfl, Fx.refl _ _, Kw8.out⟩
    case round =>
      obtain ⟨k, hk, rfl, hfx, hwr⟩ := hrel
      by_cases hlt : k < L4
      · have hki : (k : Int) < (L4 : Int) := by omega
        have KF := Kept.mk hfx
        have KW := Kept.mk hwr
        obtain ⟨g', c', cs, hv, hbk, hcl⟩ := hwr (by omega)
        injection hv with hv1 _ hv3
        injection hv1 with hv1
        injection hv1 with hv1
        subst hv1 hv3
        obtain ⟨u0, hu0⟩ : ∃ u, cs[k]? = some u := ⟨_, List.getElem?_eq_getElem (show k < cs.length by omega)⟩
        have hck := hbk.cell k u0 hu0
        have hfk := hbk.frozen k
        obtain ⟨w', hw'⟩ : ∃ w', wr.setCell ⟨g, k, none⟩ (.int .u8 238) = w' := ⟨_, rfl⟩
        have KF' : Kept (Fx (fun i => i = g) w8 w') := ⟨by rw [← hw']; exact KF.out.trans (Fx.setCell wr g k _) (fun _ _ h => h)⟩
        have KW' : Kept (Wr1 w' (.slice (some ⟨g, 0, none⟩) L4 cap) L4) := ⟨by rw [← hw']; exact KW.out.set k _⟩
        clear hfx hwr hbk hcl hu0
        go_wp2
        go_roundw
        case rel => exact ⟨k + 1, hlt, by go_num, KF'.out, KW'.out⟩
        case measure => simp [intOf]; omega
      · have hki : ¬ (k : Int) < (L4 : Int) := by omega
        have KF := Kept.mk hfx
        clear hfx hwr
        obtain ⟨w9, hw9⟩ : ∃ w9, wr = w9 := ⟨_, rfl⟩
        subst hw9
        have KB9 : Kept (Below w.heap.size w wr) := ⟨KB8.out.trans (KF.out.below KB8.out.size (fun i hi e => by have := Kg8.out.1; have := Kgl.out.1; have := KB2.out.size; omega))⟩
        have KD9 : Kept (Dk wr B8 d S8 (2 + S7.m)) := ⟨KD8.out.far (fun i hi hb => KF.out.block i hi (fun e => KBb8.out.1 i hb e)) (fun _ _ h => h) (Nat.le_refl _)⟩
        have Ks9 := Kept.mk KF.out.size
        have KRd := Kept.mk (read_any pA KD9.out (KG.out.later KB9.out))
        have hrd := K18.out.1.calm.rdE pA_path K18.out.1.file
        rw [hrd.1, hrd.2] at KRd
        clear hrd
        go_wp2_with fail
        refine Calls.mono KRd.out (fun e w10 hp => ?_)
        obtain ⟨v10, rfl, ho10, hb10⟩ := hp
        have KO10 := Kept.mk ho10
        obtain ⟨a10, c10, rfl⟩ := own_form ho10
        have KB10 : Kept (Below w.heap.size w w10) := ⟨KB9.out.trans (hb10.mono KB9.out.size)⟩
        have KD10 := Kept.mk (KD9.out.later hb10)
        have Ks10 := Kept.mk hb10.size
        have KFi := Kept.mk (files_any KD10.out (by have := Kcm7.out; omega))
        clear ho10 hb10 KRd
        go_wp2_with fail
        refine Calls.mono KFi.out (fun e w11 hp => ?_)
        obtain ⟨v11, l11, rfl, hof11, hfl11, hb11⟩ := hp
        obtain ⟨c11, hl11, -, hcx11⟩ := K18.out.1.files hfl11
        subst hl11
        have hdk : rdyE S8.dark = 0 := by
          have h : S8.ps.dark = false := K18.out.1.calm.dark
          show rdyE S8.ps.dark = 0
          rw [h]; rfl
        rw [hdk]
        have KB11 : Kept (Below w.heap.size w w11) := ⟨KB10.out.trans (hb11.mono KB10.out.size)⟩
        have KD11 := Kept.mk (KD10.out.later hb11)
        have KO11 := Kept.mk (KO10.out.later hb11 (Nat.le_refl _))
        have KOf11 := Kept.mk hof11
        have Kcx11 := Kept.mk hcx11
        have Ks11 := Kept.mk hb11.size
        have KCs := Kept.mk (crash_any (.slice none 0 0) [] KD11.out (Rd.nil _ _ _) AllIn.nil (by
          have h1 := Kcm7.out
          have h2 := Kcm8.out
          have : (2 + S7.m) * S8.m ≤ (2 + S7.m) * 1 := Nat.mul_le_mul_left _ h2.2
          omega))
        obtain ⟨gl, cl, hv11, hgl11⟩ := hof11.cell
        subst hv11
        clear hof11 hfl11 hb11 hcx11 hdk KFi hgl11
        go_wp2_with fail
        refine Calls.mono KCs.out (fun e w12 hp => ?_)
        obtain ⟨dc, S12, n12, ks12, ps12, B12, rfl, hd12, hB12, hdc, hb12, hn12, hm12, hcr12⟩ := hp
        obtain ⟨f12, hone12⟩ := K18.out.1.crash K18.out.2.1 K18.out.2.2 hcr12
        have K1c := Kept.mk hone12
        have Kcri := Kept.mk hcr12.cri
        have KB12 : Kept (Below w.heap.size w w12) := ⟨KB11.out.trans (hb12.mono KB11.out.size)⟩
        have KD12 := Kept.mk (KD11.out.later hb12)
        have KO12 := Kept.mk (KO11.out.later hb12 (Nat.le_refl _))
        have KOf12 := Kept.mk (KOf11.out.later hb12)
        have Ks12 := Kept.mk hb12.size
        have KC12 := Kept.mk hd12.cut
        have KBc := Kept.mk (And.intro hB12 hdc)
        clear hd12 hB12 hdc hb12 hn12 hm12 hcr12 hone12 KCs
        have KwA := Kept.mk KO12.out.wr1
        have KgA : Kept (∀ x, (Value.slice a10 P.length c10).ownBlock = some x → wr.heap.size ≤ x ∧ x < w10.heap.size) := ⟨KO10.out.lt⟩
        obtain ⟨w9, hw9⟩ : ∃ w9, wr = w9 := ⟨_, rfl⟩
        rw [hw9] at KgA Ks9 Ks10
        clear hw9
        go_wp2
        go_loopw [16, 97] (fun _ kx wr => ∃ k : Nat, k ≤ P.length ∧ kx = .int .i64 k ∧ Fx (fun i => (Value.slice a10 P.length c10).ownBlock = some i) w12 wr ∧ Wr1 wr (.slice a10 P.length c10) P.length) (fun _ kx _ => P.length - (intOf kx).toNat)
        case atStart => exact ⟨0, Nat.zero_le _, rfl, Fx.refl _ _, KwA.out⟩
        case round =>
          obtain ⟨k, hk, rfl, hfx, hwr⟩ := hrel
          by_cases hlt : k < P.length
          · have hki : (k : Int) < (P.length : Int) := by omega
            have KF := Kept.mk hfx
            have KW := Kept.mk hwr
            obtain ⟨ga, c', cs, hv, hbk, hcl⟩ := hwr (by omega)
            injection hv with hv1 _ hv3
            subst hv1 hv3
            obtain ⟨u0, hu0⟩ : ∃ u, cs[k]? = some u := ⟨_, List.getElem?_eq_getElem (show k < cs.length by omega)⟩
            have hck := hbk.cell k u0 hu0
            have hfk := hbk.frozen k
            obtain ⟨w', hw'⟩ : ∃ w', wr.setCell ⟨ga, k, none⟩ (.int .u8 221) = w' := ⟨_, rfl⟩
            have KF' : Kept (Fx (fun i => (Value.slice (some ⟨ga, 0, none⟩) P.length c10).ownBlock = some i) w12 w') := ⟨by rw [← hw']; exact KF.out.trans (Fx.setCell wr ga k _) (fun i _ h => by subst h; rfl)⟩
            have KW' : Kept (Wr1 w' (.slice (some ⟨ga, 0, none⟩) P.length c10) P.length) := ⟨by rw [← hw']; exact KW.out.set k _⟩
            clear hfx hwr hbk hcl hu0
            go_wp2
            go_roundw
            case rel => exact ⟨k + 1, hlt, by go_num, KF'.out, KW'.out⟩
            case measure => simp [intOf]; omega
          · have hki : ¬ (k : Int) < (P.length : Int) := by omega
            have KF := Kept.mk hfx
            clear hfx hwr
            have KB13 : Kept (Below w.heap.size w wr) := ⟨KB12.out.trans (KF.out.below KB12.out.size (fun i hi e => by have := (KgA.out i e).1; have := KB8.out.size; have := Ks9.out; omega))⟩
            have KD13 : Kept (Dk wr B8 d S8 (2 + S7.m)) := ⟨KD12.out.far (fun i hi hb => KF.out.block i hi (fun e => by have := (KgA.out i e).1; have := (KBb8.out.2 i hb).2; have := Ks9.out; omega)) (fun _ _ h => h) (Nat.le_refl _)⟩
            have KC13 : Kept (Dk wr (fun i => B12 i ∧ i < w12.heap.size) dc S12 n12) := ⟨KC12.out.far (fun i hi hb => KF.out.block i hi (fun e => by have := (KgA.out i e).2; have := KBc.out.1 i hb.1; have := Ks11.out; omega)) (fun _ _ h => h) (Nat.le_refl _)⟩
            have KOf13 := Kept.mk (KOf12.out.fx KF.out (fun i e => (KgA.out i e).2))
            have Ks13 := Kept.mk KF.out.size
            obtain ⟨gl', cl', hvl, hl0, hl1, hlb⟩ := KOf13.out.one
            injection hvl with hv1 _ hv3
            injection hv1 with hv1
            injection hv1 with hv1
            subst hv1 hv3
            have Kl01 := Kept.mk (And.intro hl0 (And.intro hl1 hlb))
            obtain ⟨a5, c5, hv5⟩ := own_form (KOf13.out.dat c11 (by simp))
            rw [Kcx11.out] at hv5
            obtain ⟨cv, hcv⟩ : ∃ cv, c11.v = cv := ⟨_, rfl⟩
            obtain ⟨cp, hcp⟩ : ∃ cp, c11.p = cp := ⟨_, rfl⟩
            rw [hcv] at hv5 Kl01
            rw [hcp] at Kl01
            have KOd : Kept (Own .u8 5 wr w10.heap.size cv P) := ⟨by have h := KOf13.out.dat c11 (by simp); rw [hcv, Kcx11.out] at h; exact h⟩
            have KgD : Kept (∀ x, cv.ownBlock = some x → w10.heap.size ≤ x ∧ x < w11.heap.size) := ⟨fun x hx => ⟨(KOd.out.lt x hx).1, by
              have h := (KOf11.out.dat c11 (by simp)).lt x (by rw [hcv]; exact hx)
              exact h.2⟩⟩
            subst hv5
            have KwD := Kept.mk KOd.out.wr1
            obtain ⟨w13, hw13⟩ : ∃ w13, wr = w13 := ⟨_, rfl⟩
            rw [hw13] at KB13 KD13 KC13 KOf13 Ks13 Kl01 KOd KwD ⊢
            clear hl0 hl1 hlb hcv hcp hw13
            go_wp2
            go_loopw [18, 19, 106] (fun _ _ kx wr => ∃ k : Nat, k ≤ 1 ∧ kx = .int .i64 k ∧ Fx (fun i => (Value.slice a5 P.length c5).ownBlock = some i) w13 wr ∧ Wr1 wr (.slice a5 P.length c5) P.length) (fun _ _ kx _ => 1 - (intOf kx).toNat)
            case atStart => exact ⟨0, Nat.zero_le _, rfl, Fx.refl _ _, KwD.out⟩
            case round =>
              obtain ⟨k, hk, rfl, hfx, hwr⟩ := hrel
              by_cases hlt : k < 1
              · obtain rfl : k = 0 := by omega
                have KF := Kept.mk hfx
                have KW := Kept.mk hwr
                have hglb : gl < w13.heap.size ∧ ∀ g5, (Value.slice a5 P.length c5).ownBlock = some g5 → gl ≠ g5 := by
                  obtain ⟨cur, hcur⟩ := Kl01.out.2.2
                  refine ⟨(Array.getElem?_eq_some_iff.1 hcur).1, fun g5 h5 => ?_⟩
                  obtain ⟨cur5, hcur5⟩ := ownsRow_blk KOd.out h5
                  exact type_ne hcur hcur5 (by decide)
                have hl0 : wr.cell? ⟨gl, 0, none⟩ = some (.string cp) := by
                  rw [World.cell?_of_block (w := w13) (hfx.block gl hglb.1 (fun e => hglb.2 gl e rfl))]
                  exact Kl01.out.1
                have hl1 : wr.cell? ⟨gl, 1, none⟩ = some (.slice a5 P.length c5) := by
                  rw [World.cell?_of_block (w := w13) (hfx.block gl hglb.1 (fun e => hglb.2 gl e rfl))]
                  exact Kl01.out.2.1
                clear hfx hwr hglb
                go_upto_region 25 with fail
                obtain ⟨w14, hw14⟩ : ∃ w14, wr.alloc (.cells #[.string cp, .slice a5 P.length c5] 51) = w14 := ⟨_, rfl⟩
                have hb14 : Below wr.heap.size wr w14 := by rw [← hw14]; exact (Below.refl _ _).alloc (Nat.le_refl _) _
                have hk14 : Bk w14 wr.heap.size 51 [.string cp, .slice a5 P.length c5] := by rw [← hw14]; exact Bk.new wr _ _
                rw [hw14]
                have x1 := hk14.cell 1 _ rfl
                have KF14 : Kept (Fx (fun i => (Value.slice a5 P.length c5).ownBlock = some i) w13 w14) := ⟨KF.out.trans (Fx.ofBelow (S := fun _ => False) hb14 (Nat.le_refl _)) (fun _ _ h => h.elim)⟩
                have KW14 : Kept (Wr1 w14 (.slice a5 P.length c5) P.length) := ⟨KW.out.fx (Fx.ofBelow (S := fun _ => False) hb14 (Nat.le_refl _)) (fun _ _ h => h)⟩
                have Kk14 := Kept.mk hk14
                obtain ⟨nb, hnb⟩ : ∃ nb, wr.heap.size = nb := ⟨_, rfl⟩
                have Knb : Kept (∀ g5, (Value.slice a5 P.length c5).ownBlock = some g5 → nb ≠ g5) := ⟨fun g5 h5 e => by
                  have := (KgD.out g5 h5).2
                  have := KF.out.size
                  have := Ks13.out
                  have := Ks12.out
                  omega⟩
                rw [hnb] at Kk14 x1 ⊢
                clear hw14 hb14 hk14 hl0 hl1 hnb
                go_wp2
                go_loopw [19, 113] (fun _ jx wq => ∃ j : Nat, j ≤ P.length ∧ jx = .int .i64 j ∧ Fx (fun i => (Value.slice a5 P.length c5).ownBlock = some i) w13 wq ∧ Wr1 wq (.slice a5 P.length c5) P.length ∧ Bk wq nb 51 [.string cp, .slice a5 P.length c5]) (fun _ jx _ => P.length - (intOf jx).toNat)
                case atStart => exact ⟨0, Nat.zero_le _, rfl, KF14.out, KW14.out, Kk14.out⟩
                case round =>
                  obtain ⟨j, hj, rfl, hfx, hwr, hbn⟩ := hrel
                  by_cases hjl : j < P.length
                  · have hji : (j : Int) < (P.length : Int) := by omega
                    have KF2 := Kept.mk hfx
                    have KW2 := Kept.mk hwr
                    have KN2 := Kept.mk hbn
                    have x1 := hbn.cell 1 _ rfl
                    obtain ⟨gd, c', cs, hv, hbk, hcl⟩ := hwr (by omega)
                    injection hv with hv1 _ hv3
                    subst hv1 hv3
                    obtain ⟨u0, hu0⟩ : ∃ u, cs[j]? = some u := ⟨_, List.getElem?_eq_getElem (show j < cs.length by omega)⟩
                    have hck := hbk.cell j u0 hu0
                    have hfk := hbk.frozen j
                    obtain ⟨w', hw'⟩ : ∃ w', wr.setCell ⟨gd, j, none⟩ (.int .u8 221) = w' := ⟨_, rfl⟩
                    have KF' : Kept (Fx (fun i => (Value.slice (some ⟨gd, 0, none⟩) P.length c5).ownBlock = some i) w13 w') := ⟨by rw [← hw']; exact KF2.out.trans (Fx.setCell wr gd j _) (fun i _ h => by subst h; rfl)⟩
                    have KW' : Kept (Wr1 w' (.slice (some ⟨gd, 0, none⟩) P.length c5) P.length) := ⟨by rw [← hw']; exact KW2.out.set j _⟩
                    have KN' : Kept (Bk w' nb 51 [.string cp, .slice (some ⟨gd, 0, none⟩) P.length c5]) := ⟨by rw [← hw']; exact KN2.out.far (Below.heap_setCell _ _ _ _ (Knb.out gd rfl))⟩
                    clear hfx hwr hbk hcl hu0 hbn
                    go_wp2
                    go_roundw
                    case rel => exact ⟨j + 1, hjl, by go_num, KF'.out, KW'.out, KN'.out⟩
                    case measure => simp [intOf]; omega
                  · have hji : ¬ (j : Int) < (P.length : Int) := by omega
                    have KF2 := Kept.mk hfx
                    have KW2 := Kept.mk hwr
                    clear hfx hwr hbn x1
                    go_wp2
                    go_roundw
                    case rel => exact ⟨1, Nat.le_refl _, by go_num, KF2.out, KW2.out⟩
                    case measure => simp [intOf]
              · obtain rfl : k = 1 := by omega
                have KF := Kept.mk hfx
                clear hfx hwr
                have KB14 : Kept (Below w.heap.size w wr) := ⟨KB13.out.trans (KF.out.below KB13.out.size (fun i hi e => by have := (KgD.out i e).1; have := KB10.out.size; omega))⟩
                have hsz : w9.heap.size ≤ w10.heap.size := Ks10.out
                have KD14 : Kept (Dk wr B8 d S8 (2 + S7.m)) := ⟨KD13.out.far (fun i hi hb => KF.out.block i hi (fun e => by have := (KgD.out i e).1; have := (KBb8.out.2 i hb).2; have := Ks9.out; omega)) (fun _ _ h => h) (Nat.le_refl _)⟩
                have KC14 : Kept (Dk wr (fun i => B12 i ∧ i < w12.heap.size) dc S12 n12) := ⟨KC13.out.far (fun i hi hb => KF.out.block i hi (fun e => by have := (KgD.out i e).2; have := KBc.out.1 i hb.1; omega)) (fun _ _ h => h) (Nat.le_refl _)⟩
                have Ks14 := Kept.mk KF.out.size
                have KG14 := Kept.mk (KG.out.later KB14.out)
                have r2 : Rd .u8 (fun b => ¬ B8 b) wr (.slice a2 Q.length c2) Q := (KR2.out.later KB14.out (Nat.le_refl _)).weak (fun b _ h hb => by have := (KBb8.out.2 b hb).1; omega)
                have hA := K18.out.1.ap pA_path Q (by have := Kl.out; omega) (by have := Kl.out; omega)
                have KAp := Kept.mk (append_any pA _ Q KD14.out KG14.out (by have := Kcm8.out; omega) (by have := Kcm8.out; omega) Kd.out.2.2 r2 KQ.out (by omega) (by have h : S8.used = (P.length : Nat) := K18.out.1.used; omega) (by have h : S8.used = (P.length : Nat) := K18.out.1.used; omega))
                rw [hA.1] at KAp
                have KoneD := Kept.mk hA.2.1
                clear r2 hA
                go_wp2_with fail
                refine Calls.mono KAp.out (fun e w15 hp => ?_)
                obtain ⟨rfl, S15, hd15, hps15, hF15, -⟩ := hp
                have KB15 : Kept (Below w.heap.size w w15) := ⟨KB14.out.trans (hF15.below KB14.out.size (fun i hi e => by have := (KBb8.out.2 i e).1; omega))⟩
                have KD15 := Kept.mk hd15.cut
                rw [← hps15] at KoneD
                have KC15 : Kept (Dk w15 (fun i => B12 i ∧ i < w12.heap.size) dc S12 n12) := ⟨KC14.out.far (fun i hi hb => hF15.block i hi (fun e => by have := (KBb8.out.2 i e).2; have := KBc.out.1 i hb.1; have := Ks9.out; have := Ks11.out; omega)) (fun _ _ h => h) (Nat.le_refl _)⟩
                have Ks15 := Kept.mk hF15.size
                clear hd15 hps15 hF15 KAp
                obtain ⟨w16, hcv, hr16, hb16⟩ := lit_step w15 [122] (by decide)
                have hcv : (convert 23 23 (.slice (some ⟨w15.heap.size, 0, none⟩) 1 1)).run Tryd.prog (w15.alloc (.cells #[.int .u8 122] 5)) = .ok (.slice (some ⟨w15.heap.size, 0, none⟩) 1 1) w16 := hcv
                have KB16 : Kept (Below w.heap.size w w16) := ⟨KB15.out.trans (hb16.mono KB15.out.size)⟩
                have KD16 := Kept.mk (KD15.out.later hb16)
                have KC16 := Kept.mk (KC15.out.later hb16)
                have hdcg : 3 ≤ dc := by have := KBc.out.2; have := KB11.out.size; have := Kgw.out; omega
                have r3 := rd_block hr16 (B := fun i => B12 i ∧ i < w12.heap.size) (fun hb => by have := hb.2; have := Ks13.out; have := Ks14.out; have := Ks15.out; omega)
                have hcnt : S12.count = 0 := Kcri.out.count
                have hqu : S12.used = (P.length : Nat) := K1c.out.used
                have hA := K1c.out.ap pA_path [122] (by have := Kl.out; show P.length + 1 ≤ _; omega) (by have := Kl.out; show (P.length : Int) + 1 ≤ _; omega)
                have KAp2 := Kept.mk (append_any pA _ [122] KC16.out (KG.out.later KB16.out) (by omega) (by omega) hdcg r3 (AllB.of (by decide)) (by decide) (by omega) (by omega))
                rw [hA.1] at KAp2
                have KoneC := Kept.mk hA.2.1
                clear hr16 hb16 r3 hcnt hqu hA hdcg
                go_wp2_with (rw [hcv])
                refine Calls.mono KAp2.out (fun e w17 hp => ?_)
                obtain ⟨rfl, S17, hd17, hps17, hF17, -⟩ := hp
                have KB17 : Kept (Below w.heap.size w w17) := ⟨KB16.out.trans (hF17.below KB16.out.size (fun i hi e => by have := KBc.out.1 i e.1; have := KB11.out.size; omega))⟩
                have KC17 := Kept.mk hd17
                rw [← hps17] at KoneC
                have KD17 : Kept (Dk w17 (fun i => Gr B8 wr i ∧ i < w15.heap.size) d S15 (2 + S7.m)) := ⟨KD16.out.far (fun i hi hb => hF17.block i hi (fun e => by
                  have h1 := KBc.out.1 i e.1
                  rcases hb.1 with h | h
                  · have := (KBb8.out.2 i h).2
                    have := Ks9.out
                    have := Ks11.out
                    omega
                  · have := e.2
                    have := Ks13.out
                    have := Ks14.out
                    omega)) (fun _ _ h => h) (Nat.le_refl _)⟩
                clear hd17 hps17 hF17 KAp2 hcv
                have KRd := Kept.mk (read_any pA KD17.out (KG.out.later KB17.out))
                have hrd := KoneD.out.calm.rdE pA_path KoneD.out.file
                rw [hrd.1, hrd.2] at KRd
                clear hrd
                go_wp2_with fail
                refine Calls.mono KRd.out (fun e w18 hp => ?_)
                obtain ⟨v18, rfl, ho18, hb18⟩ := hp
                have KO18 := Kept.mk ho18
                have KB18 : Kept (Below w.heap.size w w18) := ⟨KB17.out.trans (hb18.mono KB17.out.size)⟩
                have KRd2 := Kept.mk (read_any pA (KC17.out.later hb18) (KG.out.later KB18.out))
                have hrd := KoneC.out.calm.rdE pA_path KoneC.out.file
                rw [hrd.1, hrd.2] at KRd2
                clear hrd ho18 hb18 KRd
                go_wp2_with fail
                refine Calls.mono KRd2.out (fun e w19 hp => ?_)
                obtain ⟨v19, rfl, ho19, hb19⟩ := hp
                have KO19 := Kept.mk ho19
                have KO18' := Kept.mk (KO18.out.later hb19 (Nat.le_refl _))
                have KB19 : Kept (Below w.heap.size w w19) := ⟨KB18.out.trans (hb19.mono KB18.out.size)⟩
                clear ho19 hb19 KRd2
                have KTw := Kept.mk (twin_any _ P w19 (KR1.out.later KB19.out (Nat.le_refl _)) (by omega))
                obtain ⟨i0, z0, hi, hz, hs, hb8, hcz⟩ := info8
                go_wp2_with fail
                refine Calls.mono KTw.out (fun e w20 hp => ?_)
                obtain ⟨v20, rfl, ho20, hb20⟩ := hp
                have KO20 := Kept.mk ho20
                have KB20 : Kept (Below w.heap.size w w20) := ⟨KB19.out.trans (hb20.mono KB19.out.size)⟩
                have hAB : AllB (P ++ Q) := fun x hx => (List.mem_append.1 hx).elim (KP.out x) (KQ.out x)
                have KAB := Kept.mk hAB
                have KR20 := Kept.mk (KR2.out.later KB20.out (Nat.le_refl _))
                have KO18b := Kept.mk (KO18'.out.later hb20 (Nat.le_refl _))
                have KO19b := Kept.mk (KO19.out.later hb20 (Nat.le_refl _))
                obtain ⟨a20, c20, rfl⟩ := own_form ho20
                have Kcap20 := Kept.mk hb20.size
                clear ho20 hb20 KTw hAB
                rename_i hKK
                apply hKK
                go_wp2_with (first | (at_builtin; refine BigFrame.wpList_want (by rfl) (fun K hK => wp_append_rd _ _ 23 rfl .u8 (fun b => b < w.heap.size) 1 w19.heap.size 5 i0 z0 Tryd.underlying23 hi hz hs hb8 hcz (by omega) (.slice a20 P.length c20) P rfl KO20.out _ Q rfl KR20.out (by omega) Kcap20.out (fun v21 w21 hown21 hgrow21 => hK _ _ ?_)); clear hK K; have KO21 := Kept.mk hown21; have KB21 : Kept (Below w19.heap.size w20 w21) := ⟨(Below.refl w19.heap.size w20).grown hgrow21 Kcap20.out (fun k e => (KO20.out.lt k e).1)⟩; have KSa := Kept.mk (same_self _ v21 (P ++ Q) w21 ((KO18b.out).far (fun g hg => KB21.out.block g (KO18'.out.lt g hg).2)).rd KO21.out.rd KAB.out); clear hown21 hgrow21))
                refine Calls.mono KSa.out (fun e w21' hp => ?_)
                obtain ⟨rfl, rfl⟩ := hp
                have KB22 : Kept (Below w.heap.size w w21') := ⟨KB20.out.trans (KB21.out.mono (KB19.out.size))⟩
                have KO19c := Kept.mk (KO19b.out.far (w' := w21') (fun g hg => KB21.out.block g (KO19.out.lt g hg).2))
                have KTw2 := Kept.mk (twin_any _ P w21' (KR1.out.later KB22.out (Nat.le_refl _)) (by omega))
                clear KSa hKK
                go_wp2_with fail
                refine Calls.mono KTw2.out (fun e w22 hp => ?_)
                obtain ⟨v22, rfl, ho22, hb22⟩ := hp
                have KO22 := Kept.mk ho22
                have KB23 : Kept (Below w.heap.size w w22) := ⟨KB22.out.trans (hb22.mono KB22.out.size)⟩
                obtain ⟨w23, hw23⟩ : ∃ w23, w22.alloc (.cells #[.int .u8 122] 5) = w23 := ⟨_, rfl⟩
                have hb23 : Below w22.heap.size w22 w23 := by rw [← hw23]; exact (Below.refl _ _).alloc (Nat.le_refl _) _
                have KR23 : Kept (Rd .u8 (fun b => b = w22.heap.size) w23 (.slice (some ⟨w22.heap.size, 0, none⟩) 1 1) [122]) := ⟨by rw [← hw23]; exact rd_made w22 [122] (by decide) 5⟩
                have KO23 := Kept.mk (KO22.out.later hb23 (Nat.le_refl _))
                have KO19d := Kept.mk ((KO19c.out.later hb22 (Nat.le_refl _)).later hb23 (Nat.le_refl _))
                have KB24 : Kept (Below w.heap.size w w23) := ⟨KB23.out.trans (hb23.mono KB23.out.size)⟩
                have Kcap23 : Kept (w21'.heap.size ≤ w23.heap.size ∧ w19.heap.size ≤ w21'.heap.size) := ⟨Nat.le_trans hb22.size hb23.size, by have := KB21.out.size; have := Kcap20.out; omega⟩
                have KAC : Kept (AllB (P ++ [122])) := ⟨fun x hx => (List.mem_append.1 hx).elim (KP.out x) (fun h => by simp at h; subst h; decide)⟩
                obtain ⟨a22, c22, rfl⟩ := own_form ho22
                clear ho22 hb22 hb23 KTw2
                rename_i hKK
                apply hKK
                go_wp2_with (first | (at_builtin; refine BigFrame.wpList_want (by rfl) (fun K hK => wp_append_rd _ _ 23 rfl .u8 (fun b => b = w22.heap.size) 1 w21'.heap.size 5 i0 z0 Tryd.underlying23 hi hz hs hb8 hcz (by omega) (.slice a22 P.length c22) P rfl KO23.out _ [122] rfl KR23.out (by simp; omega) Kcap23.out.1 (fun v24 w24 hown24 hgrow24 => hK _ _ ?_)); clear hK K; have KO24 := Kept.mk hown24; have KB25 : Kept (Below w21'.heap.size w23 w24) := ⟨(Below.refl w21'.heap.size w23).grown hgrow24 Kcap23.out.1 (fun k e => (KO23.out.lt k e).1)⟩; have KSa := Kept.mk (same_self _ v24 (P ++ [122]) w24 ((KO19d.out).far (fun g hg => KB25.out.block g (Nat.lt_of_lt_of_le (KO19.out.lt g hg).2 Kcap23.out.2))).rd KO24.out.rd KAC.out); clear hown24 hgrow24))
                refine Calls.mono KSa.out (fun e w24' hp => ?_)
                obtain ⟨rfl, rfl⟩ := hp
                have KB26 : Kept (Below w.heap.size w w24') := ⟨KB24.out.trans (KB25.out.mono KB22.out.size)⟩
                clear KSa hKK
                go_wp2
                go_ret
                exact ⟨rfl, KB26.out⟩
end Go.Proofs.YtegdadkejheagaaDoor
