/-
  The law FsFixed.
-/
import Derived.Test.YtegdadkejheagaaDoorFDS
namespace Go.Proofs.YtegdadkejheagaaDoor
open Go.RowKit Go.WideMaps Go.Maps

/-- What is read lies in its own block. -/
theorem rd_at {q : IntKind} {S S' : Nat → Prop} {w : World} {g off n c : Nat} {xs : List Int} (h : Rd q S w (.slice (some ⟨g, off, none⟩) n c) xs) (hg : S' g) : Rd q S' w (.slice (some ⟨g, off, none⟩) n c) xs := by
  obtain ⟨a, c', hv, h1, h2, h3, h4⟩ := h
  refine ⟨a, c', hv, h1, h2, h3, fun h0 => ?_⟩
  obtain ⟨b, o, ha, hl, hs, hc⟩ := h4 h0
  subst ha
  injection hv with e1 _ _
  injection e1 with e1
  injection e1 with e1 _ _
  subst e1
  exact ⟨_, o, rfl, hl, hg, hc⟩
def pB : ByteArray := ⟨#[98]⟩
def pSS : ByteArray := ⟨#[47, 47]⟩
set_option maxRecDepth 100000 in
set_option maxHeartbeats 8000000 in
theorem fsfixed_walk (w : World) (hg : Gl w) : Calls Tryd.prog 4 #[] w fun e w' => e = .returned (.bool true) ∧ Below w.heap.size w w' := by
  have KG := Kept.mk hg
  have Kgw := Kept.mk hg.lo
  have KAw := Kept.mk (awake_any w hg)
  clear hg
  go_enter Tryd.func4, Tryd.ntmps4
  go_wp2_with fail
  refine Calls.mono KAw.out (fun e w0 hp => ?_)
  obtain ⟨rfl, hb0⟩ := hp
  have KB0 : Kept (Below w.heap.size w w0) := ⟨hb0⟩
  clear hb0 KAw
  have K := Kept.mk (new_ds (lo := w.heap.size) 100 w0 (by decide) KB0.out.size)
  go_wp2_with (fail)
  refine Calls.mono K.out (fun e w1 hp => ?_)
  obtain ⟨d, rfl, hd, hb⟩ := hp
  have KD := Kept.mk hd
  have KB1 : Kept (Below w.heap.size w w1) := ⟨KB0.out.trans hb⟩
  clear hb K hd
  have e1 : crE (newS 100).ps pAB = 0 := (calm_new 100).crE pAB_path rfl
  have K := Kept.mk (create_ds pAB KD.out (KG.out.later KB1.out) KB1.out.size (by decide) (by decide) Kgw.out (by decide) (by decide))
  rw [e1] at K
  go_wp2_with (fail)
  refine Calls.mono K.out (fun e w2 hp => ?_)
  obtain ⟨rfl, s1, hd, hcr, hb⟩ := hp
  have h1 := one_file pAB_path hcr
  obtain ⟨f, hN, -, -, hF⟩ := h1.2.2.2.2
  have KO : Kept (One s1 100 pAB f [] 0) := ⟨⟨h1.1, h1.2.1, h1.2.2.1, hN, hF⟩⟩
  have Kc : Kept (s1.count = 1) := ⟨h1.2.2.2.1⟩
  have KD := Kept.mk hd
  have KB2 : Kept (Below w.heap.size w w2) := ⟨KB1.out.trans hb⟩
  clear hb K hd hcr h1 hN hF e1
  have e1 : crE s1 pAB = 8 := KO.out.calm.crE_there pAB_path (fileP_inv KO.out.file).1
  have K := Kept.mk (create_ds pAB KD.out (KG.out.later KB2.out) KB2.out.size (by have := Kc.out; omega) (by have := Kc.out; omega) Kgw.out (by decide) (by decide))
  rw [e1] at K
  go_wp2_with (fail)
  refine Calls.mono K.out (fun e w3 hp => ?_)
  obtain ⟨rfl, s', hd, hcr, hb⟩ := hp
  obtain rfl := crP_bad (by rw [e1]; decide) hcr
  clear hcr
  have Kc : Kept ((bgP s1).count = 2) := ⟨by rw [KO.out.calm.bg_count, Kc.out]; rfl⟩
  have KO := Kept.mk KO.out.bg
  obtain ⟨s2, hs⟩ : ∃ s', bgP s1 = s' := ⟨_, rfl⟩
  rw [hs] at Kc KO hd
  have KD := Kept.mk hd
  have KB3 : Kept (Below w.heap.size w w3) := ⟨KB2.out.trans hb⟩
  clear hb K hd e1 hs
  have e1 : apE s2 pC ([] : List Int).length = 7 := KO.out.calm.apE_none pC_path (by rw [KO.out.N, if_neg pC_ne]) _
  have K := Kept.mk (append_ds pC (.slice none 0 0) [] KD.out (Below.refl _ _) (KG.out.later KB3.out) KB3.out.size (by have := Kc.out; omega) (by have := Kc.out; omega) Kgw.out (Rd.nil _ _ _) AllIn.nil (by decide) (by have := KO.out.used; simp at this; omega) (by have := KO.out.used; simp at this; omega))
  rw [e1] at K
  go_wp2_with (fail)
  refine Calls.mono K.out (fun e w4 hp => ?_)
  obtain ⟨rfl, hd, hb⟩ := hp
  rw [apP_bad (by rw [e1]; decide)] at hd
  have Kc : Kept ((bgP s2).count = 3) := ⟨by rw [KO.out.calm.bg_count, Kc.out]; rfl⟩
  have KO := Kept.mk KO.out.bg
  obtain ⟨s3, hs⟩ : ∃ s', bgP s2 = s' := ⟨_, rfl⟩
  rw [hs] at Kc KO hd
  have KD := Kept.mk hd
  have KB4 : Kept (Below w.heap.size w w4) := ⟨KB3.out.trans hb⟩
  clear hb K hd e1 hs
  have e1 : crE s3 pASB = 1 := KO.out.calm.crE_bad pASB_one
  have K := Kept.mk (create_ds pASB KD.out (KG.out.later KB4.out) KB4.out.size (by have := Kc.out; omega) (by have := Kc.out; omega) Kgw.out (by decide) (by decide))
  rw [e1] at K
  go_wp2_with (fail)
  refine Calls.mono K.out (fun e w5 hp => ?_)
  obtain ⟨rfl, s', hd, hcr, hb⟩ := hp
  obtain rfl := crP_bad (by rw [e1]; decide) hcr
  clear hcr
  have Kc : Kept ((bgP s3).count = 4) := ⟨by rw [KO.out.calm.bg_count, Kc.out]; rfl⟩
  have KO := Kept.mk KO.out.bg
  obtain ⟨s4, hs⟩ : ∃ s', bgP s3 = s' := ⟨_, rfl⟩
  rw [hs] at Kc KO hd
  have KD := Kept.mk hd
  have KB5 : Kept (Below w.heap.size w w5) := ⟨KB4.out.trans hb⟩
  clear hb K hd e1 hs
  have e1 : opEP s4 [pAB, pCB] pAB = 1 := KO.out.calm.opE_bad pAB_CB
  have K := Kept.mk (rename_ds pAB pCB KD.out (KG.out.later KB5.out) KB5.out.size (by have := Kc.out; omega) (by have := Kc.out; omega) Kgw.out (by decide) (by decide) (by have := KO.out.used; simp at this; omega) (by have := KO.out.used; simp at this; omega))
  rw [e1] at K
  go_wp2_with (fail)
  refine Calls.mono K.out (fun e w6 hp => ?_)
  obtain ⟨rfl, hd, hb⟩ := hp
  rw [rnP_bad (by rw [e1]; decide)] at hd
  have Kc : Kept ((bgP s4).count = 5) := ⟨by rw [KO.out.calm.bg_count, Kc.out]; rfl⟩
  have KO := Kept.mk KO.out.bg
  obtain ⟨s5, hs⟩ : ∃ s', bgP s4 = s' := ⟨_, rfl⟩
  rw [hs] at Kc KO hd
  have KD := Kept.mk hd
  have KB6 : Kept (Below w.heap.size w w6) := ⟨KB5.out.trans hb⟩
  clear hb K hd e1 hs
  have e1 : opEP s5 [pX] pX = 7 := KO.out.calm.opE_none pX_path (by rw [KO.out.N, if_neg pX_ne])
  have K := Kept.mk (remove_ds pX KD.out (KG.out.later KB6.out) KB6.out.size (by have := Kc.out; omega) (by have := Kc.out; omega) Kgw.out (by decide) (by decide) (by have := KO.out.used; simp at this; omega) (by have := KO.out.used; simp at this; omega))
  rw [e1] at K
  go_wp2_with (fail)
  refine Calls.mono K.out (fun e w7 hp => ?_)
  obtain ⟨rfl, hd, hb⟩ := hp
  rw [rmP_bad (by rw [e1]; decide)] at hd
  have Kc : Kept ((bgP s5).count = 6) := ⟨by rw [KO.out.calm.bg_count, Kc.out]; rfl⟩
  have KO := Kept.mk KO.out.bg
  obtain ⟨s6, hs⟩ : ∃ s', bgP s5 = s' := ⟨_, rfl⟩
  rw [hs] at Kc KO hd
  have KD := Kept.mk hd
  have KB7 : Kept (Below w.heap.size w w7) := ⟨KB6.out.trans hb⟩
  clear hb K hd e1 hs
  have e1 : bgEP s6 false [] = 0 := KO.out.calm.bgE oneF_nil false
  have K := Kept.mk (syncDir_ds pNo KD.out (KG.out.later KB7.out) KB7.out.size (by have := Kc.out; omega) (by have := Kc.out; omega) Kgw.out (by decide) (by decide) (by decide))
  rw [e1] at K
  go_wp2_with (fail)
  refine Calls.mono K.out (fun e w8 hp => ?_)
  obtain ⟨rfl, -, hb⟩ := hp
  have KB8 : Kept (Below w.heap.size w w8) := ⟨KB7.out.trans hb⟩
  clear hb K e1 KO Kc KD
  have K := Kept.mk (new_ds (lo := w.heap.size) 2 w8 (by decide) KB8.out.size)
  go_wp2_with (fail)
  refine Calls.mono K.out (fun e w9 hp => ?_)
  obtain ⟨q, rfl, hd, hb⟩ := hp
  have KD := Kept.mk hd
  have KB9 : Kept (Below w.heap.size w w9) := ⟨KB8.out.trans hb⟩
  clear hb K hd
  have e1 : crE (newS 2).ps pA = 0 := (calm_new 2).crE pA_path rfl
  have K := Kept.mk (create_ds pA KD.out (KG.out.later KB9.out) KB9.out.size (by decide) (by decide) Kgw.out (by decide) (by decide))
  rw [e1] at K
  go_wp2_with (fail)
  refine Calls.mono K.out (fun e w10 hp => ?_)
  obtain ⟨rfl, t1, hd, hcr, hb⟩ := hp
  have h1 := one_file pA_path hcr
  obtain ⟨g, hN, -, -, hF⟩ := h1.2.2.2.2
  have KO : Kept (One t1 2 pA g [] 0) := ⟨⟨h1.1, h1.2.1, h1.2.2.1, hN, hF⟩⟩
  have Kc : Kept (t1.count = 1) := ⟨h1.2.2.2.1⟩
  have KD := Kept.mk hd
  have KB10 : Kept (Below w.heap.size w w10) := ⟨KB9.out.trans hb⟩
  clear hb K hd hcr h1 hN hF e1
  obtain ⟨v10, hcv, hr, hbv⟩ := lit_step w10 [120, 121, 122] (by decide)
  have hcv : (convert 23 23 (.slice (some ⟨w10.heap.size, 0, none⟩) 3 3)).run Tryd.prog (w10.alloc (.cells #[.int .u8 120, .int .u8 121, .int .u8 122] 5)) = .ok (.slice (some ⟨w10.heap.size, 0, none⟩) 3 3) v10 := hcv
  have KBv : Kept (Below w.heap.size w v10) := ⟨KB10.out.trans (hbv.mono KB10.out.size)⟩
  have e1 : apE t1 pA ([120, 121, 122] : List Int).length = 12 := KO.out.calm.apE_full pA_path KO.out.file (by decide) (by rw [KO.out.used, KO.out.quota]; decide)
  have K := Kept.mk (append_ds pA _ [120, 121, 122] KD.out hbv (KG.out.later KBv.out) KB10.out.size (by have := Kc.out; omega) (by have := Kc.out; omega) Kgw.out (rd_at hr (.inl (Nat.le_refl _))) (AllB.of (by decide)) (by decide) (by have := KO.out.used; simp at this; omega) (by have := KO.out.used; simp at this; omega))
  rw [e1] at K
  clear hr hbv
  go_wp2_with (rw [hcv])
  refine Calls.mono K.out (fun e w11 hp => ?_)
  obtain ⟨rfl, hd, hb⟩ := hp
  rw [apP_bad (by rw [e1]; decide)] at hd
  have Kc : Kept ((bgP t1).count = 2) := ⟨by rw [KO.out.calm.bg_count, Kc.out]; rfl⟩
  have KO := Kept.mk KO.out.bg
  have KD := Kept.mk hd
  clear hd e1
  have KB11 : Kept (Below w.heap.size w w11) := ⟨KBv.out.trans hb⟩
  clear hb K hcv KBv
  obtain ⟨v11, hcv, hr, hbv⟩ := lit_step w11 [120, 121] (by decide)
  have hcv : (convert 23 23 (.slice (some ⟨w11.heap.size, 0, none⟩) 2 2)).run Tryd.prog (w11.alloc (.cells #[.int .u8 120, .int .u8 121] 5)) = .ok (.slice (some ⟨w11.heap.size, 0, none⟩) 2 2) v11 := hcv
  have KBv : Kept (Below w.heap.size w v11) := ⟨KB11.out.trans (hbv.mono KB11.out.size)⟩
  have e1 : apE (bgP t1) pA ([120, 121] : List Int).length = 0 := (KO.out.ap pA_path [120, 121] (by decide) (by decide)).1
  have K := Kept.mk (append_ds pA _ [120, 121] KD.out hbv (KG.out.later KBv.out) KB11.out.size (by have := Kc.out; omega) (by have := Kc.out; omega) Kgw.out (rd_at hr (.inl (Nat.le_refl _))) (AllB.of (by decide)) (by decide) (by have := KO.out.used; simp at this; omega) (by have := KO.out.used; simp at this; omega))
  rw [e1] at K
  clear hr hbv
  go_wp2_with (rw [hcv])
  refine Calls.mono K.out (fun e w12 hp => ?_)
  obtain ⟨rfl, -, hb⟩ := hp
  clear e1 KO Kc KD
  have KB12 : Kept (Below w.heap.size w w12) := ⟨KBv.out.trans hb⟩
  clear hb K hcv KBv
  have K := Kept.mk (new_ds (lo := w.heap.size) 100 w12 (by decide) KB12.out.size)
  go_wp2_with (fail)
  refine Calls.mono K.out (fun e w13 hp => ?_)
  obtain ⟨p, rfl, hd, hb⟩ := hp
  have KD := Kept.mk hd
  have KB13 : Kept (Below w.heap.size w w13) := ⟨KB12.out.trans hb⟩
  clear hb K hd
  obtain ⟨u1, hu1⟩ : ∃ u1, w13.alloc (.cells #[.int .i64 2] 3) = u1 := ⟨_, rfl⟩
  have hbu : Below w13.heap.size w13 u1 := by rw [← hu1]; exact (Below.refl _ _).alloc (Nat.le_refl _) _
  have hru : Rd .i64 anyB u1 (.slice (some ⟨w13.heap.size, 0, none⟩) 1 1) [2] := by rw [← hu1]; exact Rd.one .i64 w13 2 3
  have KBv : Kept (Below w.heap.size w u1) := ⟨KB13.out.trans (hbu.mono KB13.out.size)⟩
  have K := Kept.mk (plan_ds _ [2] 3 KD.out hbu KB13.out.size (rd_at hru (.inl (Nat.le_refl _))) (fun i hi => by simp at hi; subst hi; unfold I64; decide) (by decide))
  clear hru hbu
  go_wp2_with (fail)
  refine Calls.mono K.out (fun e w14 hp => ?_)
  obtain ⟨rfl, hd, hb⟩ := hp
  have KD := Kept.mk hd
  have KB14 : Kept (Below w.heap.size w w14) := ⟨KBv.out.trans hb⟩
  clear hb K KBv hd hu1
  have e1 : crE (plP (newS 100).ps [2] 3) pA = 0 := by unfold crE; rw [if_pos (ex3_new.bgE0 (oneF_single pA_path))]; rfl
  have K := Kept.mk (create_ds pA KD.out (KG.out.later KB14.out) KB14.out.size (by decide) (by decide) Kgw.out (by decide) (by decide))
  rw [e1] at K
  go_wp2_with (fail)
  refine Calls.mono K.out (fun e w15 hp => ?_)
  obtain ⟨rfl, x1, hd, hcr, hb⟩ := hp
  have KE := Kept.mk (ex3_one hcr)
  have KD := Kept.mk hd
  have KB15 : Kept (Below w.heap.size w w15) := ⟨KB14.out.trans hb⟩
  clear hb K hd hcr e1
  have e1 : apE x1 pA ([] : List Int).length = 11 := KE.out.1.apE1 _
  have K := Kept.mk (append_ds pA (.slice none 0 0) [] KD.out (Below.refl _ _) (KG.out.later KB15.out) KB15.out.size (by have := KE.out.1.count; omega) (by have := KE.out.1.count; omega) Kgw.out (Rd.nil _ _ _) AllIn.nil (by decide) (by have := KE.out.2; omega) (by have := KE.out.2; omega))
  rw [e1] at K
  go_wp2_with (fail)
  refine Calls.mono K.out (fun e w16 hp => ?_)
  obtain ⟨rfl, hd, hb⟩ := hp
  rw [apP_bad (by rw [e1]; decide)] at hd
  have KE : Kept (Ex3 (bgP x1) 2 false ∧ (bgP x1).used = 0) := ⟨KE.out.1.bg1, by rw [bgP_used]; exact KE.out.2⟩
  have KD := Kept.mk hd
  have KB16 : Kept (Below w.heap.size w w16) := ⟨KB15.out.trans hb⟩
  clear hb K hd e1
  have e1 : apE (bgP x1) pA ([] : List Int).length = 13 := KE.out.1.apE2 _
  have K := Kept.mk (append_ds pA (.slice none 0 0) [] KD.out (Below.refl _ _) (KG.out.later KB16.out) KB16.out.size (by have := KE.out.1.count; omega) (by have := KE.out.1.count; omega) Kgw.out (Rd.nil _ _ _) AllIn.nil (by decide) (by have := KE.out.2; omega) (by have := KE.out.2; omega))
  rw [e1] at K
  go_wp2_with (fail)
  refine Calls.mono K.out (fun e w17 hp => ?_)
  obtain ⟨rfl, hd, hb⟩ := hp
  rw [apP_bad (by rw [e1]; decide)] at hd
  have KE : Kept (Ex3 (bgP (bgP x1)) 3 true) := ⟨KE.out.1.bg2⟩
  have KD := Kept.mk hd
  have KB17 : Kept (Below w.heap.size w w17) := ⟨KB16.out.trans hb⟩
  clear hb K hd e1
  have e1 := KE.out.rdE pA
  have K := Kept.mk (read_ds pA KD.out (KG.out.later KB17.out))
  rw [e1] at K
  go_wp2_with (fail)
  refine Calls.mono K.out (fun e w18 hp => ?_)
  obtain ⟨vr, rfl, -, hb⟩ := hp
  have KD := Kept.mk (KD.out.later hb)
  have KB18 : Kept (Below w.heap.size w w18) := ⟨KB17.out.trans (hb.mono KB17.out.size)⟩
  clear hb K e1
  have e1 := KE.out.dark
  have K := Kept.mk (off_ds KD.out)
  rw [e1] at K
  go_wp2_with (fail)
  refine Calls.mono K.out (fun e w19 hp => ?_)
  obtain ⟨rfl, rfl⟩ := hp
  have KB19 : Kept (Below w.heap.size w w19) := KB18
  clear K e1
  have e1 := KE.out.count
  have K := Kept.mk (count_ds KD.out)
  rw [e1] at K
  go_wp2_with (fail)
  refine Calls.mono K.out (fun e w20 hp => ?_)
  obtain ⟨rfl, rfl⟩ := hp
  have KB20 : Kept (Below w.heap.size w w20) := KB19
  clear K e1 KD KE
  have K := Kept.mk (plan_nil (.slice none 0 0) 3 w20 ⟨_, _, _, rfl⟩)
  go_wp2_with (fail)
  refine Calls.mono K.out (fun e w21 hp => ?_)
  obtain ⟨rfl, rfl⟩ := hp
  have KB21 : Kept (Below w.heap.size w w21) := KB20
  clear K 
  have K := Kept.mk (read_nil pA w21)
  go_wp2_with (fail)
  refine Calls.mono K.out (fun e w22 hp => ?_)
  obtain ⟨rfl, rfl⟩ := hp
  have KB22 : Kept (Below w.heap.size w w22) := KB21
  clear K 
  have K := Kept.mk (files_nil w22)
  go_wp2_with (fail)
  refine Calls.mono K.out (fun e w23 hp => ?_)
  obtain ⟨rfl, rfl⟩ := hp
  have KB23 : Kept (Below w.heap.size w w23) := KB22
  clear K 
  have K := Kept.mk (crash_nil (.slice none 0 0) w23)
  go_wp2_with (fail)
  refine Calls.mono K.out (fun e w24 hp => ?_)
  obtain ⟨rfl, rfl⟩ := hp
  have KB24 : Kept (Below w.heap.size w w24) := KB23
  clear K 
  have K := Kept.mk (create_nil pA w24)
  go_wp2_with (fail)
  refine Calls.mono K.out (fun e w25 hp => ?_)
  obtain ⟨rfl, hb⟩ := hp
  have KB25 : Kept (Below w.heap.size w w25) := ⟨KB24.out.trans (hb.mono KB24.out.size)⟩
  clear hb K 
  have K := Kept.mk (append_nil pSS (.slice none 0 0) w25 ⟨_, _, _, rfl⟩)
  go_wp2_with (fail)
  refine Calls.mono K.out (fun e w26 hp => ?_)
  obtain ⟨rfl, hb⟩ := hp
  have KB26 : Kept (Below w.heap.size w w26) := ⟨KB25.out.trans (hb.mono KB25.out.size)⟩
  clear hb K 
  have K := Kept.mk (sync_nil pA w26)
  go_wp2_with (fail)
  refine Calls.mono K.out (fun e w27 hp => ?_)
  obtain ⟨rfl, hb⟩ := hp
  have KB27 : Kept (Below w.heap.size w w27) := ⟨KB26.out.trans (hb.mono KB26.out.size)⟩
  clear hb K 
  have K := Kept.mk (rename_nil pA pB w27)
  go_wp2_with (fail)
  refine Calls.mono K.out (fun e w28 hp => ?_)
  obtain ⟨rfl, hb⟩ := hp
  have KB28 : Kept (Below w.heap.size w w28) := ⟨KB27.out.trans (hb.mono KB27.out.size)⟩
  clear hb K 
  have K := Kept.mk (remove_nil pA w28)
  go_wp2_with (fail)
  refine Calls.mono K.out (fun e w29 hp => ?_)
  obtain ⟨rfl, hb⟩ := hp
  have KB29 : Kept (Below w.heap.size w w29) := ⟨KB28.out.trans (hb.mono KB28.out.size)⟩
  clear hb K 
  have K := Kept.mk (syncDir_nil pE w29)
  go_wp2_with (fail)
  refine Calls.mono K.out (fun e w30 hp => ?_)
  obtain ⟨rfl, rfl⟩ := hp
  have KB30 : Kept (Below w.heap.size w w30) := KB29
  clear K 
  have K := Kept.mk (off_nil w30)
  go_wp2_with (fail)
  refine Calls.mono K.out (fun e w31 hp => ?_)
  obtain ⟨rfl, rfl⟩ := hp
  have KB31 : Kept (Below w.heap.size w w31) := KB30
  clear K 
  have K := Kept.mk (count_nil w31)
  go_wp2_with (fail)
  refine Calls.mono K.out (fun e w32 hp => ?_)
  obtain ⟨rfl, rfl⟩ := hp
  have KB32 : Kept (Below w.heap.size w w32) := KB31
  clear K 
  go_wp2
  go_ret
  exact ⟨rfl, KB32.out⟩
end Go.Proofs.YtegdadkejheagaaDoor
