/-
  The document's made: kind 2.
-/
import Derived.Test.YtegdadkejheagaaGreatDoorG12
namespace Go.Proofs.YtegdadkejheagaaGreatDoor
open Go.RowKit Go.WideMaps Go.Maps

set_option maxHeartbeats 4000000 in
set_option maxRecDepth 100000 in
theorem made2_any {G S : Nat → Prop} (D : DD) (V : DVs) (pt pto : ByteArray) (v : Value) (da : List Int) (w : World) (h : DM G w D V) {k : Nat} (hD : DL D k) (hk : k ≤ 1000) (hv : Rd .u8 S w v da) (hA : AllB da) (hl : da.length ≤ 1000) (hr : ∀ x ∈ D.names, 1 ≤ x.2 ∧ x.2 ≤ D.files.length) (hF0 : nmF D.names pt ≠ 0) :
    Calls Tryz.prog 17 #[.agg #[V.n, V.l, V.p, V.f, .int .i64 D.quota, .slice none 0 0, .int .i64 D.offAt, .int .i64 D.count, .bool D.off], .agg #[.int .i64 2, .string pt, .string pto, v]] w fun e w' => ∃ V', e = .returned (.agg #[V'.n, V'.l, V'.p, V'.f, .int .i64 (madeF D ⟨2, pt, pto, da⟩).quota, .slice none 0 0, .int .i64 (madeF D ⟨2, pt, pto, da⟩).offAt, .int .i64 (madeF D ⟨2, pt, pto, da⟩).count, .bool (madeF D ⟨2, pt, pto, da⟩).off]) ∧ DM (Gn G w) w' (madeF D ⟨2, pt, pto, da⟩) V' ∧ Below w.heap.size w w' := by
  obtain ⟨D9, hD9⟩ : ∃ D9 : DD, { D with files := putC D.files (nmF D.names pt) ((ctF D.files (nmF D.names pt)).1 ++ da, (ctF D.files (nmF D.names pt)).2) } = D9 := ⟨_, rfl⟩
  have KD9 := Kept.mk hD9
  have KF0 := Kept.mk hF0
  have KFr := Kept.mk hr
  have Kdl := Kept.mk hl
  obtain ⟨i8, z8, hi8, hz8, hs8, hb8, hc8⟩ := info8
  clear hF0 hr hl
  have KM : Kept (madeF D ⟨2, pt, pto, da⟩ = D9) := ⟨by rw [← hD9]; unfold madeF; rw [if_neg (by show ¬ (2 : Int) = 1; decide), if_pos rfl]⟩
  obtain ⟨va, vc, rfl, -, -, -⟩ := hv.form
  obtain ⟨w1, w2, w3, hw1, hw2, hw3, hb13, l1, l2, l3, x1, x2, x3⟩ := boxes3 w [V.n, V.l, V.p, V.f, .int .i64 D.quota, .slice none 0 0, .int .i64 D.offAt, .int .i64 D.count, .bool D.off] [.int .i64 2, .string pt, .string pto, .slice va da.length vc] [.slice none 0 0, .slice none 0 0, .slice none 0 0, .slice none 0 0, .int .i64 0, .slice none 0 0, .int .i64 0, .int .i64 0, .bool false] 36 38 36
  have KB3 := Kept.mk hb13
  have KH := Kept.mk h
  have KHg := Kept.mk (h.gb w3.heap.size)
  have hbn := Nat.le_trans hD.n hk
  have hbp := Nat.le_trans (Nat.le_trans (Nat.le_add_left _ _) hD.l) hk
  have hbf := Nat.le_trans hD.f hk
  have KAt := Kept.mk (at_any V.n D.names pt w3 (h.n.later hb13) (by omega))
  obtain ⟨g, hgw⟩ : ∃ g, w.heap.size = g := ⟨_, rfl⟩
  obtain ⟨g2, hgw2⟩ : ∃ g2, w1.heap.size = g2 := ⟨_, rfl⟩
  obtain ⟨g4, hgw4⟩ : ∃ g4, w2.heap.size = g4 := ⟨_, rfl⟩
  rw [hgw] at x1
  rw [hgw2] at x2
  rw [hgw4] at x3
  have Kg : Kept (w.heap.size = g ∧ g < g2 ∧ g2 < g4 ∧ g4 < w3.heap.size) := ⟨by omega⟩
  have c0 := x1.cell 0 _ rfl
  have d1 := x2.cell 1 _ rfl
  have KK := Kept.mk (And.intro x1 (And.intro x2 x3))
  have Kvd := Kept.mk (And.intro hv hA)
  have Kdf := Kept.mk hD.x
  clear hD9
  clear h hb13 l1 l2 l3 x1 x2 x3 hv hA hD
  obtain ⟨F, hF⟩ : ∃ F, nmF D.names pt = F := ⟨_, rfl⟩
  rw [hF] at KAt
  try rw [hF] at KM
  have KFe := Kept.mk hF
  clear hF
  go_enter Tryz.func17, Tryz.ntmps17
  go_wp2_with fail
  refine Calls.mono KAt.out (fun e w4 hp => ?_)
  obtain ⟨rfl, hb4⟩ := hp
  have KB4 : Kept (Below w.heap.size w w4) := ⟨KB3.out.trans (hb4.mono KB3.out.size)⟩
  have KK4 := Kept.mk (And.intro (KK.out.1.below hb4) (And.intro (KK.out.2.1.below hb4) (KK.out.2.2.below hb4)))
  have Ks4 : Kept (w3.heap.size ≤ w4.heap.size) := ⟨hb4.size⟩
  clear hb4 KAt c0 d1 hw1 hw2 hw3 KK
  have d0 := KK4.out.2.1.cell 0 _ rfl
  have d1 := KK4.out.2.1.cell 1 _ rfl
  have d2 := KK4.out.2.1.cell 2 _ rfl
  have d3 := KK4.out.2.1.cell 3 _ rfl
  have KR := Kept.mk KK4.out.1.range
  obtain ⟨ms, hms, hfv, hdat⟩ := KHg.out.f
  have Kms := Kept.mk hms
  have hml : ms.length = D.files.length := by rw [← hms, List.length_map]
  have Kml := Kept.mk hml
  have KCo := Kept.mk (contents_any V.f ms w4 (hfv.later KB4.out) (fun m hm => (hdat m hm).1.later KB4.out (Nat.le_refl _)) (by omega))
  have Kdat := Kept.mk hdat
  have c3 := KK4.out.1.cell 3 _ rfl
  have f3 := KK4.out.1.frozen 3
  have hFr : F ≠ 0 ∧ F ≤ D.files.length := by
    rw [← KFe.out]
    refine ⟨KF0.out, ?_⟩
    unfold nmF
    cases hx : lk D.names pt with
    | none => simp
    | some x => exact (KFr.out _ (lk_mem hx)).2
  obtain ⟨f, rfl⟩ : ∃ f, F = f + 1 := ⟨F - 1, by omega⟩
  have hfm : f < ms.length := by omega
  have hct : ctF D.files (f + 1) = ((ms[f]'hfm).xs, (ms[f]'hfm).s) := by
    unfold ctF
    rw [← hms]
    simp [List.getD, List.getElem?_eq_getElem hfm]
  have Kmx := Kept.mk (Kdf.out _ (by rw [← hms]; exact List.mem_map.2 ⟨_, List.getElem_mem hfm, rfl⟩))
  have Kmd := Kept.mk (hdat _ (List.getElem_mem hfm))
  obtain ⟨m, hm⟩ : ∃ m, ms[f]'hfm = m := ⟨_, rfl⟩
  rw [hm] at hct Kmx Kmd
  have Khm := Kept.mk hm
  have Kct := Kept.mk hct
  have Kfm := Kept.mk hfm
  obtain ⟨xa, xc, hmv, -, -, -⟩ := Kmd.out.1.form
  have Kmv := Kept.mk hmv
  have Kf : Kept (f < 1000) := ⟨by omega⟩
  clear hms hml hfv hdat hFr hct hm hmv
  go_wp2_with fail
  refine Calls.mono KCo.out (fun e w5 hp => ?_)
  obtain ⟨v5, rfl, ho5, hb5⟩ := hp
  obtain ⟨gq, cq, hv5, hcq, hgq, cx, -⟩ := ho5.cell (i := f) (j := 0) (u := m.v) (by rw [List.length_map]; exact Kfm.out) (by rw [List.getElem_map, Khm.out]; rfl)
  rw [List.length_map] at hv5 hcq
  subst hv5
  have KB5 : Kept (Below w.heap.size w w5) := ⟨KB4.out.trans (hb5.mono KB4.out.size)⟩
  have KK5 := Kept.mk (And.intro (KK4.out.1.below hb5) (And.intro (KK4.out.2.1.below hb5) (KK4.out.2.2.below hb5)))
  have Kgq := Kept.mk (ho5.lt gq rfl)
  have KO5 := Kept.mk ho5
  have c3 := KK5.out.1.cell 3 _ rfl
  have f3 := KK5.out.1.frozen 3
  clear hb5 ho5 KCo KK4 d0 d1 d2 d3 KR cx hgq
  obtain ⟨w6, hw6⟩ : ∃ w6, w5.setCell ⟨g, 3, none⟩ (Value.slice (some ⟨gq, 0, none⟩) ms.length cq) = w6 := ⟨_, rfl⟩
  have KB6 : Kept (Below w.heap.size w w6) := ⟨by rw [← hw6]; exact KB5.out.setCell (p := ⟨g, 3, none⟩) (by show w.heap.size ≤ g; have := Kg.out; omega) _⟩
  have KK6 : Kept (Bk w6 g 36 [V.n, V.l, V.p, .slice (some ⟨gq, 0, none⟩) ms.length cq, .int .i64 D.quota, .slice none 0 0, .int .i64 D.offAt, .int .i64 D.count, .bool D.off] ∧ Bk w6 g2 38 [.int .i64 2, .string pt, .string pto, .slice va da.length vc] ∧ Bk w6 g4 36 [.slice none 0 0, .slice none 0 0, .slice none 0 0, .slice none 0 0, .int .i64 0, .slice none 0 0, .int .i64 0, .int .i64 0, .bool false]) := ⟨by
    rw [← hw6]
    exact ⟨KK5.out.1.set 3 _, KK5.out.2.1.store (by have := Kg.out; omega), KK5.out.2.2.store (by have := Kg.out; omega)⟩⟩
  have KO6 : Kept (OwK w6 w4.heap.size 83 2 (.slice (some ⟨gq, 0, none⟩) ms.length cq) (ms.map ctC)) := ⟨KO5.out.far (fun q hq => by
    rw [← hw6]
    exact Below.heap_setCell w5 _ _ q (by have := (KO5.out.lt q hq).1; have := Ks4.out; have := Kg.out; show q ≠ g; omega))⟩
  have Ks6 : Kept (w5.heap.size = w6.heap.size ∧ w4.heap.size ≤ w5.heap.size) := ⟨by rw [← hw6]; exact ⟨by simp [World.setCell], by have := Kgq.out; omega⟩⟩
  go_upto_region 8 with fail
  try rw [hw6]
  clear hw6 KK5 KO5 KB5 c3 f3
  have c3 := KK6.out.1.cell 3 _ rfl
  have d3 := KK6.out.2.1.cell 3 _ rfl
  obtain ⟨gq', cq', hv, -, hg', cx, -⟩ := KO6.out.cell (i := f) (j := 0) (u := m.v) (by rw [List.length_map]; exact Kfm.out) (by rw [List.getElem_map, Khm.out]; rfl)
  injection hg' with hg'
  simp only at hg'
  subst hg'
  rw [Nat.add_zero, Kmv.out] at cx
  have hfi : (f : Int) < (ms.length : Int) := by have := Kfm.out; omega
  have hf0 : (0 : Int) ≤ (f : Int) := by omega
  have e1 : IntKind.i64.wrap ((f : Int) + 1 - 1) = (f : Int) := by
    have ef : (f : Int) + 1 - 1 = (f : Int) := by omega
    rw [ef]
    have := Kf.out
    exact wr64 (by omega) (by omega)
  clear hv
  generalize (f : Int) + 1 = f1 at *
  have hS0 : w6.drew.cell? ⟨g, 3, none⟩ = some (.slice (some ⟨gq, 0, none⟩) ms.length cq) ∧ w6.drew.cell? ⟨g2, 3, none⟩ = some (.slice va da.length vc) := ⟨c3, d3⟩
  refine wp_region_noPanic ?_
  refine wp_region_held_drew (S := fun W => W.cell? ⟨g, 3, none⟩ = some (.slice (some ⟨gq, 0, none⟩) ms.length cq) ∧ W.cell? ⟨g2, 3, none⟩ = some (.slice va da.length vc)) (by kernel_rfl) hS0 (fun hHeld => ?_)
  clear hS0
  have cx : w6.drew.cell? ⟨gq, f * 2, none⟩ = some (.slice xa m.xs.length xc) := cx
  obtain ⟨W0, hW0⟩ : ∃ W0, w6.drew = W0 := ⟨_, rfl⟩
  have hbW : Below w6.heap.size w6 W0 := by rw [← hW0]; exact (Below.refl _ _).drew
  have KB0 : Kept (Below w.heap.size w W0) := ⟨KB6.out.trans (hbW.mono KB6.out.size)⟩
  have KK0 := Kept.mk (And.intro (KK6.out.1.below hbW) (And.intro (KK6.out.2.1.below hbW) (KK6.out.2.2.below hbW)))
  have KO0 := Kept.mk (KO6.out.later hbW)
  have Ks0 : Kept (w6.heap.size ≤ W0.heap.size) := ⟨hbW.size⟩
  rw [hW0] at hHeld cx ⊢
  clear hW0 hbW c3 d3 KK6 KO6
  refine wpAnyH_takeD (i := 0) (d := some 39) (v := .pointer (some ⟨g, 3, none⟩)) rfl rfl (by kernel_rfl) (by kernel_rfl) (by kernel_rfl) (fun _ _ _ h => h) (Or.inl ⟨by rfl, fun W hSw => by obtain ⟨hS0, hS1⟩ := hSw; go_simp⟩) (by assumption) ?_
  simp only [Act.put, List.setIfInBounds_toArray, List.set_cons_zero, List.set_cons_succ]
  refine wpAnyH_takeD (i := 1) (d := some 40) (v := .slice (some ⟨gq, 0, none⟩) ms.length cq) rfl rfl (by kernel_rfl) (by kernel_rfl) (by kernel_rfl) (fun _ _ _ h => h) (Or.inl ⟨by rfl, fun W hSw => by obtain ⟨hS0, hS1⟩ := hSw; go_simp⟩) (by assumption) ?_
  simp only [Act.put, List.setIfInBounds_toArray, List.set_cons_zero, List.set_cons_succ]
  refine wpAnyH_takeD (i := 2) (d := some 41) (v := .int .i64 f1) rfl rfl (by kernel_rfl) (by kernel_rfl) (by kernel_rfl) (fun _ _ _ h => h) (Or.inl ⟨by rfl, fun W hSw => by obtain ⟨hS0, hS1⟩ := hSw; go_simp⟩) (by assumption) ?_
  simp only [Act.put, List.setIfInBounds_toArray, List.set_cons_zero, List.set_cons_succ]
  refine wpAnyH_takeD (i := 3) (d := some 42) (v := .int .i64 (f : Int)) rfl rfl (by kernel_rfl) (by kernel_rfl) (by kernel_rfl) (fun _ _ _ h => h) (Or.inl ⟨by rfl, fun W hSw => by obtain ⟨hS0, hS1⟩ := hSw; go_simp⟩) (by assumption) ?_
  simp only [Act.put, List.setIfInBounds_toArray, List.set_cons_zero, List.set_cons_succ]
  refine wpAnyH_takeD (i := 4) (d := some 43) (v := .pointer (some ⟨g, 3, none⟩)) rfl rfl (by kernel_rfl) (by kernel_rfl) (by kernel_rfl) (fun _ _ _ h => h) (Or.inl ⟨by rfl, fun W hSw => by obtain ⟨hS0, hS1⟩ := hSw; go_simp⟩) (by assumption) ?_
  simp only [Act.put, List.setIfInBounds_toArray, List.set_cons_zero, List.set_cons_succ]
  refine wpAnyH_takeD (i := 5) (d := some 44) (v := .slice (some ⟨gq, 0, none⟩) ms.length cq) rfl rfl (by kernel_rfl) (by kernel_rfl) (by kernel_rfl) (fun _ _ _ h => h) (Or.inl ⟨by rfl, fun W hSw => by obtain ⟨hS0, hS1⟩ := hSw; go_simp⟩) (by assumption) ?_
  simp only [Act.put, List.setIfInBounds_toArray, List.set_cons_zero, List.set_cons_succ]
  refine wpAnyH_takeD (i := 6) (d := some 45) (v := .int .i64 f1) rfl rfl (by kernel_rfl) (by kernel_rfl) (by kernel_rfl) (fun _ _ _ h => h) (Or.inl ⟨by rfl, fun W hSw => by obtain ⟨hS0, hS1⟩ := hSw; go_simp⟩) (by assumption) ?_
  simp only [Act.put, List.setIfInBounds_toArray, List.set_cons_zero, List.set_cons_succ]
  refine wpAnyH_takeD (i := 7) (d := some 46) (v := .int .i64 (f : Int)) rfl rfl (by kernel_rfl) (by kernel_rfl) (by kernel_rfl) (fun _ _ _ h => h) (Or.inl ⟨by rfl, fun W hSw => by obtain ⟨hS0, hS1⟩ := hSw; go_simp⟩) (by assumption) ?_
  simp only [Act.put, List.setIfInBounds_toArray, List.set_cons_zero, List.set_cons_succ]
  refine wpAnyH_takeD (i := 8) (d := some 47) (v := .pointer (some ⟨gq, f * 2, none⟩)) rfl rfl (by kernel_rfl) (by kernel_rfl) (by kernel_rfl) (fun _ _ _ h => h) (Or.inl ⟨by rfl, fun W hSw => by obtain ⟨hS0, hS1⟩ := hSw; go_simp⟩) (by assumption) ?_
  simp only [Act.put, List.setIfInBounds_toArray, List.set_cons_zero, List.set_cons_succ]
  refine wpAnyH_takeD (i := 9) (d := some 48) (v := .pointer (some ⟨gq, f * 2, none⟩)) rfl rfl (by kernel_rfl) (by kernel_rfl) (by kernel_rfl) (fun _ _ _ h => h) (Or.inl ⟨by rfl, fun W hSw => by obtain ⟨hS0, hS1⟩ := hSw; go_simp⟩) (by assumption) ?_
  simp only [Act.put, List.setIfInBounds_toArray, List.set_cons_zero, List.set_cons_succ]
  refine wpAnyH_takeD (i := 12) (d := some 51) (v := .pointer (some ⟨g2, 3, none⟩)) rfl rfl (by kernel_rfl) (by kernel_rfl) (by kernel_rfl) (fun _ _ _ h => h) (Or.inl ⟨by rfl, fun W hSw => by obtain ⟨hS0, hS1⟩ := hSw; go_simp⟩) (by assumption) ?_
  simp only [Act.put, List.setIfInBounds_toArray, List.set_cons_zero, List.set_cons_succ]
  refine wpAnyH_takeD (i := 13) (d := some 52) (v := .slice va da.length vc) rfl rfl (by kernel_rfl) (by kernel_rfl) (by kernel_rfl) (fun _ _ _ h => h) (Or.inl ⟨by rfl, fun W hSw => by obtain ⟨hS0, hS1⟩ := hSw; go_simp⟩) (by assumption) ?_
  simp only [Act.put, List.setIfInBounds_toArray, List.set_cons_zero, List.set_cons_succ]
  refine wpAnyH_ready (rs := [10]) (by kernel_rfl) (by simp) ?_
  refine AllReadyH.cons (o := _) rfl (fun K hK => ?_) AllReadyH.nil
  rw [if_pos (by rfl)]
  go_simp
  refine hK.out _ _ hHeld (fun hHeldX => ?_)
  clear hK K hHeldX cx
  have KT := Kept.mk (twin_any _ m.xs W0 (by have := Kmd.out.1.later KB0.out (Nat.le_refl _); rw [Kmv.out] at this; exact this) (by have := Kmx.out.1; omega))
  refine wpAnyH_ready (rs := [11]) (by kernel_rfl) (by simp) ?_
  refine AllReadyH.cons (o := _) rfl (fun K hK => ?_) AllReadyH.nil
  rw [if_pos (by rfl)]
  go_simp
  refine Calls.mono KT.out (fun e w7 hp => ?_)
  obtain ⟨v7, rfl, ho7, hb7⟩ := hp
  obtain ⟨ta, tc, rfl⟩ := own_form ho7
  have KB7 : Kept (Below w.heap.size w w7) := ⟨KB0.out.trans (hb7.mono KB0.out.size)⟩
  have KK7 := Kept.mk (And.intro (KK0.out.1.below hb7) (And.intro (KK0.out.2.1.below hb7) (KK0.out.2.2.below hb7)))
  have KO7 := Kept.mk (KO0.out.later hb7)
  have KT7 := Kept.mk ho7
  have Ks7 : Kept (W0.heap.size ≤ w7.heap.size) := ⟨hb7.size⟩
  have hHeld7 : w7.cell? ⟨g, 3, none⟩ = some (.slice (some ⟨gq, 0, none⟩) ms.length cq) ∧ w7.cell? ⟨g2, 3, none⟩ = some (.slice va da.length vc) := ⟨KK7.out.1.cell 3 _ rfl, KK7.out.2.1.cell 3 _ rfl⟩
  refine hK.out _ _ hHeld7 (fun hHeldX => ?_)
  clear hK K hHeldX KT hb7 ho7 KK0 KO0 hHeld
  refine wpAnyH_ready (rs := [14]) (by kernel_rfl) (by simp) ?_
  refine AllReadyH.cons (o := _) rfl (fun K hK => ?_) AllReadyH.nil
  rw [if_pos (by rfl)]
  refine wp_append_rd _ _ 23 rfl .u8 S 1 W0.heap.size 5 i8 z8 Tryz.underlying23 hi8 hz8 hs8 hb8 hc8 (by omega) (.slice ta m.xs.length tc) m.xs rfl KT7.out _ da rfl (Kvd.out.1.later KB7.out (Nat.le_refl _)) (by have := Kmx.out.1; have := Kdl.out; omega) Ks7.out ?_
  intro v8 w8 ho8 g8
  obtain ⟨ua, uc, rfl⟩ := own_form ho8
  have hfar := Kept.mk (fun q hq => (KT7.out.lt q hq).1)
  have hgg : gq ≠ g ∧ gq ≠ g2 ∧ gq ≠ g4 ∧ w.heap.size ≤ gq ∧ gq < W0.heap.size := by have := Kgq.out; have := Ks4.out; have := Kg.out; have := Ks6.out; have := Ks0.out; omega
  have hgs : g4 < W0.heap.size ∧ g < W0.heap.size ∧ g2 < W0.heap.size ∧ w3.heap.size ≤ W0.heap.size := by have := Ks4.out; have := Kg.out; have := Ks6.out; have := Ks0.out; omega
  have KB8 := Kept.mk (KB7.out.grown g8 KB7.out.size (fun q hq => by have := hfar.out q hq; have := KB0.out.size; omega))
  have KK8 := Kept.mk (And.intro (KK7.out.1.grow g8 (by intro e; have := hfar.out _ e; omega)) (And.intro (KK7.out.2.1.grow g8 (by intro e; have := hfar.out _ e; omega)) (KK7.out.2.2.grow g8 (by intro e; have := hfar.out _ e; omega))))
  have KO8 : Kept (OwK w8 w4.heap.size 83 2 (.slice (some ⟨gq, 0, none⟩) ms.length cq) (ms.map ctC)) := ⟨KO7.out.far (fun q hq => by
    injection hq with hq
    simp only at hq
    exact g8.block q (by have := Ks7.out; omega) (fun e => by have := hfar.out _ e.symm; omega))⟩
  have KT8 := Kept.mk ho8
  have hHeld8 : w8.cell? ⟨g, 3, none⟩ = some (.slice (some ⟨gq, 0, none⟩) ms.length cq) ∧ w8.cell? ⟨g2, 3, none⟩ = some (.slice va da.length vc) := ⟨KK8.out.1.cell 3 _ rfl, KK8.out.2.1.cell 3 _ rfl⟩
  have Ks8 : Kept (w7.heap.size ≤ w8.heap.size) := ⟨g8.size⟩
  refine hK.out _ _ hHeld8 (fun hHeldX => ?_)
  clear hK K hHeldX ho8 g8 KK7 KO7 hHeld7
  refine wpAnyH_takeD (i := 15) (d := some 54) (v := .pointer (some ⟨gq, f * 2, none⟩)) rfl rfl (by kernel_rfl) (by kernel_rfl) (by kernel_rfl) (fun _ _ _ h => h) (Or.inl ⟨by rfl, fun W hSw => by obtain ⟨hS0, hS1⟩ := hSw; go_simp⟩) (by assumption) ?_
  simp only [Act.put, List.setIfInBounds_toArray]
  refine wpAnyH_takeD (i := 16) (d := some 55) (v := .pointer (some ⟨gq, f * 2, none⟩)) rfl rfl (by kernel_rfl) (by kernel_rfl) (by kernel_rfl) (fun _ _ _ h => h) (Or.inl ⟨by rfl, fun W hSw => by obtain ⟨hS0, hS1⟩ := hSw; go_simp⟩) (by assumption) ?_
  simp only [Act.put]
  obtain ⟨nl, hnl⟩ : ∃ nl, (m.xs ++ da).length = nl := ⟨_, rfl⟩
  rw [hnl] at KT8 ⊢
  obtain ⟨gq', cq', hv, -, hg', cy, fy⟩ := KO8.out.cell (i := f) (j := 0) (u := m.v) (by rw [List.length_map]; exact Kfm.out) (by rw [List.getElem_map, Khm.out]; rfl)
  injection hg' with hg'
  simp only at hg'
  subst hg'
  rw [Nat.add_zero] at cy fy
  clear hv hnl
  obtain ⟨w9, hw9⟩ : ∃ w9, w8.setCell ⟨gq, f * 2, none⟩ (Value.slice ua nl uc) = w9 := ⟨_, rfl⟩
  have KB9 : Kept (Below w.heap.size w w9) := ⟨by rw [← hw9]; exact KB8.out.setCell (p := ⟨gq, f * 2, none⟩) hgg.2.2.2.1 _⟩
  have KK9 : Kept (Bk w9 g 36 [V.n, V.l, V.p, .slice (some ⟨gq, 0, none⟩) ms.length cq, .int .i64 D.quota, .slice none 0 0, .int .i64 D.offAt, .int .i64 D.count, .bool D.off] ∧ Bk w9 g2 38 [.int .i64 2, .string pt, .string pto, .slice va da.length vc] ∧ Bk w9 g4 36 [.slice none 0 0, .slice none 0 0, .slice none 0 0, .slice none 0 0, .int .i64 0, .slice none 0 0, .int .i64 0, .int .i64 0, .bool false]) := ⟨by
    rw [← hw9]
    exact ⟨KK8.out.1.store (Ne.symm hgg.1), KK8.out.2.1.store (Ne.symm hgg.2.1), KK8.out.2.2.store (Ne.symm hgg.2.2.1)⟩⟩
  have KO9 : Kept (OwK w9 w4.heap.size 83 2 (.slice (some ⟨gq, 0, none⟩) ms.length cq) ((ms.set f ⟨.slice ua nl uc, m.xs ++ da, m.s⟩).map ctC)) := ⟨by
    rw [← hw9]
    have h1 := KO8.out.put (g := gq) rfl (i := f) (j := 0) (by rw [List.length_map]; exact Kfm.out) (by decide) (.slice ua nl uc)
    rw [List.getElem_map, Khm.out] at h1
    rw [List.map_set]
    exact h1⟩
  have KT9 : Kept (Own .u8 5 w9 W0.heap.size (.slice ua nl uc) (m.xs ++ da)) := ⟨KT8.out.far (fun q hq => by
    rw [← hw9]
    exact Below.heap_setCell w8 _ _ q (by have := (KT8.out.lt q hq).1; show q ≠ gq; omega))⟩
  have KD9m : Kept (DM (Gb G w w3.heap.size) w9 D9 ⟨V.n, V.l, V.p, .slice (some ⟨gq, 0, none⟩) ms.length cq⟩) := ⟨by
    have hh := KHg.out.later KB9.out
    rw [← KD9.out]
    refine ⟨hh.n, hh.l, hh.p, ms.set f ⟨.slice ua nl uc, m.xs ++ da, m.s⟩, ?_, own_gb KO9.out Ks4.out, fun x hx => ?_⟩
    · rw [List.map_set, Kms.out, KFe.out, Kct.out]
      rfl
    · rcases List.mem_or_eq_of_mem_set hx with hx | hx
      · exact ⟨(Kdat.out x hx).1.later KB9.out (Nat.le_refl _), (Kdat.out x hx).2⟩
      · subst hx
        refine ⟨KT9.out.rd.weak (fun b _ hb => .inr (Nat.le_trans hgs.2.2.2 (KT9.out.lt b hb).1)), fun y hy => ?_⟩
        rcases List.mem_append.1 hy with hy | hy
        · exact Kmd.out.2 y hy
        · exact Kvd.out.2 y hy⟩
  have KDe : Kept (D9.quota = D.quota ∧ D9.offAt = D.offAt ∧ D9.count = D.count ∧ D9.off = D.off) := ⟨by rw [← KD9.out]; exact ⟨rfl, rfl, rfl, rfl⟩⟩
  have hHeld9 : w9.cell? ⟨g, 3, none⟩ = some (.slice (some ⟨gq, 0, none⟩) ms.length cq) ∧ w9.cell? ⟨g2, 3, none⟩ = some (.slice va da.length vc) := ⟨KK9.out.1.cell 3 _ rfl, KK9.out.2.1.cell 3 _ rfl⟩
  refine wpAnyH_ready (rs := [17]) (by kernel_rfl) (by simp) ?_
  refine AllReadyH.cons (o := _) rfl (fun K hK => ?_) AllReadyH.nil
  rw [if_pos (by rfl)]
  go_simp
  try rw [hw9]
  refine hK.out _ _ hHeld9 (fun hHeldX => ?_)
  clear hK K hHeldX hw9 KK8 KO8 KB8 cy fy hgg
  refine wpAnyH_done (by kernel_rfl) ?_ _
  refine NoPanic.normal ?_
  have KR : Kept (w9.rangeAt g 0 [(DVs.mk V.n V.l V.p (.slice (some ⟨gq, 0, none⟩) ms.length cq)).n, (DVs.mk V.n V.l V.p (.slice (some ⟨gq, 0, none⟩) ms.length cq)).l, (DVs.mk V.n V.l V.p (.slice (some ⟨gq, 0, none⟩) ms.length cq)).p, (DVs.mk V.n V.l V.p (.slice (some ⟨gq, 0, none⟩) ms.length cq)).f, .int .i64 D9.quota, .slice none 0 0, .int .i64 D9.offAt, .int .i64 D9.count, .bool D9.off]) := ⟨by
    have := KK9.out.1.range
    rw [KDe.out.1, KDe.out.2.1, KDe.out.2.2.1, KDe.out.2.2.2]
    exact this⟩
  obtain ⟨V8, hV8⟩ : ∃ V8 : DVs, ⟨V.n, V.l, V.p, .slice (some ⟨gq, 0, none⟩) ms.length cq⟩ = V8 := ⟨_, rfl⟩
  rw [hV8] at KR KD9m
  clear hV8
  obtain ⟨wz, hwz⟩ : ∃ wz, w9.setRow g4 #[V8.n, V8.l, V8.p, V8.f, .int .i64 D9.quota, .slice none 0 0, .int .i64 D9.offAt, .int .i64 D9.count, .bool D9.off] = wz := ⟨_, rfl⟩
  have Krow : Kept (wz.heap[g4]? = some (.cells #[V8.n, V8.l, V8.p, V8.f, .int .i64 D9.quota, .slice none 0 0, .int .i64 D9.offAt, .int .i64 D9.count, .bool D9.off] 36 (0, 0))) := ⟨by rw [← hwz]; exact setRow_heap w9 g4 _ _ _ _ KK9.out.2.2⟩
  have KBz : Kept (Below w.heap.size w wz) := ⟨by rw [← hwz]; exact below_row KB9.out (by have := Kg.out; omega) _⟩
  have KEz : Kept (DM (Gn G w) wz D9 V8) := ⟨by rw [← hwz]; exact KD9m.out.row (by have := Kg.out; omega) (by have := Kg.out; omega) _⟩
  have hone := Kept.mk (dm_ones KD9m.out D9.quota D9.offAt D9.count D9.off)
  have Kb4 := Kept.mk KK9.out.2.2
  go_wp2_with (first | (refine wpList_load_mid rfl 36 _ rfl g 0 rfl _ _ KR.out Tryz.underlying36 rfl infoDisk ?_) | (refine BigFrame.wpList_want rfl (fun K hK => wp_store_row 36 _ _ rfl g4 #[V8.n, V8.l, V8.p, V8.f, .int .i64 D9.quota, .slice none 0 0, .int .i64 D9.offAt, .int .i64 D9.count, .bool D9.off] rfl rfl 36 _ Kb4.out infoDisk rfl hone.out (hK _ _ ?_)); rw [hwz]))
  refine bodyPost_ret (results_row1 rfl _ _ g4 36 #[V8.n, V8.l, V8.p, V8.f, .int .i64 D9.quota, .slice none 0 0, .int .i64 D9.offAt, .int .i64 D9.count, .bool D9.off] (0, 0) _ rfl Krow.out Tryz.underlying36 rfl infoDisk) rfl ?_
  rw [KM.out]
  exact ⟨V8, rfl, KEz.out, KBz.out⟩
end Go.Proofs.YtegdadkejheagaaGreatDoor
