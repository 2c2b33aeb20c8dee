/-
  The document's List.
-/
import Derived.Test.YtegdadkejheagaaGreatDoorG16
namespace Go.Proofs.YtegdadkejheagaaGreatDoor
open Go.RowKit Go.WideMaps Go.Maps

theorem own_rd_any {w : World} {base : Nat} {v : Value} {xs : List Int} (h : Own .u8 5 w base v xs) : Rd .u8 anyB w v xs := h.rd.weak (fun _ _ _ => trivial)
set_option maxHeartbeats 4000000 in
set_option maxRecDepth 100000 in
theorem list_any {G : Nat → Prop} (D : DD) (V : DVs) (w : World) (h : DM G w D V) (hl : D.names.length ≤ 1000) (hr : ∀ x ∈ D.names, 1 ≤ x.2 ∧ x.2 ≤ D.files.length) (hf : ∀ x ∈ D.files, x.1.length ≤ 1000000) (hfl : D.files.length ≤ 100000) :
    Calls Tryz.prog 35 #[.agg #[V.n, V.l, V.p, V.f, .int .i64 D.quota, .slice none 0 0, .int .i64 D.offAt, .int .i64 D.count, .bool D.off]] w fun e w' => ∃ (v : Value) (l : List FlC), e = .returned v ∧ RdK anyB w' 2 v (l.map FlC.cs) ∧ (∀ c ∈ l, Rd .u8 anyB w' c.v c.xs ∧ AllB c.xs) ∧ (l.map fun c => (c.p, c.xs)) = D.names.map (fun x => (x.1, (ctF D.files x.2).1)) ∧ Below w.heap.size w w' := by
  obtain ⟨i0, z0, hi, hz, hsz, hbb, hcc⟩ := infoF
  obtain ⟨wx, hwx, hbx, hsx, hc⟩ := dd_box w D V
  have c0 := hc 0 _ rfl
  have c3 := hc 3 _ rfl
  obtain ⟨ms, hms, hfv, hdat⟩ := h.f
  obtain ⟨na, nc, hnv, hnl, hnrd⟩ := h.n.openMap
  obtain ⟨fa, fc, hfv2, hfl2, hfrd⟩ := hfv.openMap
  have hml : ms.length = D.files.length := by rw [← hms, List.length_map]
  have Kml := Kept.mk hml
  have KB := Kept.mk hbx
  have KN := Kept.mk hnrd
  have KF := Kept.mk hfrd
  have KD := Kept.mk hdat
  have KC : Kept (∀ f (hf : f < ms.length), ctF D.files (f + 1) = ((ms[f]'hf).xs, (ms[f]'hf).s)) := ⟨fun f hf => by
    unfold ctF
    rw [← hms]
    simp [List.getD, List.getElem?_eq_getElem hf]⟩
  have Kx : Kept (∀ m ∈ ms, m.xs.length ≤ 1000000) := ⟨fun m hm => hf (m.xs, m.s) (by rw [← hms]; exact List.mem_map.2 ⟨m, hm, rfl⟩)⟩
  have Kr := Kept.mk hr
  obtain ⟨gd, hgd⟩ : ∃ gd, w.heap.size = gd := ⟨_, rfl⟩
  rw [hnv] at c0 hwx ⊢
  rw [hfv2] at c3 hwx ⊢
  rw [hgd] at c0 c3
  have Kgd : Kept (gd < wx.heap.size ∧ w.heap.size = gd) := ⟨by omega, hgd⟩
  have Kc3 : Kept (wx.cell? ⟨gd, 3, none⟩ = some (.slice fa ms.length fc)) := ⟨c3⟩
  clear hbx hc h hfv hdat hnrd hfrd hr hf hsx hms c3 hml
  go_enter Tryz.func35, Tryz.ntmps35
  go_wp2
  go_loopw [3, 9] (fun lv kv wr => ∃ (k : Nat) (l : List FlC), k ≤ D.names.length ∧ kv = .int .i64 k ∧ OwK wr wx.heap.size 52 2 lv (l.map FlC.cs) ∧ (∀ c ∈ l, Own .u8 5 wr wx.heap.size c.v c.xs ∧ AllB c.xs) ∧ l.length = k ∧ (l.map fun c => (c.p, c.xs)) = (D.names.take k).map (fun x => (x.1, (ctF D.files x.2).1)) ∧ Below wx.heap.size wx wr) (fun _ kv _ => D.names.length - (intOf kv).toNat)
  case atStart => exact ⟨0, [], Nat.zero_le _, rfl, OwK.nil _ _ _ _, by simp, rfl, rfl, Below.refl _ _⟩
  case round =>
    obtain ⟨k, l, hk, rfl, how, hdl, hlk, hmap, hbel⟩ := hrel
    have KBr := Kept.mk hbel
    have KO := Kept.mk how
    have KDl := Kept.mk hdl
    have KM := Kept.mk hmap
    have Kll := Kept.mk hlk
    obtain ⟨la, ln, lc, rfl⟩ := how.form3
    clear how hdl hmap hbel hlk
    by_cases hlt : k < D.names.length
    · have hki : (k : Int) < (D.names.length : Int) := by omega
      obtain ⟨b, off, hna, hbl, -, hrg⟩ := KN.out (by omega)
      obtain ⟨x, hx⟩ : ∃ x, D.names[k]'hlt = x := ⟨_, rfl⟩
      have KBw : Kept (Below w.heap.size w wr) := ⟨KB.out.trans (KBr.out.mono KB.out.size)⟩
      have hrow : wr.rangeAt b (off + k * 2) (nmC x) := fun j u hu => by
        rw [KBw.out.cell (p := ⟨b, off + k * 2 + j, none⟩) hbl]
        have h2 := hrg k hlt j u
        rw [hx] at h2
        exact h2 hu
      have hrr := Kr.out _ (List.getElem_mem hlt)
      rw [hx] at hrr
      have hst : D.names.take (k + 1) = D.names.take k ++ [x] := by rw [List.take_add_one, List.getElem?_eq_getElem hlt, hx]; rfl
      obtain ⟨xp, xf⟩ := x
      simp only at hrr
      obtain ⟨f, rfl⟩ : ∃ f, xf = f + 1 := ⟨xf - 1, by omega⟩
      have hfm : f < ms.length := by have := Kml.out; omega
      obtain ⟨b2, off2, hfa, hbl2, -, hrg2⟩ := KF.out (by omega)
      obtain ⟨m, hm⟩ : ∃ m, ms[f]'hfm = m := ⟨_, rfl⟩
      have Kmd := Kept.mk (KD.out _ (List.getElem_mem hfm))
      have Kmx := Kept.mk (Kx.out _ (List.getElem_mem hfm))
      have hct := KC.out f hfm
      rw [hm] at Kmd hct Kmx
      have Kst : Kept ((D.names.take (k + 1)).map (fun x => (x.1, (ctF D.files x.2).1)) = (D.names.take k).map (fun x => (x.1, (ctF D.files x.2).1)) ++ [(xp, m.xs)]) := ⟨by rw [hst, List.map_append]; show _ ++ [(xp, (ctF D.files (f + 1)).1)] = _; rw [hct]⟩
      obtain ⟨va, vc, hmv, -, -, -⟩ := Kmd.out.1.form
      have hcell : w.cell? ⟨b2, off2 + f * 2, none⟩ = some m.v := by
        have := hrg2 f hfm 0 m.v (by rw [hm]; rfl)
        rwa [Nat.add_zero] at this
      rw [hmv] at hcell
      have KT : Kept (∀ W, Below w.heap.size w W → Calls Tryz.prog 18 #[.slice va m.xs.length vc] W fun e w' => ∃ v', e = .returned v' ∧ Own .u8 5 w' W.heap.size v' m.xs ∧ Below W.heap.size W w') := ⟨fun W hW => twin_any _ m.xs W (by have := Kmd.out.1.later hW (Nat.le_refl _); rw [hmv] at this; exact this) (by have := Kmx.out; omega)⟩
      subst hna hfa
      obtain ⟨wy, hwy, hby, hsy, d0, d1, hry⟩ := nm_box wr (xp, f + 1)
      have KBy : Kept (Below wx.heap.size wx wy) := ⟨KBr.out.trans (hby.mono KBr.out.size)⟩
      have KByw : Kept (Below w.heap.size w wy) := ⟨KB.out.trans (KBy.out.mono KB.out.size)⟩
      obtain ⟨g8, hgw8⟩ : ∃ g8, wr.heap.size = g8 := ⟨_, rfl⟩
      rw [hgw8] at d0 d1
      have hR := Kept.mk hrow
      unfold nmC at hR
      simp only at d0 d1 hwy hR
      have hg8 : g8 < wy.heap.size := by rw [← hgw8]; exact hsy
      have hfi : (f : Int) < (ms.length : Int) := by omega
      have hf0 : (0 : Int) ≤ (f : Int) := by omega
      have ef : ((f + 1 : Nat) : Int) - 1 = (f : Int) := by omega
      have e1 : IntKind.i64.wrap (((f + 1 : Nat) : Int) - 1) = (f : Int) := by rw [ef]; exact wr64 (by omega) (by omega)
      have e3 : IntKind.i64.wrap ((k : Int) + 1) = (k : Int) + 1 := wr64 (by omega) (by omega)
      generalize ((f + 1 : Nat) : Int) = f1 at *
      have KCell : Kept (∀ W, Below wy.heap.size wy W → (fun W => W.cell? ⟨g8, 0, none⟩ = some (.string xp) ∧ W.cell? ⟨g8, 1, none⟩ = some (.int .i64 f1) ∧ W.cell? ⟨gd, 3, none⟩ = some (.slice (some ⟨b2, off2, none⟩) ms.length fc) ∧ W.cell? ⟨b2, off2 + f * 2, none⟩ = some (.slice va m.xs.length vc)) W) := ⟨fun W hW => ⟨by rw [hW.cell (p := ⟨g8, 0, none⟩) hg8]; exact d0, by rw [hW.cell (p := ⟨g8, 1, none⟩) hg8]; exact d1, by
        rw [(KBy.out.trans (hW.mono KBy.out.size)).cell (p := ⟨gd, 3, none⟩) Kgd.out.1]
        exact Kc3.out, by
        rw [(KByw.out.trans (hW.mono KByw.out.size)).cell (p := ⟨b2, off2 + f * 2, none⟩) hbl2]
        exact hcell⟩⟩
      have KOy := Kept.mk (KO.out.later hby)
      have KDy : Kept (∀ c ∈ l, Own .u8 5 wy wx.heap.size c.v c.xs ∧ AllB c.xs) := ⟨fun c hc => ⟨(KDl.out c hc).1.later hby (Nat.le_refl _), (KDl.out c hc).2⟩⟩
      have hrl : Kept (∀ q, (Value.slice la ln lc).ownBlock = some q → wx.heap.size ≤ q ∧ q < g8 ∧ q ≠ gd ∧ q ≠ b2) := ⟨fun q hq => by have := KO.out.lt q hq; have := Kgd.out; have := KB.out.size; omega⟩
      have Kgs : Kept (wx.heap.size ≤ g8 ∧ g8 < wy.heap.size ∧ b2 < wx.heap.size ∧ gd < wx.heap.size) := ⟨by have := KBr.out.size; have := KB.out.size; have := Kgd.out; omega⟩
      clear hrow hby hsy hry hrg hrg2 hm hct hcell hmv hrr ef hst hx d0 d1 KO KDl hbl hbl2
      go_upto_region 5 with (first | (refine wpList_load_mid rfl 81 _ rfl b (off + k * 2) rfl _ _ hR.out Tryz.underlying81 rfl infoNm1 ?_) | (refine BigFrame.wpList_want rfl (fun K hK => wp_store_row 81 _ _ rfl wr.heap.size _ rfl rfl 81 _ (heap_alloc_new wr _) infoNm1 rfl rfl (hK _ _ ?_)); rw [World.setRow_alloc_new, hwy]))
      clear hwy hR
      refine wp_region_noPanic ?_
      refine wp_region_held_drew (S := (fun W => W.cell? ⟨g8, 0, none⟩ = some (.string xp) ∧ W.cell? ⟨g8, 1, none⟩ = some (.int .i64 f1) ∧ W.cell? ⟨gd, 3, none⟩ = some (.slice (some ⟨b2, off2, none⟩) ms.length fc) ∧ W.cell? ⟨b2, off2 + f * 2, none⟩ = some (.slice va m.xs.length vc))) (by kernel_rfl) (KCell.out _ (Below.refl _ _).drew) (fun hHeld => ?_)
      obtain ⟨W0, hW0⟩ : ∃ W0, wy.drew = W0 := ⟨_, rfl⟩
      have hbW : Below wy.heap.size wy W0 := by rw [← hW0]; exact (Below.refl _ _).drew
      have KW0 := Kept.mk hbW
      rw [hW0] at hHeld ⊢
      clear hW0 hbW
      refine wpAnyH_takeD (i := 0) (d := some 13) (v := .slice la ln lc) rfl rfl (by kernel_rfl) (by kernel_rfl) (by kernel_rfl) (fun _ _ _ h => h) (Or.inl ⟨by rfl, fun W hSw => by obtain ⟨hS0, hS1, hS2, hS3⟩ := hSw; go_simp⟩) (by assumption) ?_
      simp only [Act.put, List.setIfInBounds_toArray, List.set_cons_zero, List.set_cons_succ]
      refine wpAnyH_takeD (i := 1) (d := some 14) (v := .pointer (some ⟨g8, 0, none⟩)) rfl rfl (by kernel_rfl) (by kernel_rfl) (by kernel_rfl) (fun _ _ _ h => h) (Or.inl ⟨by rfl, fun W hSw => by obtain ⟨hS0, hS1, hS2, hS3⟩ := hSw; go_simp⟩) (by assumption) ?_
      simp only [Act.put, List.setIfInBounds_toArray, List.set_cons_zero, List.set_cons_succ]
      refine wpAnyH_takeD (i := 2) (d := some 15) (v := .string xp) rfl rfl (by kernel_rfl) (by kernel_rfl) (by kernel_rfl) (fun _ _ _ h => h) (Or.inl ⟨by rfl, fun W hSw => by obtain ⟨hS0, hS1, hS2, hS3⟩ := hSw; go_simp⟩) (by assumption) ?_
      simp only [Act.put, List.setIfInBounds_toArray, List.set_cons_zero, List.set_cons_succ]
      refine wpAnyH_takeD (i := 3) (d := some 16) (v := .pointer (some ⟨gd, 3, none⟩)) rfl rfl (by kernel_rfl) (by kernel_rfl) (by kernel_rfl) (fun _ _ _ h => h) (Or.inl ⟨by rfl, fun W hSw => by obtain ⟨hS0, hS1, hS2, hS3⟩ := hSw; go_simp⟩) (by assumption) ?_
      simp only [Act.put, List.setIfInBounds_toArray, List.set_cons_zero, List.set_cons_succ]
      refine wpAnyH_takeD (i := 4) (d := some 17) (v := .slice (some ⟨b2, off2, none⟩) ms.length fc) rfl rfl (by kernel_rfl) (by kernel_rfl) (by kernel_rfl) (fun _ _ _ h => h) (Or.inl ⟨by rfl, fun W hSw => by obtain ⟨hS0, hS1, hS2, hS3⟩ := hSw; go_simp⟩) (by assumption) ?_
      simp only [Act.put, List.setIfInBounds_toArray, List.set_cons_zero, List.set_cons_succ]
      refine wpAnyH_takeD (i := 5) (d := some 18) (v := .pointer (some ⟨g8, 1, none⟩)) rfl rfl (by kernel_rfl) (by kernel_rfl) (by kernel_rfl) (fun _ _ _ h => h) (Or.inl ⟨by rfl, fun W hSw => by obtain ⟨hS0, hS1, hS2, hS3⟩ := hSw; go_simp⟩) (by assumption) ?_
      simp only [Act.put, List.setIfInBounds_toArray, List.set_cons_zero, List.set_cons_succ]
      refine wpAnyH_takeD (i := 6) (d := some 19) (v := .int .i64 f1) rfl rfl (by kernel_rfl) (by kernel_rfl) (by kernel_rfl) (fun _ _ _ h => h) (Or.inl ⟨by rfl, fun W hSw => by obtain ⟨hS0, hS1, hS2, hS3⟩ := hSw; go_simp⟩) (by assumption) ?_
      simp only [Act.put, List.setIfInBounds_toArray, List.set_cons_zero, List.set_cons_succ]
      refine wpAnyH_takeD (i := 7) (d := some 20) (v := .int .i64 (f : Int)) rfl rfl (by kernel_rfl) (by kernel_rfl) (by kernel_rfl) (fun _ _ _ h => h) (Or.inl ⟨by rfl, fun W hSw => by obtain ⟨hS0, hS1, hS2, hS3⟩ := hSw; go_simp⟩) (by assumption) ?_
      simp only [Act.put, List.setIfInBounds_toArray, List.set_cons_zero, List.set_cons_succ]
      refine wpAnyH_takeD (i := 8) (d := some 21) (v := .pointer (some ⟨b2, off2 + f * 2, none⟩)) rfl rfl (by kernel_rfl) (by kernel_rfl) (by kernel_rfl) (fun _ _ _ h => h) (Or.inl ⟨by rfl, fun W hSw => by obtain ⟨hS0, hS1, hS2, hS3⟩ := hSw; go_simp⟩) (by assumption) ?_
      simp only [Act.put, List.setIfInBounds_toArray, List.set_cons_zero, List.set_cons_succ]
      refine wpAnyH_takeD (i := 9) (d := some 22) (v := .pointer (some ⟨b2, off2 + f * 2, none⟩)) rfl rfl (by kernel_rfl) (by kernel_rfl) (by kernel_rfl) (fun _ _ _ h => h) (Or.inl ⟨by rfl, fun W hSw => by obtain ⟨hS0, hS1, hS2, hS3⟩ := hSw; go_simp⟩) (by assumption) ?_
      simp only [Act.put, List.setIfInBounds_toArray, List.set_cons_zero, List.set_cons_succ]
      refine wpAnyH_takeD (i := 10) (d := some 23) (v := .slice va m.xs.length vc) rfl rfl (by kernel_rfl) (by kernel_rfl) (by kernel_rfl) (fun _ _ _ h => h) (Or.inl ⟨by rfl, fun W hSw => by obtain ⟨hS0, hS1, hS2, hS3⟩ := hSw; go_simp⟩) (by assumption) ?_
      simp only [Act.put, List.setIfInBounds_toArray, List.set_cons_zero, List.set_cons_succ]
      refine wpAnyH_ready (rs := [11]) (by kernel_rfl) (by simp) ?_
      refine AllReadyH.cons (o := _) rfl (fun K hK => ?_) AllReadyH.nil
      rw [if_pos (by rfl)]
      go_simp
      refine Calls.mono (KT.out W0 (KByw.out.trans (KW0.out.mono KByw.out.size))) (fun e W1 hp => ?_)
      obtain ⟨v5, rfl, ho5, hbB⟩ := hp
      obtain ⟨a5, c5, rfl⟩ := own_form ho5
      have KW1 : Kept (Below wy.heap.size wy W1) := ⟨KW0.out.trans (hbB.mono KW0.out.size)⟩
      have KO5 := Kept.mk ho5
      clear ho5 hbB hHeld
      refine hK.out _ _ (KCell.out W1 KW1.out) (fun hHeldX => ?_)
      clear hK K hHeldX
      have hHeld := KCell.out W1 KW1.out
      refine wpAnyH_takeD (i := 12) (d := some 25) (v := .agg #[.string xp, .slice a5 m.xs.length c5]) rfl rfl (by kernel_rfl) (by kernel_rfl) (by kernel_rfl) (fun _ _ _ h => h) (Or.inl ⟨by rfl, fun W hSw => by obtain ⟨hS0, hS1, hS2, hS3⟩ := hSw; go_simp⟩) (by assumption) ?_
      simp only [Act.put, List.setIfInBounds_toArray, List.set_cons_zero, List.set_cons_succ]
      obtain ⟨W2, hW2⟩ : ∃ W2, W1.alloc (.cells #[.string xp, .slice a5 m.xs.length c5] 52) = W2 := ⟨_, rfl⟩
      have hb2 : Below W1.heap.size W1 W2 := by rw [← hW2]; exact (Below.refl _ _).alloc (Nat.le_refl _) _
      have KRx : Kept (W2.rangeAt W1.heap.size 0 [Value.string xp, Value.slice a5 m.xs.length c5]) := ⟨by rw [← hW2]; exact (Bk.new W1 52 [.string xp, .slice a5 m.xs.length c5]).range⟩
      have KW2 : Kept (Below wy.heap.size wy W2) := ⟨KW1.out.trans (hb2.mono KW1.out.size)⟩
      have KO52 := Kept.mk (KO5.out.later hb2 (Nat.le_refl _))
      have KO2 := Kept.mk (KOy.out.later KW2.out)
      have KD2 : Kept (∀ c ∈ l, Own .u8 5 W2 wx.heap.size c.v c.xs ∧ AllB c.xs) := ⟨fun c hc => ⟨(KDy.out c hc).1.later KW2.out (Nat.le_refl _), (KDy.out c hc).2⟩⟩
      clear hb2
      refine wpAnyH_ready (rs := [13]) (by kernel_rfl) (by simp) ?_
      refine AllReadyH.cons (o := _) rfl (fun K hK => ?_) AllReadyH.nil
      rw [if_pos (by rfl)]
      go_simp
      try rw [hW2]
      clear hW2
      refine hK.out _ _ (KCell.out W2 KW2.out) (fun hHeldX => ?_)
      clear hK K hHeldX hHeld
      refine wpAnyH_ready (rs := [14]) (by kernel_rfl) (by simp) ?_
      refine AllReadyH.cons (o := _) rfl (fun K hK => ?_) AllReadyH.nil
      rw [if_pos (by rfl)]
      refine wp_append_K _ _ 48 52 rfl 2 40 i0 z0 Tryz.underlying48 hi hz hsz hbb hcc (by decide) (by decide) wx.heap.size _ _ rfl KO2.out [Value.string xp, Value.slice a5 m.xs.length c5] rfl (by simp; exact ⟨rfl, rfl⟩) W1.heap.size 1 rfl KRx.out (by rw [List.length_map, Kll.out]; omega) (by have := KW2.out.size; have := Kgs.out; omega) ?_
      intro v6 W4 ho6 g6
      obtain ⟨a6, n6, c6, rfl⟩ := ho6.form3
      have KB4 : Kept (Below wx.heap.size wx W4) := ⟨(KBy.out.trans (KW2.out.mono KBy.out.size)).grown g6 (by have := KW2.out.size; have := Kgs.out; omega) (fun q hq => (hrl.out q hq).1)⟩
      have KO4 : Kept (OwK W4 wx.heap.size 52 2 (.slice a6 n6 c6) ((l ++ [FlC.mk xp (.slice a5 m.xs.length c5) m.xs]).map FlC.cs)) := ⟨by rw [List.map_append]; exact ho6⟩
      have KD4 : Kept (∀ c ∈ l ++ [FlC.mk xp (.slice a5 m.xs.length c5) m.xs], Own .u8 5 W4 wx.heap.size c.v c.xs ∧ AllB c.xs) := ⟨fun c hc => by
        have hfar : ∀ {u : Value} {us : List Int} {bs : Nat}, Own .u8 5 W2 bs u us → Own .u8 5 W4 bs u us := fun {u us bs} hu => hu.far (fun q hq => g6.block q (hu.lt q hq).2 (fun e => by
          obtain ⟨cu, hcu⟩ := ownsRow_blk hu hq
          obtain ⟨cr, hcr⟩ := ownsRow_blk KO2.out.1 e.symm
          exact type_ne hcu hcr (by decide) rfl))
        rcases List.mem_append.1 hc with hc | hc
        · exact ⟨hfar (KD2.out c hc).1, (KD2.out c hc).2⟩
        · rw [List.mem_singleton] at hc
          subst hc
          exact ⟨(hfar KO52.out).mono (by have := KW0.out.size; have := Kgs.out; omega), Kmd.out.2⟩⟩
      have hS4 : (fun W => W.cell? ⟨g8, 0, none⟩ = some (.string xp) ∧ W.cell? ⟨g8, 1, none⟩ = some (.int .i64 f1) ∧ W.cell? ⟨gd, 3, none⟩ = some (.slice (some ⟨b2, off2, none⟩) ms.length fc) ∧ W.cell? ⟨b2, off2 + f * 2, none⟩ = some (.slice va m.xs.length vc)) W4 := by
        have hS2 := KCell.out W2 KW2.out
        have hw2 := KW2.out.size
        have hgs := Kgs.out
        exact ⟨cell_of hS2.1 (g6.block g8 (by omega) (fun e => by have := hrl.out _ e.symm; omega)), cell_of hS2.2.1 (g6.block g8 (by omega) (fun e => by have := hrl.out _ e.symm; omega)), cell_of hS2.2.2.1 (g6.block gd (by omega) (fun e => by have := hrl.out _ e.symm; omega)), cell_of hS2.2.2.2 (g6.block b2 (by omega) (fun e => by have := hrl.out _ e.symm; omega))⟩
      refine hK.out _ _ hS4 (fun hHeldX => ?_)
      clear hK K hHeldX ho6 g6
      refine wpAnyH_takeD (i := 15) (d := some 3) (v := .slice a6 n6 c6) rfl rfl (by kernel_rfl) (by kernel_rfl) (by kernel_rfl) (fun _ _ _ h => h) (Or.inl ⟨by rfl, fun W hSw => by obtain ⟨hS0, hS1, hS2, hS3⟩ := hSw; go_simp⟩) (by assumption) ?_
      simp only [Act.put, List.setIfInBounds_toArray]
      refine wpAnyH_done (by kernel_rfl) ?_ _
      refine NoPanic.normal ?_
      clear hS4
      go_wp2
      go_roundw
      case rel => exact ⟨k + 1, l ++ [FlC.mk xp (.slice a5 m.xs.length c5) m.xs], by omega, by go_num, KO4.out, KD4.out, by rw [List.length_append, List.length_singleton, Kll.out], by rw [List.map_append, KM.out, Kst.out]; rfl, KB4.out⟩
      case measure => simp [intOf]; omega
    · have hki : ¬ (k : Int) < (D.names.length : Int) := by omega
      have KE : Kept ((l.map fun c => (c.p, c.xs)) = D.names.map (fun x => (x.1, (ctF D.files x.2).1))) := ⟨by have := KM.out; rwa [List.take_of_length_le (by omega)] at this⟩
      have KBw : Kept (Below w.heap.size w wr) := ⟨KB.out.trans (KBr.out.mono KB.out.size)⟩
      go_wp2
      go_ret
      exact ⟨_, rfl, l, KO.out.rd.weak (fun _ _ _ => trivial), fun c hc => ⟨own_rd_any (KDl.out c hc).1, (KDl.out c hc).2⟩, KE.out, by have := KBw.out; first | exact this | rwa [hgd] at this⟩
end Go.Proofs.YtegdadkejheagaaGreatDoor
