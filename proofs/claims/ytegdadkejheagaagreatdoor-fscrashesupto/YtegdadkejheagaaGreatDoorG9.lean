/-
  The document's failure.
-/
import Derived.Test.YtegdadkejheagaaGreatDoorG8
import Derived.Test.YtegdadkejheagaaGreatDoorFM9
namespace Go.Proofs.YtegdadkejheagaaGreatDoor
open Go.RowKit Go.WideMaps Go.Maps

theorem infoDisk : (Tryz.prog.info? 36).map (·.size) = some 9 := by kernel_rfl
theorem dd_row {w1 W : World} {g : Nat} {D : DD} {V : DVs} (h : ∀ j u, (ddC D V)[j]? = some u → w1.cell? ⟨g, j, none⟩ = some u) (hg : g < w1.heap.size) (hW : Below w1.heap.size w1 W) : W.rangeAt g 0 [V.n, V.l, V.p, V.f, .int .i64 D.quota, .slice none 0 0, .int .i64 D.offAt, .int .i64 D.count, .bool D.off] := fun j u hu => by
  rw [hW.cell (p := ⟨g, 0 + j, none⟩) hg, Nat.zero_add]
  exact h j u (by simpa [ddC] using hu)
set_option maxHeartbeats 8000000 in
set_option maxRecDepth 100000 in
theorem failure_any {G : Nat → Prop} (D : DD) (V : DVs) (c : Cl) (v : Value) (w : World) (h : DM G w D V) {k : Nat} (hD : DL D k) (hk : k ≤ 1000) (hr : ∀ x ∈ D.names, 1 ≤ x.2 ∧ x.2 ≤ D.files.length) (hv : ∃ a n, v = .slice a c.data.length n) (hp : c.path.size < 4294967281) (hd : c.dst.size < 4294967281) (hl : c.data.length ≤ 1000) (h1 : 1 ≤ c.kind) (h6 : c.kind ≤ 6) :
    Calls Tryz.prog 16 #[.agg #[V.n, V.l, V.p, V.f, .int .i64 D.quota, .slice none 0 0, .int .i64 D.offAt, .int .i64 D.count, .bool D.off], .agg #[.int .i64 c.kind, .string c.path, .string c.dst, v]] w fun e w' => e = .returned (.int .i64 (failF D c)) ∧ Below w.heap.size w w' := by
  obtain ⟨av, cv, rfl⟩ := hv
  obtain ⟨w1, hw1, hb1, hs1, hc⟩ := dd_box w D V
  obtain ⟨w2, hw2, hb2, hs2, hcc⟩ := clm_box w1 (.int .i64 c.kind) (.string c.path) (.string c.dst) (.slice av c.data.length cv)
  have hb12 : Below w.heap.size w w2 := hb1.trans (hb2.mono hb1.size)
  have KB := Kept.mk hb12
  have h2 := h.later hb12
  have hnl : D.names.length ≤ 100000 := Nat.le_trans hD.n (by omega)
  have hfl : D.files.length ≤ 100000 := Nat.le_trans hD.f (by omega)
  have hfx : ∀ x ∈ D.files, x.1.length ≤ 2097152 := fun x hx => by have := (hD.x x hx).1; omega
  have Kl := Kept.mk hl
  have hsu := sumF_le hfx D.names
  have KU0 : Kept (0 ≤ usedF D ∧ usedF D ≤ 2097152 * 1000) := ⟨by
    have h3 := hD.n
    unfold usedF
    omega⟩
  have KAt := Kept.mk (at_any V.n D.names c.path w2 h2.n hnl)
  have KBad : Kept (∀ W, Below w2.heap.size w2 W → Calls Tryz.prog 44 #[.agg #[.int .i64 c.kind, .string c.path, .string c.dst, .slice av c.data.length cv]] W fun e w' => e = .returned (.bool (badF c)) ∧ Below w2.heap.size w2 w') := ⟨fun W hW => (bad_any c _ W ⟨_, _, _, rfl⟩ hp hd).mono fun e w' hh => ⟨hh.1, hW.trans (hh.2.mono hW.size)⟩⟩
  have KRef : Kept (∀ W, Below w2.heap.size w2 W → Calls Tryz.prog 45 #[.agg #[V.n, V.l, V.p, V.f, .int .i64 D.quota, .slice none 0 0, .int .i64 D.offAt, .int .i64 D.count, .bool D.off]] W fun e w' => e = .returned (.bool false) ∧ Below w2.heap.size w2 w') := ⟨fun W hW => (refused_any D V W).mono fun e w' hh => ⟨hh.1, hW.trans (hh.2.mono hW.size)⟩⟩
  have KUse : Kept (∀ W, CC w2 W → Calls Tryz.prog 46 #[.agg #[V.n, V.l, V.p, V.f, .int .i64 D.quota, .slice none 0 0, .int .i64 D.offAt, .int .i64 D.count, .bool D.off]] W fun e w' => e = .returned (.int .i64 (usedF D)) ∧ CC w2 w') := ⟨fun W hW => (used_any D V W (h2.later hW) hnl hr hfx hfl).mono fun e w' hh => ⟨hh.1, hW.on hh.2⟩⟩
  have KRd : Kept (∀ W, Below w2.heap.size w2 W → W.rangeAt w.heap.size 0 [V.n, V.l, V.p, V.f, .int .i64 D.quota, .slice none 0 0, .int .i64 D.offAt, .int .i64 D.count, .bool D.off]) := ⟨fun W hW => dd_row hc hs1 (Below.trans hb2 (hW.mono hb2.size))⟩
  have KRc : Kept (∀ W, Below w2.heap.size w2 W → W.rangeAt w1.heap.size 0 [.int .i64 c.kind, .string c.path, .string c.dst, .slice av c.data.length cv]) := ⟨fun W hW j u hu => by
    rw [hW.cell (p := ⟨w1.heap.size, 0 + j, none⟩) hs2, Nat.zero_add]
    exact hcc j u hu⟩
  have KE : Kept (failF D c = if badF c = true then 1
    else if c.kind = 1 ∧ nmF D.names c.path ≠ 0 then 8
    else if 2 ≤ c.kind ∧ c.kind ≤ 5 ∧ nmF D.names c.path = 0 then 7
    else if c.kind = 2 ∧ 2097152 < lenF D.files (nmF D.names c.path) + c.data.length then 2
    else if c.kind = 2 ∧ D.quota < usedF D + c.data.length then 12
    else 0) := ⟨rfl⟩
  obtain ⟨ms, hms, hfv, hdat⟩ := h2.f
  obtain ⟨fa, fc, hfv2, -, hfrd⟩ := hfv.openMap
  have KF := Kept.mk hfrd
  have KDa := Kept.mk hdat
  have Kml : Kept (ms.length = D.files.length ∧ ms.length ≤ 100000) := ⟨by rw [← hms, List.length_map] at hfl ⊢; exact ⟨rfl, hfl⟩⟩
  have KC : Kept (∀ f (hf : f < ms.length), ctF D.files (f + 1) = ((ms[f]'hf).xs, (ms[f]'hf).s)) := ⟨fun f hf => by
    unfold ctF
    rw [← hms]
    simp [List.getD, List.getElem?_eq_getElem hf]⟩
  have Kfx : Kept (∀ m ∈ ms, m.xs.length ≤ 2097152) := ⟨fun m hm => hfx (m.xs, m.s) (by rw [← hms]; exact List.mem_map.2 ⟨m, hm, rfl⟩)⟩
  have Kr : Kept (nmF D.names c.path ≤ D.files.length) := ⟨by
    unfold nmF
    cases hx : lk D.names c.path with
    | none => simp
    | some f => exact (hr _ (lk_mem hx)).2⟩
  rw [hfv2] at hw1 KRd KRef KUse ⊢
  obtain ⟨g, hgw⟩ : ∃ g, w.heap.size = g := ⟨_, rfl⟩
  obtain ⟨g2, hgw2⟩ : ∃ g2, w1.heap.size = g2 := ⟨_, rfl⟩
  rw [hgw] at KRd
  rw [hgw2] at KRc
  have KCe : Kept (∀ W, Below w2.heap.size w2 W → W.cell? ⟨g2, 0, none⟩ = some (.int .i64 c.kind) ∧ W.cell? ⟨g2, 1, none⟩ = some (.string c.path) ∧ W.cell? ⟨g2, 3, none⟩ = some (.slice av c.data.length cv) ∧ W.cell? ⟨g, 0, none⟩ = some V.n ∧ W.cell? ⟨g, 3, none⟩ = some (.slice fa ms.length fc) ∧ W.cell? ⟨g, 4, none⟩ = some (.int .i64 D.quota)) := ⟨fun W hW => ⟨(KRc.out W hW) 0 _ rfl, (KRc.out W hW) 1 _ rfl, (KRc.out W hW) 3 _ rfl, (KRd.out W hW) 0 _ rfl, (KRd.out W hW) 3 _ rfl, (KRd.out W hW) 4 _ rfl⟩⟩
  have KCd : Kept (∀ W, Below w2.heap.size w2 W → W.cell? ⟨g, 0, none⟩ = some V.n ∧ W.cell? ⟨g, 1, none⟩ = some V.l ∧ W.cell? ⟨g, 2, none⟩ = some V.p ∧ W.cell? ⟨g, 3, none⟩ = some (.slice fa ms.length fc) ∧ W.cell? ⟨g, 4, none⟩ = some (.int .i64 D.quota) ∧ W.cell? ⟨g, 5, none⟩ = some (.slice none 0 0) ∧ W.cell? ⟨g, 6, none⟩ = some (.int .i64 D.offAt) ∧ W.cell? ⟨g, 7, none⟩ = some (.int .i64 D.count) ∧ W.cell? ⟨g, 8, none⟩ = some (.bool D.off)) := ⟨fun W hW => ⟨(KRd.out W hW) 0 _ rfl, (KRd.out W hW) 1 _ rfl, (KRd.out W hW) 2 _ rfl, (KRd.out W hW) 3 _ rfl, (KRd.out W hW) 4 _ rfl, (KRd.out W hW) 5 _ rfl, (KRd.out W hW) 6 _ rfl, (KRd.out W hW) 7 _ rfl, (KRd.out W hW) 8 _ rfl⟩⟩
  obtain ⟨a0, a1, a3, b0, b3, b4⟩ := KCe.out w2 (Below.refl _ _)
  clear h h2 hb1 hb2 hs1 hs2 hc hcc hb12 hnl hfl hfx hsu hms hfv hdat hfrd hr hp hd hl hD
  obtain ⟨kd, pt, pto, da⟩ := c
  simp only at *
  obtain ⟨F, hF⟩ : ∃ F, nmF D.names pt = F := ⟨_, rfl⟩
  rw [hF] at KAt KE Kr
  clear hF
  obtain ⟨U, hU⟩ : ∃ U, usedF D = U := ⟨_, rfl⟩
  rw [hU] at KUse KE KU0
  clear hU
  go_enter Tryz.func16, Tryz.ntmps16
  go_wp2_with fail
  refine Calls.mono KAt.out (fun e w3 hp => ?_)
  obtain ⟨rfl, hb3⟩ := hp
  have KB3 := Kept.mk hb3
  clear hb3 a0 a1 a3 b0 b3 b4 KAt
  go_wp2_with (refine wpList_load_mid rfl 38 _ rfl g2 0 rfl _ _ (KRc.out _ KB3.out) Tryz.underlying38 rfl infoCall ?_)
  refine Calls.mono (KBad.out _ KB3.out) (fun e w4 hp => ?_)
  obtain ⟨rfl, hb4⟩ := hp
  have KB4 := Kept.mk hb4
  clear hb4 KBad
  obtain ⟨a0, -, a3, -, b3, b4⟩ := KCe.out _ KB4.out
  by_cases hbad : badF ⟨kd, pt, pto, da⟩ = true
  · have KV : Kept (failF D ⟨kd, pt, pto, da⟩ = 1) := ⟨by rw [KE.out, if_pos hbad]⟩
    rw [hbad]
    clear hbad
    go_wp2
    go_ret
    rw [KV.out]
    exact ⟨rfl, by have := KB.out.trans (KB4.out.mono KB.out.size); first | exact this | rwa [hgw] at this⟩
  have hbf : badF ⟨kd, pt, pto, da⟩ = false := by simpa using hbad
  rw [hbf] at KE ⊢
  rw [if_neg (by decide)] at KE
  clear hbad hbf
  by_cases k6 : kd = 6
  · subst k6
    have KV : Kept (failF D ⟨6, pt, pto, da⟩ = 0) := ⟨by rw [KE.out]; simp⟩
    go_upto_region 10 with fail
    go_quiet (fail)
    have KBq := Kept.mk (below_drewN KB4.out nq)
    go_upto_region 12 with fail
    go_quiet (fail)
    have KBz := Kept.mk (below_drewN KBq.out nq)
    go_wp2
    go_ret
    rw [KV.out]
    exact ⟨rfl, by have := KB.out.trans (KBz.out.mono KB.out.size); first | exact this | rwa [hgw] at this⟩
  have b6 : (kd == 6) = false := by simpa using k6
  obtain ⟨e0, e1, e2, e3, e4, e5, e6, e7, e8⟩ := KCd.out _ KB4.out
  go_wp2_with fail
  refine Calls.mono (KRef.out _ KB4.out) (fun e w5 hp => ?_)
  obtain ⟨rfl, hb5⟩ := hp
  have KB5 := Kept.mk hb5
  clear hb5 KRef a0 a3 b3 b4 e0 e1 e2 e3 e4 e5 e6 e7 e8
  obtain ⟨a0, -, a3, -, b3, b4⟩ := KCe.out _ KB5.out
  by_cases k1 : kd = 1
  · subst k1
    by_cases hF : F = 0
    · subst hF
      have KV : Kept (failF D ⟨1, pt, pto, da⟩ = 0) := ⟨by rw [KE.out]; simp⟩
      go_upto_region 10 with fail
      go_quiet (fail)
      have KBq := Kept.mk (below_drewN KB5.out nq)
      go_upto_region 12 with fail
      go_quiet (fail)
      have KBz := Kept.mk (below_drewN KBq.out nq)
      go_wp2
      go_ret
      rw [KV.out]
      exact ⟨rfl, by have := KB.out.trans (KBz.out.mono KB.out.size); first | exact this | rwa [hgw] at this⟩
    · have hFi : ¬ (F : Int) = 0 := by omega
      have KV : Kept (failF D ⟨1, pt, pto, da⟩ = 8) := ⟨by rw [KE.out]; simp [hF]⟩
      go_wp2
      go_ret
      rw [KV.out]
      exact ⟨rfl, by have := KB.out.trans (KB5.out.mono KB.out.size); first | exact this | rwa [hgw] at this⟩
  have b1 : (kd == 1) = false := by simpa using k1
  by_cases hF : F = 0
  · subst hF
    have k2 : 2 ≤ kd := by omega
    have k5 : kd ≤ 5 := by omega
    have KV : Kept (failF D ⟨kd, pt, pto, da⟩ = 7) := ⟨by rw [KE.out]; simp [k1, k2, k5]⟩
    go_wp2
    go_ret
    rw [KV.out]
    exact ⟨rfl, by have := KB.out.trans (KB5.out.mono KB.out.size); first | exact this | rwa [hgw] at this⟩
  have hFi : ¬ (F : Int) = 0 := by omega
  by_cases k2 : kd = 2
  · subst k2
    obtain ⟨f, rfl⟩ : ∃ f, F = f + 1 := ⟨F - 1, by omega⟩
    have hfm : f < ms.length := by have := Kml.out; have := Kr.out; omega
    obtain ⟨b2, off2, hfa, hbl2, -, hrg2⟩ := KF.out (by omega)
    obtain ⟨m, hm⟩ : ∃ m, ms[f]'hfm = m := ⟨_, rfl⟩
    have hmd := (KDa.out _ (List.getElem_mem hfm)).1
    have hct := KC.out f hfm
    have hmx := Kfx.out _ (List.getElem_mem hfm)
    rw [hm] at hmd hct hmx
    obtain ⟨va, vc, hmv, -, -, -⟩ := hmd.form
    have hcell : w2.cell? ⟨b2, off2 + f * 2, none⟩ = some m.v := by
      have := hrg2 f hfm 0 m.v (by rw [hm]; rfl)
      rwa [Nat.add_zero] at this
    have hlen : lenF D.files (f + 1) = (m.xs.length : Int) := by unfold lenF; rw [hct]
    rw [hlen] at KE
    rw [hmv] at hcell
    subst hfa
    have hfi : (f : Int) < (ms.length : Int) := by omega
    have e1 : IntKind.i64.wrap (((f + 1 : Nat) : Int) - 1) = (f : Int) := by
      have ef : ((f + 1 : Nat) : Int) - 1 = (f : Int) := by omega
      rw [ef]
      have := Kml.out
      exact wr64 (by omega) (by omega)
    have KcF : Kept (∀ W, Below w2.heap.size w2 W → W.cell? ⟨b2, off2 + f * 2, none⟩ = some (.slice va m.xs.length vc)) := ⟨fun W hW => by rw [hW.cell (p := ⟨b2, off2 + f * 2, none⟩) hbl2]; exact hcell⟩
    have dF := KcF.out _ KB5.out
    generalize ((f + 1 : Nat) : Int) = f1 at *
    generalize m.xs.length = ml at *
    have e4 : IntKind.i64.wrap ((ml : Int) + (da.length : Int)) = (ml : Int) + (da.length : Int) := wr64 (by omega) (by have := Kl.out; omega)
    have e5 : IntKind.i64.wrap (U + (da.length : Int)) = U + (da.length : Int) := wr64 (by have := KU0.out; omega) (by have := Kl.out; have := KU0.out; omega)
    clear hrg2 hm hmd hct hmx hmv hcell hlen hbl2
    by_cases hL : 2097152 < (ml : Int) + (da.length : Int)
    · have KV : Kept (failF D ⟨2, pt, pto, da⟩ = 2) := ⟨by rw [KE.out]; simp [hL]⟩
      go_upto_region 10 with fail
      go_quiet (fail)
      have KBq := Kept.mk (below_drewN KB5.out nq)
      go_wp2
      go_ret
      rw [KV.out]
      exact ⟨rfl, by have := KB.out.trans (KBq.out.mono KB.out.size); first | exact this | rwa [hgw] at this⟩
    have hLn : ¬ 2097152 < (ml : Int) + (da.length : Int) := hL
    go_upto_region 10 with fail
    go_quiet (fail)
    have KBq := Kept.mk (below_drewN KB5.out nq)
    clear a0 a3 b3 b4 dF
    by_cases hQ : D.quota < U + (da.length : Int)
    · skip
      have KV : Kept (failF D ⟨2, pt, pto, da⟩ = 12) := ⟨by rw [KE.out]; simp [hL, hQ]⟩
      go_upto_region 12 with fail
      refine wp_region_quietC (C := CC w2) (by kernel_rfl) (by kernel_rfl) (show CC w2 _ from (KBq.out).drew) ?_
      go_big_quiet_step ((intro _; rfl))
      refine BigFrame.wpQuiet_want rfl (fun K hK => quiet_run (v := .int .i64 2) (fun W hW => by obtain ⟨hcm, -⟩ := KCe.out W hW; go_simp) (hK _ ?_))
      clear hK K
      simp only [Act.put, List.setIfInBounds_toArray, List.set_cons_zero, List.set_cons_succ]
      go_big_quiet_step ((intro _; rfl))
      go_big_quiet_step ((intro _; rfl))
      refine BigFrame.wpQuiet_want rfl (fun K hK => quiet_load_mid 36 _ rfl g 0 rfl _ _ (fun W hW => KRd.out W hW) Tryz.underlying36 rfl infoDisk (hK _ ?_))
      clear hK K
      simp only [Act.put, List.setIfInBounds_toArray, List.set_cons_zero, List.set_cons_succ]
      go_big_quiet_step ((intro hCw; exact KUse.out _ hCw))
      go_big_quiet_step ((intro _; rfl))
      refine BigFrame.wpQuiet_want rfl (fun K hK => quiet_run (v := .slice av da.length cv) (fun W hW => by obtain ⟨-, -, hcm, -⟩ := KCe.out W hW; go_simp) (hK _ ?_))
      clear hK K
      simp only [Act.put, List.setIfInBounds_toArray, List.set_cons_zero, List.set_cons_succ]
      go_big_quiet_step ((intro _; rfl))
      refine BigFrame.wpQuiet_want rfl (fun K hK => quiet_run (v := .int .i64 (U + (da.length : Int))) (fun W hW => by go_simp) (hK _ ?_))
      clear hK K
      simp only [Act.put, List.setIfInBounds_toArray, List.set_cons_zero, List.set_cons_succ]
      go_big_quiet_step ((intro _; rfl))
      refine BigFrame.wpQuiet_want rfl (fun K hK => quiet_run (v := .int .i64 D.quota) (fun W hW => by obtain ⟨-, -, -, -, -, hcm⟩ := KCe.out W hW; go_simp) (hK _ ?_))
      clear hK K
      simp only [Act.put, List.setIfInBounds_toArray, List.set_cons_zero, List.set_cons_succ]
      refine BigFrame.wpQuiet_want rfl (fun K hK => quiet_run (v := .bool true) (fun W hW => by go_simp) (hK _ ?_))
      clear hK K
      simp only [Act.put, List.setIfInBounds_toArray, List.set_cons_zero, List.set_cons_succ]
      go_big_quiet_step ((intro _; rfl))
      go_big_quiet_step ((intro _; rfl))
      refine wpQuiet_nil ?_
      intro w9 hw9
      have KB9 : Kept (Below w2.heap.size w2 w9) := ⟨hw9⟩
      clear hw9
      go_wp2
      go_ret
      rw [KV.out]
      exact ⟨rfl, by have := KB.out.trans (KB9.out.mono KB.out.size); first | exact this | rwa [hgw] at this⟩
    · skip
      have KV : Kept (failF D ⟨2, pt, pto, da⟩ = 0) := ⟨by rw [KE.out]; simp [hL, hQ]⟩
      go_upto_region 12 with fail
      refine wp_region_quietC (C := CC w2) (by kernel_rfl) (by kernel_rfl) (show CC w2 _ from (KBq.out).drew) ?_
      go_big_quiet_step ((intro _; rfl))
      refine BigFrame.wpQuiet_want rfl (fun K hK => quiet_run (v := .int .i64 2) (fun W hW => by obtain ⟨hcm, -⟩ := KCe.out W hW; go_simp) (hK _ ?_))
      clear hK K
      simp only [Act.put, List.setIfInBounds_toArray, List.set_cons_zero, List.set_cons_succ]
      go_big_quiet_step ((intro _; rfl))
      go_big_quiet_step ((intro _; rfl))
      refine BigFrame.wpQuiet_want rfl (fun K hK => quiet_load_mid 36 _ rfl g 0 rfl _ _ (fun W hW => KRd.out W hW) Tryz.underlying36 rfl infoDisk (hK _ ?_))
      clear hK K
      simp only [Act.put, List.setIfInBounds_toArray, List.set_cons_zero, List.set_cons_succ]
      go_big_quiet_step ((intro hCw; exact KUse.out _ hCw))
      go_big_quiet_step ((intro _; rfl))
      refine BigFrame.wpQuiet_want rfl (fun K hK => quiet_run (v := .slice av da.length cv) (fun W hW => by obtain ⟨-, -, hcm, -⟩ := KCe.out W hW; go_simp) (hK _ ?_))
      clear hK K
      simp only [Act.put, List.setIfInBounds_toArray, List.set_cons_zero, List.set_cons_succ]
      go_big_quiet_step ((intro _; rfl))
      refine BigFrame.wpQuiet_want rfl (fun K hK => quiet_run (v := .int .i64 (U + (da.length : Int))) (fun W hW => by go_simp) (hK _ ?_))
      clear hK K
      simp only [Act.put, List.setIfInBounds_toArray, List.set_cons_zero, List.set_cons_succ]
      go_big_quiet_step ((intro _; rfl))
      refine BigFrame.wpQuiet_want rfl (fun K hK => quiet_run (v := .int .i64 D.quota) (fun W hW => by obtain ⟨-, -, -, -, -, hcm⟩ := KCe.out W hW; go_simp) (hK _ ?_))
      clear hK K
      simp only [Act.put, List.setIfInBounds_toArray, List.set_cons_zero, List.set_cons_succ]
      refine BigFrame.wpQuiet_want rfl (fun K hK => quiet_run (v := .bool false) (fun W hW => by go_simp) (hK _ ?_))
      clear hK K
      simp only [Act.put, List.setIfInBounds_toArray, List.set_cons_zero, List.set_cons_succ]
      go_big_quiet_step ((intro _; rfl))
      go_big_quiet_step ((intro _; rfl))
      refine wpQuiet_nil ?_
      intro w9 hw9
      have KB9 : Kept (Below w2.heap.size w2 w9) := ⟨hw9⟩
      clear hw9
      go_wp2
      go_ret
      rw [KV.out]
      exact ⟨rfl, by have := KB.out.trans (KB9.out.mono KB.out.size); first | exact this | rwa [hgw] at this⟩
  have b2 : (kd == 2) = false := by simpa using k2
  have k22 : 2 ≤ kd := by omega
  have k5 : kd ≤ 5 := by omega
  have KV : Kept (failF D ⟨kd, pt, pto, da⟩ = 0) := ⟨by rw [KE.out]; simp [k1, k2, hF]⟩
  go_upto_region 10 with fail
  go_quiet (fail)
  have KBq := Kept.mk (below_drewN KB5.out nq)
  go_upto_region 12 with fail
  go_quiet (fail)
  have KBz := Kept.mk (below_drewN KBq.out nq)
  go_wp2
  go_ret
  rw [KV.out]
  exact ⟨rfl, by have := KB.out.trans (KBz.out.mono KB.out.size); first | exact this | rwa [hgw] at this⟩
end Go.Proofs.YtegdadkejheagaaGreatDoor
