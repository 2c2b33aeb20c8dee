/-
  The document's bad.
-/
import Derived.Test.YtegdadkejheagaaGreatDoorG7
import Derived.Test.YtegdadkejheagaaGreatDoorN32
import Derived.Test.YtegdadkejheagaaGreatDoorG11
namespace Go.Proofs.YtegdadkejheagaaGreatDoor
open Go.RowKit Go.WideMaps Go.Maps

/-- What a call's block holds. -/
theorem clm_box (w : World) (a b c d : Value) : ∃ wx, w.alloc (.cells #[a, b, c, d] 38) = wx ∧ Below w.heap.size w wx ∧ w.heap.size < wx.heap.size ∧ (∀ j u, [a, b, c, d][j]? = some u → wx.cell? ⟨w.heap.size, j, none⟩ = some u) :=
  ⟨_, rfl, (Below.refl _ _).alloc (Nat.le_refl _) _, by simp, fun j u hu => alloc_cell _ _ _ _ _ (by simpa using hu)⟩
set_option maxHeartbeats 2000000 in
set_option maxRecDepth 100000 in
theorem bad_any (c : Cl) (v : Value) (w : World) (hv : ∃ a n m, v = .slice a n m) (hp : c.path.size < 4294967281) (hd : c.dst.size < 4294967281) :
    Calls Tryz.prog 44 #[.agg #[.int .i64 c.kind, .string c.path, .string c.dst, v]] w fun e w' => e = .returned (.bool (badF c)) ∧ Below w.heap.size w w' := by
  obtain ⟨av, nv, cv, rfl⟩ := hv
  obtain ⟨w1, hw1, hb1, hs1, hc⟩ := clm_box w (.int .i64 c.kind) (.string c.path) (.string c.dst) (.slice av nv cv)
  have c0 := hc 0 _ rfl
  have c1 := hc 1 _ rfl
  have c2 := hc 2 _ rfl
  have KB := Kept.mk hb1
  have Ksz := Kept.mk (And.intro hp hd)
  have KE : Kept (badF c = if c.kind = 6 then false else !pathF c.path || (decide (c.kind = 4) && (!pathF c.dst || !decide (folF c.path = folF c.dst)))) := ⟨rfl⟩
  obtain ⟨kd, pt, pto, da⟩ := c
  simp only at c0 c1 c2 hw1 KE Ksz ⊢
  obtain ⟨g, hgw⟩ : ∃ g, w.heap.size = g := ⟨_, rfl⟩
  rw [hgw] at c0 c1 c2
  have K0 : Kept (∀ W, CC w1 W → W.cell? ⟨g, 0, none⟩ = some (.int .i64 kd)) := ⟨fun W hW => by rw [CC.cell hW (by rw [← hgw]; exact hs1)]; exact c0⟩
  have K1 : Kept (∀ W, CC w1 W → W.cell? ⟨g, 1, none⟩ = some (.string pt)) := ⟨fun W hW => by rw [CC.cell hW (by rw [← hgw]; exact hs1)]; exact c1⟩
  have K2 : Kept (∀ W, CC w1 W → W.cell? ⟨g, 2, none⟩ = some (.string pto)) := ⟨fun W hW => by rw [CC.cell hW (by rw [← hgw]; exact hs1)]; exact c2⟩
  have KP1 : Kept (∀ W, CC w1 W → Calls Tryz.prog 59 #[.string pt] W fun e w'' => e = .returned (.bool (pathF pt)) ∧ CC w1 w'') := ⟨fun W hW => (rpath_any pt W Ksz.out.1).mono fun e w'' h => ⟨h.1, hW.on h.2⟩⟩
  have KP2 : Kept (∀ W, CC w1 W → Calls Tryz.prog 59 #[.string pto] W fun e w'' => e = .returned (.bool (pathF pto)) ∧ CC w1 w'') := ⟨fun W hW => (rpath_any pto W Ksz.out.2).mono fun e w'' h => ⟨h.1, hW.on h.2⟩⟩
  have KF1 : Kept (∀ W, CC w1 W → Calls Tryz.prog 29 #[.string pt] W fun e w'' => e = .returned (.string (folF pt)) ∧ CC w1 w'') := ⟨fun W hW => (folder_any pt W (by have := Ksz.out.1; omega)).mono fun e w'' h => ⟨h.1, hW.on h.2⟩⟩
  have KF2 : Kept (∀ W, CC w1 W → Calls Tryz.prog 29 #[.string pto] W fun e w'' => e = .returned (.string (folF pto)) ∧ CC w1 w'') := ⟨fun W hW => (folder_any pto W (by have := Ksz.out.2; omega)).mono fun e w'' h => ⟨h.1, hW.on h.2⟩⟩
  clear hb1 hs1 hc hp hd
  by_cases k6 : kd = 6
  · subst k6
    rw [if_pos rfl] at KE
    go_enter Tryz.func44, Tryz.ntmps44
    go_wp2
    go_ret
    exact ⟨by rw [KE.out]; rfl, by have := KB.out; first | exact this | rwa [hgw] at this⟩
  rw [if_neg k6] at KE
  have b6 : (kd == 6) = false := by simpa using k6
  clear k6
  go_enter Tryz.func44, Tryz.ntmps44
  by_cases q1 : pathF pt = true
  · rw [q1] at KP1 KE
    by_cases k4 : kd = 4
    · subst k4
      by_cases q2 : pathF pto = true
      · rw [q2] at KP2 KE
        obtain ⟨Q1, hQ1⟩ : ∃ Q1, folF pt = Q1 := ⟨_, rfl⟩
        obtain ⟨Q2, hQ2⟩ : ∃ Q2, folF pto = Q2 := ⟨_, rfl⟩
        rw [hQ1] at KF1 KE
        rw [hQ2] at KF2 KE
        have KEq : Kept (decide (Q1 = Q2) = (Q1.toList == Q2.toList)) := ⟨by
          by_cases e : Q1 = Q2
          · rw [str_eqB e]; simpa using e
          · rw [str_ne_list e]; simpa using e⟩
        clear hQ1 hQ2 q1 q2
        have KV : Kept (badF ⟨4, pt, pto, da⟩ = !(Q1.toList == Q2.toList)) := ⟨by rw [KE.out]; rw [KEq.out]; simp⟩
        go_upto_region 3 with fail
        refine wp_region_quietC (C := CC w1) (by kernel_rfl) (by kernel_rfl) (Below.refl _ _).drew ?_
        go_big_quiet_step ((intro _; rfl))
        refine BigFrame.wpQuiet_want rfl (fun K hK => quiet_run (v := .string pt) (fun W hW => by have hcm := K1.out W hW; go_simp) (hK _ ?_))
        clear hK K
        simp only [Act.put, List.setIfInBounds_toArray, List.set_cons_zero, List.set_cons_succ]
        go_big_quiet_step ((intro hCw; exact KP1.out _ hCw))
        go_big_quiet_step ((intro _; rfl))
        go_big_quiet_step ((intro _; rfl))
        go_big_quiet_step ((intro _; rfl))
        refine BigFrame.wpQuiet_want rfl (fun K hK => quiet_run (v := .int .i64 4) (fun W hW => by have hcm := K0.out W hW; go_simp) (hK _ ?_))
        clear hK K
        simp only [Act.put, List.setIfInBounds_toArray, List.set_cons_zero, List.set_cons_succ]
        go_big_quiet_step ((intro _; rfl))
        go_big_quiet_step ((intro _; rfl))
        go_big_quiet_step ((intro _; rfl))
        refine BigFrame.wpQuiet_want rfl (fun K hK => quiet_run (v := .string pto) (fun W hW => by have hcm := K2.out W hW; go_simp) (hK _ ?_))
        clear hK K
        simp only [Act.put, List.setIfInBounds_toArray, List.set_cons_zero, List.set_cons_succ]
        go_big_quiet_step ((intro hCw; exact KP2.out _ hCw))
        go_big_quiet_step ((intro _; rfl))
        go_big_quiet_step ((intro _; rfl))
        go_big_quiet_step ((intro _; rfl))
        refine BigFrame.wpQuiet_want rfl (fun K hK => quiet_run (v := .string pt) (fun W hW => by have hcm := K1.out W hW; go_simp) (hK _ ?_))
        clear hK K
        simp only [Act.put, List.setIfInBounds_toArray, List.set_cons_zero, List.set_cons_succ]
        go_big_quiet_step ((intro hCw; exact KF1.out _ hCw))
        go_big_quiet_step ((intro _; rfl))
        refine BigFrame.wpQuiet_want rfl (fun K hK => quiet_run (v := .string pto) (fun W hW => by have hcm := K2.out W hW; go_simp) (hK _ ?_))
        clear hK K
        simp only [Act.put, List.setIfInBounds_toArray, List.set_cons_zero, List.set_cons_succ]
        go_big_quiet_step ((intro hCw; exact KF2.out _ hCw))
        refine BigFrame.wpQuiet_want rfl (fun K hK => quiet_run (v := .bool (!(Q1.toList == Q2.toList))) (fun W hW => by go_simp) (hK _ ?_))
        clear hK K
        simp only [Act.put, List.setIfInBounds_toArray, List.set_cons_zero, List.set_cons_succ]
        go_big_quiet_step ((intro _; rfl))
        go_big_quiet_step ((intro _; rfl))
        go_big_quiet_step ((intro _; rfl))
        go_big_quiet_step ((intro _; rfl))
        refine wpQuiet_nil ?_
        intro w3 hw3
        have KB3 : Kept (Below w.heap.size w w3) := ⟨KB.out.trans (Below.mono hw3 KB.out.size)⟩
        clear hw3
        go_wp2
        go_ret
        exact ⟨by rw [KV.out]; rfl, by have := KB3.out; first | exact this | rwa [hgw] at this⟩
      · have q2f : pathF pto = false := by simpa using q2
        rw [q2f] at KP2 KE
        clear q1 q2 q2f
        have KV : Kept (badF ⟨4, pt, pto, da⟩ = true) := ⟨by rw [KE.out]; simp⟩
        go_upto_region 3 with fail
        refine wp_region_quietC (C := CC w1) (by kernel_rfl) (by kernel_rfl) (Below.refl _ _).drew ?_
        go_big_quiet_step ((intro _; rfl))
        refine BigFrame.wpQuiet_want rfl (fun K hK => quiet_run (v := .string pt) (fun W hW => by have hcm := K1.out W hW; go_simp) (hK _ ?_))
        clear hK K
        simp only [Act.put, List.setIfInBounds_toArray, List.set_cons_zero, List.set_cons_succ]
        go_big_quiet_step ((intro hCw; exact KP1.out _ hCw))
        go_big_quiet_step ((intro _; rfl))
        go_big_quiet_step ((intro _; rfl))
        go_big_quiet_step ((intro _; rfl))
        refine BigFrame.wpQuiet_want rfl (fun K hK => quiet_run (v := .int .i64 4) (fun W hW => by have hcm := K0.out W hW; go_simp) (hK _ ?_))
        clear hK K
        simp only [Act.put, List.setIfInBounds_toArray, List.set_cons_zero, List.set_cons_succ]
        go_big_quiet_step ((intro _; rfl))
        go_big_quiet_step ((intro _; rfl))
        go_big_quiet_step ((intro _; rfl))
        refine BigFrame.wpQuiet_want rfl (fun K hK => quiet_run (v := .string pto) (fun W hW => by have hcm := K2.out W hW; go_simp) (hK _ ?_))
        clear hK K
        simp only [Act.put, List.setIfInBounds_toArray, List.set_cons_zero, List.set_cons_succ]
        go_big_quiet_step ((intro hCw; exact KP2.out _ hCw))
        repeat (go_big_quiet_step ((intro _; rfl)))
        refine wpQuiet_nil ?_
        intro w3 hw3
        have KB3 : Kept (Below w.heap.size w w3) := ⟨KB.out.trans (Below.mono hw3 KB.out.size)⟩
        clear hw3
        go_wp2
        go_ret
        exact ⟨by rw [KV.out]; rfl, by have := KB3.out; first | exact this | rwa [hgw] at this⟩
    · have b4 : (kd == 4) = false := by simpa using k4
      clear q1
      have KV : Kept (badF ⟨kd, pt, pto, da⟩ = false) := ⟨by rw [KE.out]; simp [k4]⟩
      clear k4
      go_upto_region 3 with fail
      refine wp_region_quietC (C := CC w1) (by kernel_rfl) (by kernel_rfl) (Below.refl _ _).drew ?_
      go_big_quiet_step ((intro _; rfl))
      refine BigFrame.wpQuiet_want rfl (fun K hK => quiet_run (v := .string pt) (fun W hW => by have hcm := K1.out W hW; go_simp) (hK _ ?_))
      clear hK K
      simp only [Act.put, List.setIfInBounds_toArray, List.set_cons_zero, List.set_cons_succ]
      go_big_quiet_step ((intro hCw; exact KP1.out _ hCw))
      go_big_quiet_step ((intro _; rfl))
      go_big_quiet_step ((intro _; rfl))
      go_big_quiet_step ((intro _; rfl))
      refine BigFrame.wpQuiet_want rfl (fun K hK => quiet_run (v := .int .i64 kd) (fun W hW => by have hcm := K0.out W hW; go_simp) (hK _ ?_))
      clear hK K
      simp only [Act.put, List.setIfInBounds_toArray, List.set_cons_zero, List.set_cons_succ]
      refine BigFrame.wpQuiet_want rfl (fun K hK => quiet_run (v := .bool false) (fun W hW => by go_simp) (hK _ ?_))
      clear hK K
      simp only [Act.put, List.setIfInBounds_toArray, List.set_cons_zero, List.set_cons_succ]
      repeat (go_big_quiet_step ((intro _; rfl)))
      refine wpQuiet_nil ?_
      intro w3 hw3
      have KB3 : Kept (Below w.heap.size w w3) := ⟨KB.out.trans (Below.mono hw3 KB.out.size)⟩
      clear hw3
      go_wp2
      go_ret
      exact ⟨by rw [KV.out]; rfl, by have := KB3.out; first | exact this | rwa [hgw] at this⟩
  · have q1f : pathF pt = false := by simpa using q1
    rw [q1f] at KP1 KE
    clear q1 q1f
    have KV : Kept (badF ⟨kd, pt, pto, da⟩ = true) := ⟨by rw [KE.out]; simp⟩
    go_upto_region 3 with fail
    refine wp_region_quietC (C := CC w1) (by kernel_rfl) (by kernel_rfl) (Below.refl _ _).drew ?_
    go_big_quiet_step ((intro _; rfl))
    refine BigFrame.wpQuiet_want rfl (fun K hK => quiet_run (v := .string pt) (fun W hW => by have hcm := K1.out W hW; go_simp) (hK _ ?_))
    clear hK K
    simp only [Act.put, List.setIfInBounds_toArray, List.set_cons_zero, List.set_cons_succ]
    go_big_quiet_step ((intro hCw; exact KP1.out _ hCw))
    repeat (go_big_quiet_step ((intro _; rfl)))
    refine wpQuiet_nil ?_
    intro w3 hw3
    have KB3 : Kept (Below w.heap.size w w3) := ⟨KB.out.trans (Below.mono hw3 KB.out.size)⟩
    clear hw3
    go_wp2
    go_ret
    exact ⟨by rw [KV.out]; rfl, by have := KB3.out; first | exact this | rwa [hgw] at this⟩
end Go.Proofs.YtegdadkejheagaaGreatDoor
