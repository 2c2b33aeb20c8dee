/-
  The walk of ObjectChecks.
-/
import Derived.Test.YtkdlhcegimnocaaGreatDoorJ7
namespace Go.Proofs.YtkdlhcegimnocaaGreatDoor
open Go.RowKit

set_option maxHeartbeats 4000000 in
set_option maxRecDepth 100000 in
theorem checks_walk (k : Int) (u : Value) (xs : List Int) (w : World) (hg : Gv w) (hgl : Gl w) (hx : Rd .u8 anyB w u xs) (hA : Sh.AllB xs) (hl : xs.length ≤ 140737488355328) :
    Calls Tryz.prog 3 #[.int .i64 k, u] w fun e w' => e = .returned (.bool true) ∧ Below w.heap.size w w' := by
  have KAw := Kept.mk (awake_any w hg)
  have KLk : Kept (∀ W, Below w.heap.size w W → Calls Tryz.prog 5 #[.agg #[.int .i64 k, u]] W fun e w' => ∃ v' L E, e = .returned (.tuple #[v', .int .i64 E]) ∧ OwnL w' W.heap.size v' L ∧ LkEnd k xs L E ∧ Below W.heap.size W w') := ⟨fun W hW => links_any k u xs W (hg.later hW) (hgl.later hW) (hx.later hW (Nat.le_refl _)) hA⟩
  have KDl : Kept (∀ W, Below w.heap.size w W → Calls Tryz.prog 6 #[.agg #[.int .i64 k, u]] W fun e w' => ∃ v' L E, e = .returned (.tuple #[v', .int .i64 E]) ∧ OwnM w' W.heap.size v' L ∧ LkEnd k xs L E ∧ Below W.heap.size W w') := ⟨fun W hW => docLinks_any k u xs W (hg.later hW) (hgl.later hW) (hx.later hW (Nat.le_refl _)) hA (by omega)⟩
  have KCk : Kept (∀ W, Below w.heap.size w W → Calls Tryz.prog 7 #[.agg #[.int .i64 k, u]] W fun e w' => ∃ L E, e = .returned (.int .i64 E) ∧ LkEnd k xs L E ∧ Below W.heap.size W w') := ⟨fun W hW => check_any k u xs W (hg.later hW) (hgl.later hW) (hx.later hW (Nat.le_refl _)) hA⟩
  have KDc : Kept (∀ W, Below w.heap.size w W → Calls Tryz.prog 8 #[.agg #[.int .i64 k, u]] W fun e w' => ∃ L E, e = .returned (.int .i64 E) ∧ LkEnd k xs L E ∧ Below W.heap.size W w') := ⟨fun W hW => docCheck_any k u xs W (hg.later hW) (hgl.later hW) (hx.later hW (Nat.le_refl _)) hA (by omega)⟩
  obtain ⟨a, c, rfl, -⟩ := hx
  clear hg hgl hA hl
  go_enter Tryz.func3, Tryz.ntmps3
  go_wp2_with fail
  refine Calls.mono KAw.out (fun e w1 hp => ?_)
  obtain ⟨rfl, hb1⟩ := hp
  have KB1 := Kept.mk hb1
  clear hb1 KAw
  by_cases hm : 20000 < xs.length ∧ xs.length ≤ 1048576
  · have h1 : decide ((20000 : Int) < (xs.length : Int)) = true := decide_eq_true (by omega)
    have h2 : decide ((xs.length : Int) ≤ 1048576) = true := decide_eq_true (by omega)
    clear hm KLk KDl KCk KDc
    go_wp2
    go_ret
    exact ⟨rfl, KB1.out⟩
  · obtain ⟨w2, hw2, hbo, c0, c1, hs2⟩ := ob_box w1 k (.slice a xs.length c)
    have hB2 := KB1.out.trans (hbo.mono KB1.out.size)
    have KB2 := Kept.mk hB2
    have KW2 := Kept.mk hw2
    have KI : Kept ((Tryz.prog.info? 26).map (·.size) = some 2) := ⟨by kernel_rfl⟩
    have hR : w2.rangeAt w1.heap.size 0 [.int .i64 k, .slice a xs.length c] := fun j x hx => by
      have : j = 0 ∨ j = 1 ∨ 2 ≤ j := by omega
      rcases this with rfl | rfl | hj
      · cases hx; exact c0
      · cases hx; exact c1
      · rw [List.getElem?_eq_none (by exact hj)] at hx; cases hx
    have KRg : Kept (∀ W, Below w2.heap.size w2 W → W.rangeAt w1.heap.size 0 [.int .i64 k, .slice a xs.length c]) := ⟨fun W hW j x hx => by
      rw [hW.cell (p := ⟨w1.heap.size, 0 + j, none⟩) (by show w1.heap.size < _; omega)]
      exact hR j x hx⟩
    have KR2 := Kept.mk hR
    have K3 := Kept.mk (KLk.out w2 hB2)
    clear hB2 hbo KLk hw2 c0 c1 hs2 hR
    by_cases h2 : 20000 < xs.length
    · have g1 : decide ((20000 : Int) < (xs.length : Int)) = true := decide_eq_true (by omega)
      have g2 : decide ((xs.length : Int) ≤ 1048576) = false := decide_eq_false (by omega)
      clear hm h2
      go_upto_region 6 with fail
      rw [KW2.out]
      go_wp2_with (first | (refine wpList_load_mid rfl 26 _ rfl w1.heap.size 0 rfl [.int .i64 k, .slice a xs.length c] _ KR2.out Tryz.underlying26 rfl KI.out ?_))
      refine Calls.mono K3.out (fun e w3 hp => ?_)
      obtain ⟨v3, L, E, rfl, ho3, hE3, hb3⟩ := hp
      have hB3 := KB2.out.trans (hb3.mono KB2.out.size)
      have K23 := Kept.mk hb3
      have KB3 := Kept.mk hB3
      have KE := Kept.mk hE3
      have KO3 := Kept.mk ho3.rdL
      have KR3 := Kept.mk (KRg.out w3 hb3)
      have K4 := Kept.mk (KDl.out w3 hB3)
      clear ho3 hE3 hb3 hB3 K3 KDl KR2
      go_wp2_with (first | (refine wpList_load_mid rfl 26 _ rfl w1.heap.size 0 rfl [.int .i64 k, .slice a xs.length c] _ KR3.out Tryz.underlying26 rfl KI.out ?_))
      refine Calls.mono K4.out (fun e w4 hp => ?_)
      obtain ⟨v4, L4, E4, rfl, ho4, hE4, hb4⟩ := hp
      obtain ⟨rfl, rfl⟩ := lk_one KE.out hE4
      have hB4 := KB3.out.trans (hb4.mono KB3.out.size)
      have h24 := K23.out.trans (hb4.mono K23.out.size)
      have KB4 := Kept.mk hB4
      have KO3 := Kept.mk (KO3.out.later hb4 (Nat.le_refl _))
      have KO4 := Kept.mk ho4.rdL
      have KRx : Kept (∀ X, CC w4 X → X.rangeAt w1.heap.size 0 [.int .i64 k, .slice a xs.length c]) := ⟨fun X hX => KRg.out X (h24.trans (Below.mono hX h24.size))⟩
      have KCx : Kept (∀ X, CC w4 X → Calls Tryz.prog 7 #[.agg #[.int .i64 k, .slice a xs.length c]] X fun e w' => e = .returned (.int .i64 E) ∧ CC w4 w') := ⟨fun X hX => (KCk.out X (KB4.out.trans (Below.mono hX KB4.out.size))).mono fun e w' hp => by
        obtain ⟨L', E', h1, h2, h3⟩ := hp
        obtain ⟨-, rfl⟩ := lk_one KE.out h2
        exact ⟨h1, hX.on h3⟩⟩
      have KDx : Kept (∀ X, CC w4 X → Calls Tryz.prog 8 #[.agg #[.int .i64 k, .slice a xs.length c]] X fun e w' => e = .returned (.int .i64 E) ∧ CC w4 w') := ⟨fun X hX => (KDc.out X (KB4.out.trans (Below.mono hX KB4.out.size))).mono fun e w' hp => by
        obtain ⟨L', E', h1, h2, h3⟩ := hp
        obtain ⟨-, rfl⟩ := lk_one KE.out h2
        exact ⟨h1, hX.on h3⟩⟩
      have KLl : Kept (L.length ≤ 4096) := ⟨KE.out.len⟩
      clear ho4 hE4 hb4 hB4 h24 K4 KRg KR3 KCk KDc KE
      go_upto_region 8 with fail
      obtain ⟨pa, pc, hv3, -⟩ := KO3.out
      subst hv3
      obtain ⟨qa, qc, hv4, -⟩ := KO4.out
      subst hv4
      refine wp_region_part (C := CC w4) 5 11 #[true, true, true, true, true, true, false, false, false, false, false, false, false, false, false, false, false] (by kernel_rfl) (by kernel_rfl) (Below.refl _ _).drew ?_
      simp only [List.take_succ_cons, List.take_zero]
      refine BigFrame.wpQuiet_want rfl (fun K hK => quiet_load_mid 26 _ rfl w1.heap.size 0 rfl [.int .i64 k, .slice a xs.length c] _ KRx.out Tryz.underlying26 rfl KI.out (hK _ ?_))
      clear hK K
      simp only [Act.put, List.setIfInBounds_toArray, List.set_cons_zero, List.set_cons_succ]
      go_big_quiet_step ((intro hCw; exact KCx.out _ hCw))
      refine BigFrame.wpQuiet_want rfl (fun K hK => quiet_load_mid 26 _ rfl w1.heap.size 0 rfl [.int .i64 k, .slice a xs.length c] _ KRx.out Tryz.underlying26 rfl KI.out (hK _ ?_))
      clear hK K
      simp only [Act.put, List.setIfInBounds_toArray, List.set_cons_zero, List.set_cons_succ]
      go_big_quiet_step ((intro hCw; exact KDx.out _ hCw))
      refine BigFrame.wpQuiet_want rfl (fun K hK => quiet_run (v := .bool true) (fun W hW => by go_simp) (hK _ ?_))
      clear hK K
      simp only [Act.put, List.setIfInBounds_toArray, List.set_cons_zero, List.set_cons_succ]
      go_big_quiet_step ((intro _; rfl))
      refine wpQuiet_nil ?_
      intro x1 hx1
      have h41 : Below w4.heap.size w4 x1 := hx1
      have KBx := Kept.mk (KB4.out.trans (h41.mono KB4.out.size))
      have KO3 := Kept.mk (KO3.out.later h41 (Nat.le_refl _))
      have KO4 := Kept.mk (KO4.out.later h41 (Nat.le_refl _))
      have K5 := Kept.mk (lawLinks_any _ L x1 KO3.out KLl.out)
      clear hx1 h41 KRx KCx KDx
      refine wpAny_take (i := 6) (v := .slice pa L.length pc) rfl (by kernel_rfl) (by kernel_rfl) (by kernel_rfl) (fun _ _ _ h => h) (Or.inl ⟨by rfl, fun W => by go_simp⟩) ?_
      simp only [Act.put, List.setIfInBounds_toArray, List.set_cons_zero, List.set_cons_succ]
      refine wpAny_take (i := 8) (v := .slice qa L.length qc) rfl (by kernel_rfl) (by kernel_rfl) (by kernel_rfl) (fun _ _ _ h => h) (Or.inl ⟨by rfl, fun W => by go_simp⟩) ?_
      simp only [Act.put, List.setIfInBounds_toArray, List.set_cons_zero, List.set_cons_succ]
      refine An.wpAny_one (i := 7) (by kernel_rfl) rfl rfl (fun K hK => ?_)
      go_simp
      refine Calls.mono K5.out (fun e x2 hp => ?_)
      obtain ⟨v5, rfl, ho5, hb5⟩ := hp
      have KB5 := Kept.mk (KBx.out.trans (hb5.mono KBx.out.size))
      have K6 := Kept.mk (sameL_any v5 (.slice qa L.length qc) L x2 ho5.rdL (KO4.out.later hb5 (Nat.le_refl _)) (by have := KLl.out; omega))
      clear ho5 hb5 K5
      refine hK _ _ ?_
      clear hK K
      refine An.wpAny_one (i := 9) (by kernel_rfl) rfl rfl (fun K hK => ?_)
      go_simp
      refine Calls.mono K6.out (fun e x3 hp => ?_)
      obtain ⟨rfl, hb6⟩ := hp
      have KB6 := Kept.mk (KB5.out.trans (hb6.mono KB5.out.size))
      clear hb6 K6
      refine hK _ _ ?_
      clear hK K
      refine An.wpAny_one (i := 10) (by kernel_rfl) rfl rfl (fun K hK => ?_)
      go_simp
      refine hK _ _ ?_
      clear hK K
      refine An.wpAny_one (i := 11) (by kernel_rfl) rfl rfl (fun K hK => ?_)
      go_simp
      refine hK _ _ ?_
      clear hK K
      refine wpAny_take (i := 12) (v := .int .i64 E) rfl (by kernel_rfl) (by kernel_rfl) (by kernel_rfl) (fun _ _ _ h => h) (Or.inl ⟨by rfl, fun W => by go_simp⟩) ?_
      simp only [Act.put, List.setIfInBounds_toArray, List.set_cons_zero, List.set_cons_succ]
      refine wpAny_take (i := 13) (v := .int .i64 E) rfl (by kernel_rfl) (by kernel_rfl) (by kernel_rfl) (fun _ _ _ h => h) (Or.inl ⟨by rfl, fun W => by go_simp⟩) ?_
      simp only [Act.put, List.setIfInBounds_toArray, List.set_cons_zero, List.set_cons_succ]
      refine An.wpAny_one (i := 14) (by kernel_rfl) rfl rfl (fun K hK => ?_)
      go_simp
      refine hK _ _ ?_
      clear hK K
      refine An.wpAny_one (i := 15) (by kernel_rfl) rfl rfl (fun K hK => ?_)
      go_simp
      refine hK _ _ ?_
      clear hK K
      refine An.wpAny_one (i := 16) (by kernel_rfl) rfl rfl (fun K hK => ?_)
      go_simp
      refine hK _ _ ?_
      clear hK K
      refine wpAny_done (by kernel_rfl) (NoPanic.normal ?_) _
      go_wp2
      go_ret
      exact ⟨rfl, KB6.out⟩
    · have g1 : decide ((20000 : Int) < (xs.length : Int)) = false := decide_eq_false (by omega)
      clear hm h2
      go_upto_region 6 with fail
      rw [KW2.out]
      go_wp2_with (first | (refine wpList_load_mid rfl 26 _ rfl w1.heap.size 0 rfl [.int .i64 k, .slice a xs.length c] _ KR2.out Tryz.underlying26 rfl KI.out ?_))
      refine Calls.mono K3.out (fun e w3 hp => ?_)
      obtain ⟨v3, L, E, rfl, ho3, hE3, hb3⟩ := hp
      have hB3 := KB2.out.trans (hb3.mono KB2.out.size)
      have K23 := Kept.mk hb3
      have KB3 := Kept.mk hB3
      have KE := Kept.mk hE3
      have KO3 := Kept.mk ho3.rdL
      have KR3 := Kept.mk (KRg.out w3 hb3)
      have K4 := Kept.mk (KDl.out w3 hB3)
      clear ho3 hE3 hb3 hB3 K3 KDl KR2
      go_wp2_with (first | (refine wpList_load_mid rfl 26 _ rfl w1.heap.size 0 rfl [.int .i64 k, .slice a xs.length c] _ KR3.out Tryz.underlying26 rfl KI.out ?_))
      refine Calls.mono K4.out (fun e w4 hp => ?_)
      obtain ⟨v4, L4, E4, rfl, ho4, hE4, hb4⟩ := hp
      obtain ⟨rfl, rfl⟩ := lk_one KE.out hE4
      have hB4 := KB3.out.trans (hb4.mono KB3.out.size)
      have h24 := K23.out.trans (hb4.mono K23.out.size)
      have KB4 := Kept.mk hB4
      have KO3 := Kept.mk (KO3.out.later hb4 (Nat.le_refl _))
      have KO4 := Kept.mk ho4.rdL
      have KRx : Kept (∀ X, CC w4 X → X.rangeAt w1.heap.size 0 [.int .i64 k, .slice a xs.length c]) := ⟨fun X hX => KRg.out X (h24.trans (Below.mono hX h24.size))⟩
      have KCx : Kept (∀ X, CC w4 X → Calls Tryz.prog 7 #[.agg #[.int .i64 k, .slice a xs.length c]] X fun e w' => e = .returned (.int .i64 E) ∧ CC w4 w') := ⟨fun X hX => (KCk.out X (KB4.out.trans (Below.mono hX KB4.out.size))).mono fun e w' hp => by
        obtain ⟨L', E', h1, h2, h3⟩ := hp
        obtain ⟨-, rfl⟩ := lk_one KE.out h2
        exact ⟨h1, hX.on h3⟩⟩
      have KDx : Kept (∀ X, CC w4 X → Calls Tryz.prog 8 #[.agg #[.int .i64 k, .slice a xs.length c]] X fun e w' => e = .returned (.int .i64 E) ∧ CC w4 w') := ⟨fun X hX => (KDc.out X (KB4.out.trans (Below.mono hX KB4.out.size))).mono fun e w' hp => by
        obtain ⟨L', E', h1, h2, h3⟩ := hp
        obtain ⟨-, rfl⟩ := lk_one KE.out h2
        exact ⟨h1, hX.on h3⟩⟩
      have KLl : Kept (L.length ≤ 4096) := ⟨KE.out.len⟩
      clear ho4 hE4 hb4 hB4 h24 K4 KRg KR3 KCk KDc KE
      go_upto_region 8 with fail
      obtain ⟨pa, pc, hv3, -⟩ := KO3.out
      subst hv3
      obtain ⟨qa, qc, hv4, -⟩ := KO4.out
      subst hv4
      refine wp_region_part (C := CC w4) 5 11 #[true, true, true, true, true, true, false, false, false, false, false, false, false, false, false, false, false] (by kernel_rfl) (by kernel_rfl) (Below.refl _ _).drew ?_
      simp only [List.take_succ_cons, List.take_zero]
      refine BigFrame.wpQuiet_want rfl (fun K hK => quiet_load_mid 26 _ rfl w1.heap.size 0 rfl [.int .i64 k, .slice a xs.length c] _ KRx.out Tryz.underlying26 rfl KI.out (hK _ ?_))
      clear hK K
      simp only [Act.put, List.setIfInBounds_toArray, List.set_cons_zero, List.set_cons_succ]
      go_big_quiet_step ((intro hCw; exact KCx.out _ hCw))
      refine BigFrame.wpQuiet_want rfl (fun K hK => quiet_load_mid 26 _ rfl w1.heap.size 0 rfl [.int .i64 k, .slice a xs.length c] _ KRx.out Tryz.underlying26 rfl KI.out (hK _ ?_))
      clear hK K
      simp only [Act.put, List.setIfInBounds_toArray, List.set_cons_zero, List.set_cons_succ]
      go_big_quiet_step ((intro hCw; exact KDx.out _ hCw))
      refine BigFrame.wpQuiet_want rfl (fun K hK => quiet_run (v := .bool true) (fun W hW => by go_simp) (hK _ ?_))
      clear hK K
      simp only [Act.put, List.setIfInBounds_toArray, List.set_cons_zero, List.set_cons_succ]
      go_big_quiet_step ((intro _; rfl))
      refine wpQuiet_nil ?_
      intro x1 hx1
      have h41 : Below w4.heap.size w4 x1 := hx1
      have KBx := Kept.mk (KB4.out.trans (h41.mono KB4.out.size))
      have KO3 := Kept.mk (KO3.out.later h41 (Nat.le_refl _))
      have KO4 := Kept.mk (KO4.out.later h41 (Nat.le_refl _))
      have K5 := Kept.mk (lawLinks_any _ L x1 KO3.out KLl.out)
      clear hx1 h41 KRx KCx KDx
      refine wpAny_take (i := 6) (v := .slice pa L.length pc) rfl (by kernel_rfl) (by kernel_rfl) (by kernel_rfl) (fun _ _ _ h => h) (Or.inl ⟨by rfl, fun W => by go_simp⟩) ?_
      simp only [Act.put, List.setIfInBounds_toArray, List.set_cons_zero, List.set_cons_succ]
      refine wpAny_take (i := 8) (v := .slice qa L.length qc) rfl (by kernel_rfl) (by kernel_rfl) (by kernel_rfl) (fun _ _ _ h => h) (Or.inl ⟨by rfl, fun W => by go_simp⟩) ?_
      simp only [Act.put, List.setIfInBounds_toArray, List.set_cons_zero, List.set_cons_succ]
      refine An.wpAny_one (i := 7) (by kernel_rfl) rfl rfl (fun K hK => ?_)
      go_simp
      refine Calls.mono K5.out (fun e x2 hp => ?_)
      obtain ⟨v5, rfl, ho5, hb5⟩ := hp
      have KB5 := Kept.mk (KBx.out.trans (hb5.mono KBx.out.size))
      have K6 := Kept.mk (sameL_any v5 (.slice qa L.length qc) L x2 ho5.rdL (KO4.out.later hb5 (Nat.le_refl _)) (by have := KLl.out; omega))
      clear ho5 hb5 K5
      refine hK _ _ ?_
      clear hK K
      refine An.wpAny_one (i := 9) (by kernel_rfl) rfl rfl (fun K hK => ?_)
      go_simp
      refine Calls.mono K6.out (fun e x3 hp => ?_)
      obtain ⟨rfl, hb6⟩ := hp
      have KB6 := Kept.mk (KB5.out.trans (hb6.mono KB5.out.size))
      clear hb6 K6
      refine hK _ _ ?_
      clear hK K
      refine An.wpAny_one (i := 10) (by kernel_rfl) rfl rfl (fun K hK => ?_)
      go_simp
      refine hK _ _ ?_
      clear hK K
      refine An.wpAny_one (i := 11) (by kernel_rfl) rfl rfl (fun K hK => ?_)
      go_simp
      refine hK _ _ ?_
      clear hK K
      refine wpAny_take (i := 12) (v := .int .i64 E) rfl (by kernel_rfl) (by kernel_rfl) (by kernel_rfl) (fun _ _ _ h => h) (Or.inl ⟨by rfl, fun W => by go_simp⟩) ?_
      simp only [Act.put, List.setIfInBounds_toArray, List.set_cons_zero, List.set_cons_succ]
      refine wpAny_take (i := 13) (v := .int .i64 E) rfl (by kernel_rfl) (by kernel_rfl) (by kernel_rfl) (fun _ _ _ h => h) (Or.inl ⟨by rfl, fun W => by go_simp⟩) ?_
      simp only [Act.put, List.setIfInBounds_toArray, List.set_cons_zero, List.set_cons_succ]
      refine An.wpAny_one (i := 14) (by kernel_rfl) rfl rfl (fun K hK => ?_)
      go_simp
      refine hK _ _ ?_
      clear hK K
      refine An.wpAny_one (i := 15) (by kernel_rfl) rfl rfl (fun K hK => ?_)
      go_simp
      refine hK _ _ ?_
      clear hK K
      refine An.wpAny_one (i := 16) (by kernel_rfl) rfl rfl (fun K hK => ?_)
      go_simp
      refine hK _ _ ?_
      clear hK K
      refine wpAny_done (by kernel_rfl) (NoPanic.normal ?_) _
      go_wp2
      go_ret
      exact ⟨rfl, KB6.out⟩
end Go.Proofs.YtkdlhcegimnocaaGreatDoor
