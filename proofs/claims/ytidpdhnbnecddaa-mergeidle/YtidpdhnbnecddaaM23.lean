/-
  Walks: Twin, Same; the law MergeThrees.
-/
import Derived.Test.YtidpdhnbnecddaaM22
import Derived.Test.YtidpdhnbnecddaaVB8
namespace Go.Proofs.Ytidpdhnbnecddaa
open Go.RowKit

set_option maxHeartbeats 400000 in
set_option maxRecDepth 100000 in
theorem twin_any {S : Nat → Prop} (v : Value) (xs : List Int) (w : World) (h : Rd .u8 S w v xs) (hl : xs.length ≤ 140737488355328) :
    Calls Try.prog 12 #[v] w fun e w' => ∃ v', e = .returned v' ∧ Own .u8 5 w' w.heap.size v' xs ∧ Below w.heap.size w w' := by
  obtain ⟨i0, z0, hi, hz, hs, hb, hc⟩ := info8
  go_enter Try.func12, Try.ntmps12
  go_wp2_with (at_builtin; refine wpList_append_rd _ rfl _ _ 22 rfl .u8 S 1 w.heap.size 5 i0 z0 Try.underlying22 hi hz hs hb hc (by omega) (.slice none 0 0) [] rfl (Own.nil _ _ _ _) _ xs rfl h (by simp; omega) (Nat.le_refl _) ?_; intro v' w1 hown hgrow hat)
  go_ret
  exact ⟨_, rfl, hown, (Below.refl _ w).grown hgrow (Nat.le_refl _) (fun k e => by simp [Value.ownBlock] at e)⟩
set_option maxHeartbeats 400000 in
set_option maxRecDepth 100000 in
theorem same_any {S S' : Nat → Prop} (v u : Value) (xs ys : List Int) (w : World) (h : Rd .u8 S w v xs) (k : Rd .u8 S' w u ys) (hx : AllB xs) (hy : AllB ys) :
    Calls Try.prog 14 #[v, u] w fun e w' => e = .returned (.bool (decide (xs = ys))) ∧ w' = w := by
  have c1 := h.str (P := Try.prog) (src := 22) Try.underlying22 Try.underlying5 9 Try.underlying9
  have c2 := k.str (P := Try.prog) (src := 22) Try.underlying22 Try.underlying5 9 Try.underlying9
  have he := strs_eq hx hy
  go_enter Try.func14, Try.ntmps14
  go_wp2
  go_ret
  exact ⟨rfl, rfl⟩
theorem thM_all (l0 l1 : ByteArray) (x y z : List Int) : AllB (thM l0 l1 x y z).1 := by
  by_cases h : thE l0 l1 x y z = 0
  · rw [thM_good h]
    split
    · exact AllIn.nil
    · have hg : ∀ (f a i j k : Nat), AllB (dcG l0 l1 (lnS x) (lnS y) (lnS z) (plP (lnS x) (lnS y)) (plP (lnS x) (lnS z)) f a i j k).1 := by
        intro f
        induction f with
        | zero => intro a i j k; exact pcR_all _ _ _
        | succ f ih =>
          intro a i j k
          rw [dcG]
          split
          · exact ih _ _ _ _
          · exact ((pcR_all _ _ _).append (nms_all _)).append (ih _ _ _ _)
      exact hg _ _ _ _ _
  · rw [thM_bad rfl h]
    exact AllIn.nil
theorem labs_rd {w : World} {l0 l1 : ByteArray} {W : World} (hW : CC (w.alloc (.cells #[.string l0, .string l1] 23)) W) : W.rangeAt w.heap.size 0 [.string l0, .string l1] := by
  obtain ⟨b0, b1⟩ := box2 (w := w) (x := .string l0) (y := .string l1) (T := 23)
  intro j u hu
  match j, hu with
  | 0, hu => simp at hu; subst hu; rw [Below.cell hW (by simp)]; exact b0
  | 1, hu => simp at hu; subst hu; rw [Below.cell hW (by simp)]; exact b1
set_option maxHeartbeats 4000000 in
set_option maxRecDepth 100000 in
theorem threes_walk (v0 v1 v2 : Value) (x0 x1 x2 : List Int) (l0 l1 : ByteArray) (w : World) (h0 : Rd .u8 anyB w v0 x0) (h1 : Rd .u8 anyB w v1 x1) (h2 : Rd .u8 anyB w v2 x2) (a0 : AllB x0) (a1 : AllB x1) (a2 : AllB x2) (z0 : x0.length ≤ 140737488355328) (z1 : x1.length ≤ 140737488355328) (z2 : x2.length ≤ 140737488355328) :
    Calls Try.prog 3 #[v0, v1, v2, .agg #[.string l0, .string l1]] w fun e w' => e = .returned (.bool true) ∧ Below w.heap.size w w' := by
  have KBa := Kept.mk ((Below.refl w.heap.size w).alloc (Nat.le_refl _) (.cells #[.string l0, .string l1] 23))
  have K0 := Kept.mk h0
  have K1 := Kept.mk h1
  have K2 := Kept.mk h2
  have KA0 := Kept.mk a0
  have KA1 := Kept.mk a1
  have KA2 := Kept.mk a2
  have Kz : Kept (x0.length ≤ 140737488355328 ∧ x1.length ≤ 140737488355328 ∧ x2.length ≤ 140737488355328) := ⟨⟨z0, z1, z2⟩⟩
  obtain ⟨pa, ca, rfl, -⟩ := h0.form
  obtain ⟨pb, cb, rfl, -⟩ := h1.form
  obtain ⟨pd, cd, rfl, -⟩ := h2.form
  have KLb : Kept (∀ W, CC (w.alloc (.cells #[.string l0, .string l1] 23)) W → W.rangeAt w.heap.size 0 [.string l0, .string l1] ∧ Below w.heap.size w W) := ⟨fun W hW => ⟨labs_rd hW, KBa.out.trans (Below.mono hW KBa.out.size)⟩⟩
  clear h0 h1 h2 a0 a1 a2 z0 z1 z2
  go_enter Try.func3, Try.ntmps3
  go_upto_region 1 with fail
  obtain ⟨w1, hw1⟩ : ∃ w1, w.alloc (.cells #[.string l0, .string l1] 23) = w1 := ⟨_, rfl⟩
  rw [hw1] at KLb ⊢
  clear hw1 KBa
  have KAw := Kept.mk (awake21_any w1)
  go_wp2_with fail
  refine Calls.mono KAw.out (fun e w2 hp => ?_)
  obtain ⟨rfl, hb2⟩ := hp
  have C2 : Kept (CC w1 w2) := ⟨hb2⟩
  clear KAw hb2
  have KB2 := Kept.mk (KLb.out w2 C2.out).2
  have hbx := (Below.refl w2.heap.size w2).alloc (Nat.le_refl _) (.cells #[.slice pa x0.length ca, .slice pb x1.length cb, .slice pd x2.length cd] 22)
  have KS := Kept.mk (small_any w2.heap.size 3 [(.slice pa x0.length ca, x0), (.slice pb x1.length cb, x1), (.slice pd x2.length cd, x2)] (w2.alloc (.cells #[.slice pa x0.length ca, .slice pb x1.length cb, .slice pd x2.length cd] 22)) rfl (by omega) (by
    intro k r hr
    obtain ⟨q0, q1, q2⟩ := box3 (w := w2) (x := .slice pa x0.length ca) (y := .slice pb x1.length cb) (z := .slice pd x2.length cd) (T := 22) (Below.refl _ _)
    have hB := KB2.out.trans (hbx.mono KB2.out.size)
    match k, hr with
    | 0, hr => simp at hr; subst hr; exact ⟨q0, K0.out.later hB (Nat.le_refl _)⟩
    | 1, hr => simp at hr; subst hr; exact ⟨q1, K1.out.later hB (Nat.le_refl _)⟩
    | 2, hr => simp at hr; subst hr; exact ⟨q2, K2.out.later hB (Nat.le_refl _)⟩))
  have C3 : Kept (CC w1 (w2.alloc (.cells #[.slice pa x0.length ca, .slice pb x1.length cb, .slice pd x2.length cd] 22))) := ⟨C2.out.on hbx⟩
  clear hbx KB2 C2
  go_wp2_with fail
  refine Calls.mono KS.out (fun e w3 hp => ?_)
  obtain ⟨rfl, hw3⟩ := hp
  rw [← hw3] at C3
  clear hw3 KS
  generalize List.all _ _ = sm at *
  cases sm with
  | false =>
    go_wp2
    go_ret
    exact ⟨rfl, (KLb.out _ C3.out).2⟩
  | true =>
    go_upto_region 5 with fail
    have C3d : Kept (CC w1 w3.drew) := ⟨Below.drew C3.out⟩
    have KRg0 := (KLb.out w3.drew C3d.out).1
    have KT0 := Kept.mk (twin_any _ x0 w3.drew (K0.out.later (KLb.out _ C3d.out).2 (Nat.le_refl _)) Kz.out.1)
    refine wp_region_noPanic ?_
    refine wp_region_held_drew (S := fun W => W.rangeAt w.heap.size 0 [.string l0, .string l1]) (by kernel_rfl) KRg0 (fun hHeld => ?_)
    refine wpAnyH_takeD (i := 0) (d := some 24) (v := .slice pa x0.length ca) rfl rfl (by kernel_rfl) (by kernel_rfl) (by kernel_rfl) (fun _ _ _ h => h) (Or.inl ⟨by rfl, fun W hSw => by (try dsimp only at hSw); go_simp⟩) (by assumption) ?_
    simp only [Act.put, List.setIfInBounds_toArray, List.set_cons_zero, List.set_cons_succ]
    refine wpAnyH_takeD (i := 2) (d := some 26) (v := .slice pb x1.length cb) rfl rfl (by kernel_rfl) (by kernel_rfl) (by kernel_rfl) (fun _ _ _ h => h) (Or.inl ⟨by rfl, fun W hSw => by (try dsimp only at hSw); go_simp⟩) (by assumption) ?_
    simp only [Act.put, List.setIfInBounds_toArray, List.set_cons_zero, List.set_cons_succ]
    refine wpAnyH_takeD (i := 4) (d := some 28) (v := .slice pd x2.length cd) rfl rfl (by kernel_rfl) (by kernel_rfl) (by kernel_rfl) (fun _ _ _ h => h) (Or.inl ⟨by rfl, fun W hSw => by (try dsimp only at hSw); go_simp⟩) (by assumption) ?_
    simp only [Act.put, List.setIfInBounds_toArray, List.set_cons_zero, List.set_cons_succ]
    refine wpAnyH_takeD (i := 6) (d := some 30) (v := .agg #[.string l0, .string l1]) rfl rfl (by kernel_rfl) (by kernel_rfl) (by kernel_rfl) (fun _ _ _ h => h) (yieldsIf_load_mid (by rfl) _ _ rfl _ _ rfl [.string l0, .string l1] _ (fun W hSw => hSw) Try.underlying23 rfl info_lb2) (by assumption) ?_
    simp only [Act.put, List.setIfInBounds_toArray, List.set_cons_zero, List.set_cons_succ]
    refine wpAnyH_ready (rs := [1]) (by kernel_rfl) (by simp) ?_
    refine AllReadyH.cons (o := _) rfl (fun K hK => ?_) AllReadyH.nil
    go_simp
    refine Calls.mono KT0.out (fun e w4 hp => ?_)
    obtain ⟨t0, rfl, ho0, hb0⟩ := hp
    have Cw4 : Kept (CC w1 w4) := ⟨C3d.out.on hb0⟩
    have KO0 := Kept.mk ho0
    have KT1 := Kept.mk (twin_any _ x1 w4 (K1.out.later (KLb.out _ Cw4.out).2 (Nat.le_refl _)) Kz.out.2.1)
    refine hK.out _ _ (KLb.out _ Cw4.out).1 (fun hHeld1 => ?_)
    clear hK K hHeld ho0 hb0 KT0
    refine wpAnyH_ready (rs := [3]) (by kernel_rfl) (by simp) ?_
    refine AllReadyH.cons (o := _) rfl (fun K hK => ?_) AllReadyH.nil
    go_simp
    refine Calls.mono KT1.out (fun e w5 hp => ?_)
    obtain ⟨t1, rfl, ho1, hb1⟩ := hp
    have Cw5 : Kept (CC w1 w5) := ⟨Cw4.out.on hb1⟩
    have KO0 := Kept.mk (KO0.out.later hb1 (Nat.le_refl _))
    have KO1 := Kept.mk ho1
    have KT2 := Kept.mk (twin_any _ x2 w5 (K2.out.later (KLb.out _ Cw5.out).2 (Nat.le_refl _)) Kz.out.2.2)
    refine hK.out _ _ (KLb.out _ Cw5.out).1 (fun hHeld2 => ?_)
    clear hK K hHeld1 ho1 hb1 KT1
    refine wpAnyH_ready (rs := [5]) (by kernel_rfl) (by simp) ?_
    refine AllReadyH.cons (o := _) rfl (fun K hK => ?_) AllReadyH.nil
    go_simp
    refine Calls.mono KT2.out (fun e w6 hp => ?_)
    obtain ⟨t2, rfl, ho2, hb2⟩ := hp
    have Cw6 : Kept (CC w1 w6) := ⟨Cw5.out.on hb2⟩
    have KO0 := Kept.mk (KO0.out.later hb2 (Nat.le_refl _))
    have KO1 := Kept.mk (KO1.out.later hb2 (Nat.le_refl _))
    have K3 := Kept.mk (three_of t0 t1 t2 x0 x1 x2 l0 l1 w6 KO0.out.rd.any KO1.out.rd.any ho2.rd.any KA0.out KA1.out KA2.out)
    refine hK.out _ _ (KLb.out _ Cw6.out).1 (fun hHeld3 => ?_)
    clear hK K hHeld2 ho2 hb2 KT2
    refine wpAnyH_ready (rs := [7]) (by kernel_rfl) (by simp) ?_
    refine AllReadyH.cons (o := _) rfl (fun K hK => ?_) AllReadyH.nil
    go_simp
    refine Calls.mono K3.out (fun e w7 hp => ?_)
    obtain ⟨x, rfl, ho7, hb7⟩ := hp
    have C7 : Kept (CC w1 w7) := ⟨Cw6.out.on hb7⟩
    have KO7 := Kept.mk ho7
    have K4 := Kept.mk (docThreeE_any _ _ _ x0 x1 x2 l0 l1 w7 (K0.out.later (KLb.out _ C7.out).2 (Nat.le_refl _)) (K1.out.later (KLb.out _ C7.out).2 (Nat.le_refl _)) (K2.out.later (KLb.out _ C7.out).2 (Nat.le_refl _)))
    have Kall := Kept.mk (thM_all l0 l1 x0 x1 x2)
    generalize thM l0 l1 x0 x1 x2 = R at *
    refine hK.out _ _ (KLb.out _ C7.out).1 (fun hHeld4 => ?_)
    clear hK K hHeld3 ho7 hb7 K3 KO0 KO1
    refine wpAnyH_takeD (i := 8) (d := some 23) (v := .tuple #[x, .int .i64 R.2.1, .int .i64 R.2.2]) rfl rfl (by kernel_rfl) (by kernel_rfl) (by kernel_rfl) (fun _ _ _ h => h) (Or.inl ⟨by rfl, fun W hSw => by (try dsimp only at hSw); go_simp⟩) (by assumption) ?_
    simp only [Act.put, List.setIfInBounds_toArray, List.set_cons_zero, List.set_cons_succ]
    refine wpAnyH_takeD (i := 9) (d := some 32) (v := x) rfl rfl (by kernel_rfl) (by kernel_rfl) (by kernel_rfl) (fun _ _ _ h => h) (Or.inl ⟨by rfl, fun W hSw => by (try dsimp only at hSw); go_simp⟩) (by assumption) ?_
    simp only [Act.put, List.setIfInBounds_toArray, List.set_cons_zero, List.set_cons_succ]
    refine wpAnyH_takeD (i := 10) (d := some 33) (v := .int .i64 R.2.1) rfl rfl (by kernel_rfl) (by kernel_rfl) (by kernel_rfl) (fun _ _ _ h => h) (Or.inl ⟨by rfl, fun W hSw => by (try dsimp only at hSw); go_simp⟩) (by assumption) ?_
    simp only [Act.put, List.setIfInBounds_toArray, List.set_cons_zero, List.set_cons_succ]
    refine wpAnyH_takeD (i := 11) (d := some 34) (v := .int .i64 R.2.2) rfl rfl (by kernel_rfl) (by kernel_rfl) (by kernel_rfl) (fun _ _ _ h => h) (Or.inl ⟨by rfl, fun W hSw => by (try dsimp only at hSw); go_simp⟩) (by assumption) ?_
    simp only [Act.put, List.setIfInBounds_toArray, List.set_cons_zero, List.set_cons_succ]
    refine wpAnyH_takeD (i := 12) (d := some 9) (v := x) rfl rfl (by kernel_rfl) (by kernel_rfl) (by kernel_rfl) (fun _ _ _ h => h) (Or.inl ⟨by rfl, fun W hSw => by (try dsimp only at hSw); go_simp⟩) (by assumption) ?_
    simp only [Act.put, List.setIfInBounds_toArray, List.set_cons_zero, List.set_cons_succ]
    refine wpAnyH_takeD (i := 13) (d := some 10) (v := .int .i64 R.2.1) rfl rfl (by kernel_rfl) (by kernel_rfl) (by kernel_rfl) (fun _ _ _ h => h) (Or.inl ⟨by rfl, fun W hSw => by (try dsimp only at hSw); go_simp⟩) (by assumption) ?_
    simp only [Act.put, List.setIfInBounds_toArray, List.set_cons_zero, List.set_cons_succ]
    refine wpAnyH_takeD (i := 14) (d := some 11) (v := .int .i64 R.2.2) rfl rfl (by kernel_rfl) (by kernel_rfl) (by kernel_rfl) (fun _ _ _ h => h) (Or.inl ⟨by rfl, fun W hSw => by (try dsimp only at hSw); go_simp⟩) (by assumption) ?_
    simp only [Act.put, List.setIfInBounds_toArray, List.set_cons_zero, List.set_cons_succ]
    refine wpAnyH_done (by kernel_rfl) ?_ _
    refine NoPanic.normal ?_
    clear hHeld4
    have KRg7 := Kept.mk (KLb.out w7 C7.out).1
    go_wp2_with (refine wpList_load_mid rfl 23 _ rfl w.heap.size 0 rfl [.string l0, .string l1] _ KRg7.out Try.underlying23 rfl info_lb2 ?_)
    refine Calls.mono K4.out (fun e w8 hp => ?_)
    obtain ⟨y, rfl, hrd8, hall8, hb8⟩ := hp
    have C8 : Kept (CC w1 w8) := ⟨C7.out.on hb8⟩
    have K5 := Kept.mk (same_any x y R.1 R.1 w8 (KO7.out.later hb8 (Nat.le_refl _)).rd hrd8 Kall.out Kall.out)
    rw [decide_eq_true rfl] at K5
    clear hrd8 hall8 hb8 K4 KO7
    go_wp2_with fail
    refine Calls.mono K5.out (fun e w9 hp => ?_)
    obtain ⟨rfl, hw9⟩ := hp
    subst w9
    clear K5
    have Kend := Kept.mk (KLb.out w8 C8.out).2
    obtain ⟨T, n, E⟩ := R
    simp only
    go_wp2
    go_ret
    exact ⟨by simp, Kend.out⟩
end Go.Proofs.Ytidpdhnbnecddaa
