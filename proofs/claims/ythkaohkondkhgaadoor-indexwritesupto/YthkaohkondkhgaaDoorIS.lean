/-
  The document's slot.
-/
import Derived.Test.YthkaohkondkhgaaDoorIS1
namespace Go.Proofs.YthkaohkondkhgaaDoor
open Go.RowKit

set_option maxHeartbeats 4000000 in
set_option maxRecDepth 100000 in
theorem slot_doc {S : Nat → Prop} (v : Value) (xs : List Int) (t : Nat) (w : World) (h : Rd .u8 S w v xs) (hA : AllIn 0 256 xs) (ht : t ≤ xs.length) (hl : xs.length ≤ 3000000) :
    Calls Tryd.prog 32 #[v, .int .i64 t] w fun e w' => (e = .returned (.tuple #[.agg (if 75 ≤ xs.length - t then (dsF (xs.drop t)).l.toArray else zS.l.toArray), .int .i64 ((if 75 ≤ xs.length - t then t + slz (zn (xs.drop t)) else 0 : Nat) : Int), .bool (decide (75 ≤ xs.length - t))])) ∧ Below w.heap.size w w' := by
  have hw1 : IntKind.i64.wrap ((xs.length : Int) - (t : Int)) = (xs.length : Int) - (t : Int) := wr64 (by omega) (by omega)
  obtain ⟨w0, hw0, hB0, hz0, hb0⟩ := box_zero w
  have KB0 := Kept.mk hB0
  have Kb0 := Kept.mk hb0
  have Kz0 := Kept.mk hz0
  clear hB0 hb0 hz0
  by_cases h7 : 75 ≤ xs.length - t
  · have h7i : ¬ ((xs.length : Int) - (t : Int)) < 75 := by omega
    rw [if_pos h7, if_pos h7, decide_eq_true h7]
    obtain ⟨b, off, c, hv, hlt, hlc, hcm, -, hc⟩ := h.open (by omega)
    subst hv
    obtain ⟨wd, hwd⟩ : ∃ wd, w0.drew = wd := ⟨_, rfl⟩
    have KBd : Kept (Below w0.heap.size w0 wd) := ⟨hwd ▸ Below.drew (Below.refl _ _)⟩
    have Kzd : Kept (wd.heap.size = w0.heap.size) := ⟨hwd ▸ rfl⟩
    obtain ⟨w1, hw1', hB1, hz1, hb1⟩ := box_zero wd
    rw [Kzd.out] at hB1 hz1 hb1
    have KB1 : Kept (Below w0.heap.size w0 w1) := ⟨KBd.out.trans hB1⟩
    have Kb1 := Kept.mk hb1
    have Kz1 := Kept.mk hz1
    have h1 := (h.later KB0.out (Nat.le_refl _))
    have KBg : Kept (∀ (i : Nat) (W : World), Below w0.heap.size w0 W → t + i + 4 ≤ xs.length → Calls Tryd.prog 56 #[.slice (some ⟨b, off, none⟩) xs.length c, .int .i64 ((t : Int) + i), .int .i64 4] W fun e w' => e = .returned (.int .u64 (Nu.bigT (xs.drop t) i 4)) ∧ w' = W) := ⟨fun i W hW hi => by
      rw [bigT_drop, show ((t : Int) + (i : Int)) = ((t + i : Nat) : Int) by omega]
      exact rbig_any _ xs (t + i) 4 W (h1.later hW (Nat.le_refl _)) hA (by omega) (by omega) (by omega)⟩
    have KN8 : Kept (∀ W, Below w0.heap.size w0 W → Calls Tryd.prog 56 #[.slice (some ⟨b, off, none⟩) xs.length c, .int .i64 ((t : Int) + 8), .int .i64 4] W fun e w' => e = .returned (.int .u64 (Nu.bigT (xs.drop t) 8 4)) ∧ w' = W) := ⟨fun W hW => KBg.out 8 W hW (by omega)⟩
    have KN24 : Kept (∀ W, Below w0.heap.size w0 W → Calls Tryd.prog 56 #[.slice (some ⟨b, off, none⟩) xs.length c, .int .i64 ((t : Int) + 24), .int .i64 4] W fun e w' => e = .returned (.int .u64 (Nu.bigT (xs.drop t) 24 4)) ∧ w' = W) := ⟨fun W hW => KBg.out 24 W hW (by omega)⟩
    have KN36 : Kept (∀ W, Below w0.heap.size w0 W → Calls Tryd.prog 56 #[.slice (some ⟨b, off, none⟩) xs.length c, .int .i64 ((t : Int) + 36), .int .i64 4] W fun e w' => e = .returned (.int .u64 (Nu.bigT (xs.drop t) 36 4)) ∧ w' = W) := ⟨fun W hW => KBg.out 36 W hW (by omega)⟩
    have hAd : AllIn 0 256 (xs.drop t) := hA.drop t
    have hbd : ∀ i, IntKind.i64.wrap (Nu.bigT (xs.drop t) i 4) = Nu.bigT (xs.drop t) i 4 := fun i => by
      have := bigT_bound hAd i 4
      exact wr64 (by omega) (by omega)
    have hT8 := hbd 8
    have hT24 := hbd 24
    have hT36 := hbd 36
    have hGb : 0 ≤ xs.getD (t + 72) 0 ∧ xs.getD (t + 72) 0 < 256 := by
      rw [List.getD_eq_getElem?_getD, List.getElem?_eq_getElem (by omega)]
      exact hA _ (List.getElem_mem _)
    have Kcells : Kept (∀ W, Below w0.heap.size w0 W → ∀ i, i < xs.length → W.cell? ⟨b, off + i, none⟩ = some (.int .u8 (xs.getD i 0))) := ⟨fun W hW i hi => by
      rw [hW.cell (p := ⟨b, off + i, none⟩) (by have := KB0.out.size; simp only; omega), KB0.out.cell (p := ⟨b, off + i, none⟩) (by simp only; exact hlt)]
      exact hc i hi⟩
    have cc : ∀ W, Below w0.heap.size w0 W → W.cell? ⟨b, off + (t + 72), none⟩ = some (.int .u8 (xs.getD (t + 72) 0)) := fun W hW => Kcells.out W hW (t + 72) (by omega)
    have e8 : IntKind.i64.wrap ((t : Int) + 8) = (t : Int) + 8 := wr64 (by omega) (by omega)
    have e24 : IntKind.i64.wrap ((t : Int) + 24) = (t : Int) + 24 := wr64 (by omega) (by omega)
    have e36 : IntKind.i64.wrap ((t : Int) + 36) = (t : Int) + 36 := wr64 (by omega) (by omega)
    have e72 : IntKind.i64.wrap ((t : Int) + 72) = (t : Int) + 72 := wr64 (by omega) (by omega)
    have n72 : ((t : Int) + 72).toNat = t + 72 := by omega
    have b72 : (t : Int) + 72 < (xs.length : Int) := by omega
    have c72 : 0 ≤ (t : Int) + 72 := by omega
    obtain ⟨G, hG⟩ : ∃ G, xs.getD (t + 72) 0 = G := ⟨_, rfl⟩
    rw [hG] at hGb cc
    have KG : Kept ((xs.drop t).getD 72 0 = G) := ⟨by rw [getD_drop]; exact hG⟩
    obtain ⟨q, hq⟩ : ∃ q, G / 16 = q := ⟨_, rfl⟩
    obtain ⟨r, hr⟩ : ∃ r, q % 4 = r := ⟨_, rfl⟩
    have hq1 : G.tdiv 16 = q := by rw [Int.tdiv_eq_ediv_of_nonneg (by omega)]; exact hq
    have hq2 : IntKind.u8.wrap q = q := wru8 (by omega) (by omega)
    have hr1 : q.tmod 4 = r := by rw [Int.tmod_eq_emod_of_nonneg (by omega)]; exact hr
    have hr2 : IntKind.u8.wrap r = r := wru8 (by omega) (by omega)
    have hr3 : IntKind.i64.wrap r = r := wr64 (by omega) (by omega)
    have KSt : Kept ((xs.drop t).getD 72 0 / 16 % 4 = r) := ⟨by rw [KG.out, hq, hr]⟩
    have KE1 : Kept (e1F (xs.drop t) = ⟨⟨#[]⟩, r, Nu.bigT (xs.drop t) 24 4, List.replicate 32 0, Nu.bigT (xs.drop t) 36 4, Nu.bigT (xs.drop t) 8 4⟩) := ⟨by unfold e1F; rw [KSt.out]⟩
    have Kdiv : Kept (G / 16 = q ∧ q % 4 = r) := ⟨hq, hr⟩
    generalize h8T : Nu.bigT (xs.drop t) 8 4 = T8 at *
    generalize h24T : Nu.bigT (xs.drop t) 24 4 = T24 at *
    generalize h36T : Nu.bigT (xs.drop t) 36 4 = T36 at *
    have KTs0 : Kept (Nu.bigT (xs.drop t) 8 4 = T8 ∧ Nu.bigT (xs.drop t) 24 4 = T24 ∧ Nu.bigT (xs.drop t) 36 4 = T36) := ⟨h8T, h24T, h36T⟩
    clear h8T h24T h36T
    have KBu : Kept (∀ W, (Instr.build 41 #[(5, .int .i64 T8), (2, .int .i64 T24), (4, .int .i64 T36), (1, .int .i64 r)]).run Tryd.prog W = .ok (.agg (e1F (xs.drop t)).l.toArray) W) := ⟨fun W => run_build (P := Tryd.prog) W 41 _ _ (by
      have h1 := builtQ (.int .i64 T8) (.int .i64 T24) (.int .i64 T36) (.int .i64 r)
      rw [fillQ] at h1
      rw [KE1.out]
      exact h1)⟩
    have KFl : Kept ((e1F (xs.drop t)).l.toArray.size = 37) := ⟨by rw [KE1.out]; rfl⟩
    have KFi : Kept ((Tryd.prog.info? 41).map (·.size) = some (e1F (xs.drop t)).l.toArray.size) := ⟨by rw [KFl.out]; exact infoZ37⟩
    have KFo : Kept ((e1F (xs.drop t)).l.toArray.all (·.oneCell') = true) := ⟨by rw [Array.all_eq_true_iff_forall_mem]; intro x hx; exact SlC.ones _ x (by simpa using hx)⟩
    generalize hFL : (e1F (xs.drop t)).l.toArray = FL at *
    have KFL := Kept.mk hFL
    have KFLit : Kept ((#[.string ⟨#[]⟩, .int .i64 r, .int .i64 T24, .int .u8 0, .int .u8 0, .int .u8 0, .int .u8 0, .int .u8 0, .int .u8 0, .int .u8 0, .int .u8 0, .int .u8 0, .int .u8 0, .int .u8 0, .int .u8 0, .int .u8 0, .int .u8 0, .int .u8 0, .int .u8 0, .int .u8 0, .int .u8 0, .int .u8 0, .int .u8 0, .int .u8 0, .int .u8 0, .int .u8 0, .int .u8 0, .int .u8 0, .int .u8 0, .int .u8 0, .int .u8 0, .int .u8 0, .int .u8 0, .int .u8 0, .int .u8 0, .int .i64 T36, .int .i64 T8] : Array Value) = FL) := ⟨by rw [← KFL.out, KE1.out]; rfl⟩
    have KS0 : Kept (wd.cell? ⟨b, off + (t + 72), none⟩ = some (.int .u8 G) ∧ Below w0.heap.size w0 wd) := ⟨cc wd KBd.out, KBd.out⟩
    have KS1 : Kept (w1.cell? ⟨b, off + (t + 72), none⟩ = some (.int .u8 G) ∧ Below w0.heap.size w0 w1) := ⟨cc w1 KB1.out, KB1.out⟩
    have KB2 : Kept (Below w0.heap.size w0 (w1.setRow w0.heap.size FL)) := ⟨below_setRow KB1.out (Nat.le_refl _) FL⟩
    have KS2 : Kept ((w1.setRow w0.heap.size FL).cell? ⟨b, off + (t + 72), none⟩ = some (.int .u8 G) ∧ Below w0.heap.size w0 (w1.setRow w0.heap.size FL)) := ⟨cc _ KB2.out, KB2.out⟩
    have Kr2 : Kept ((w1.setRow w0.heap.size FL).heap[w0.heap.size]? = some (.cells FL 41 (0, 0))) := ⟨setRow_heap w1 w0.heap.size _ _ _ _ Kb1.out⟩
    have Krd0 := Kept.mk h1
    clear hFL h h1 hA hAd hbd KBg hb1 hz1 hB1 hG hq hr cc hc
    go_enter Tryd.func32, Tryd.ntmps32
    go_upto_region 3 with fail
    try rw [hw0]
    refine cut_region (fun W' => W' = w1.setRow w0.heap.size FL) 7 (.pointer (some ⟨w0.heap.size, 0, none⟩)) 16 24 (by simp) (fun z => [z 16, z 17, z 18, z 19, z 20, z 21, z 22, z 23, z 24, z 25, z 26, z 27, z 28, z 29, z 30, z 31, z 32, z 33, z 34, z 35, z 36, z 37, z 38, z 39]) (fun _ => rfl) ?_ ?_
    · refine wp_region_noPanic ?_
      refine wp_region_held_drew (S := fun W => W.cell? ⟨b, off + (t + 72), none⟩ = some (.int .u8 G) ∧ Below w0.heap.size w0 W) (by kernel_rfl) (by rw [hwd]; exact KS0.out) (fun hHeld => ?_)
      rw [hwd] at hHeld ⊢
      have hzd := Kzd.out
      refine wpAnyH_takeD (i := 0) (d := some 16) (v := .slice (some ⟨b, off, none⟩) xs.length c) rfl rfl (by kernel_rfl) (by kernel_rfl) (by kernel_rfl) (fun _ _ _ h => h) (Or.inl ⟨by rfl, fun W hSw => by obtain ⟨hSc, -⟩ := hSw; go_simp⟩) (by assumption) ?_
      simp only [Act.put, List.setIfInBounds_toArray, List.set_cons_zero, List.set_cons_succ]
      refine wpAnyH_takeD (i := 1) (d := some 17) (v := .int .i64 t) rfl rfl (by kernel_rfl) (by kernel_rfl) (by kernel_rfl) (fun _ _ _ h => h) (Or.inl ⟨by rfl, fun W hSw => by obtain ⟨hSc, -⟩ := hSw; go_simp⟩) (by assumption) ?_
      simp only [Act.put, List.setIfInBounds_toArray, List.set_cons_zero, List.set_cons_succ]
      refine wpAnyH_takeD (i := 2) (d := some 18) (v := .int .i64 ((t : Int) + 8)) rfl rfl (by kernel_rfl) (by kernel_rfl) (by kernel_rfl) (fun _ _ _ h => h) (Or.inl ⟨by rfl, fun W hSw => by obtain ⟨hSc, -⟩ := hSw; go_simp⟩) (by assumption) ?_
      simp only [Act.put, List.setIfInBounds_toArray, List.set_cons_zero, List.set_cons_succ]
      refine wpAnyH_takeD (i := 5) (d := some 21) (v := .slice (some ⟨b, off, none⟩) xs.length c) rfl rfl (by kernel_rfl) (by kernel_rfl) (by kernel_rfl) (fun _ _ _ h => h) (Or.inl ⟨by rfl, fun W hSw => by obtain ⟨hSc, -⟩ := hSw; go_simp⟩) (by assumption) ?_
      simp only [Act.put, List.setIfInBounds_toArray, List.set_cons_zero, List.set_cons_succ]
      refine wpAnyH_takeD (i := 6) (d := some 22) (v := .int .i64 t) rfl rfl (by kernel_rfl) (by kernel_rfl) (by kernel_rfl) (fun _ _ _ h => h) (Or.inl ⟨by rfl, fun W hSw => by obtain ⟨hSc, -⟩ := hSw; go_simp⟩) (by assumption) ?_
      simp only [Act.put, List.setIfInBounds_toArray, List.set_cons_zero, List.set_cons_succ]
      refine wpAnyH_takeD (i := 7) (d := some 23) (v := .int .i64 ((t : Int) + 24)) rfl rfl (by kernel_rfl) (by kernel_rfl) (by kernel_rfl) (fun _ _ _ h => h) (Or.inl ⟨by rfl, fun W hSw => by obtain ⟨hSc, -⟩ := hSw; go_simp⟩) (by assumption) ?_
      simp only [Act.put, List.setIfInBounds_toArray, List.set_cons_zero, List.set_cons_succ]
      refine wpAnyH_takeD (i := 10) (d := some 26) (v := .slice (some ⟨b, off, none⟩) xs.length c) rfl rfl (by kernel_rfl) (by kernel_rfl) (by kernel_rfl) (fun _ _ _ h => h) (Or.inl ⟨by rfl, fun W hSw => by obtain ⟨hSc, -⟩ := hSw; go_simp⟩) (by assumption) ?_
      simp only [Act.put, List.setIfInBounds_toArray, List.set_cons_zero, List.set_cons_succ]
      refine wpAnyH_takeD (i := 11) (d := some 27) (v := .int .i64 t) rfl rfl (by kernel_rfl) (by kernel_rfl) (by kernel_rfl) (fun _ _ _ h => h) (Or.inl ⟨by rfl, fun W hSw => by obtain ⟨hSc, -⟩ := hSw; go_simp⟩) (by assumption) ?_
      simp only [Act.put, List.setIfInBounds_toArray, List.set_cons_zero, List.set_cons_succ]
      refine wpAnyH_takeD (i := 12) (d := some 28) (v := .int .i64 ((t : Int) + 36)) rfl rfl (by kernel_rfl) (by kernel_rfl) (by kernel_rfl) (fun _ _ _ h => h) (Or.inl ⟨by rfl, fun W hSw => by obtain ⟨hSc, -⟩ := hSw; go_simp⟩) (by assumption) ?_
      simp only [Act.put, List.setIfInBounds_toArray, List.set_cons_zero, List.set_cons_succ]
      refine wpAnyH_takeD (i := 15) (d := some 31) (v := .slice (some ⟨b, off, none⟩) xs.length c) rfl rfl (by kernel_rfl) (by kernel_rfl) (by kernel_rfl) (fun _ _ _ h => h) (Or.inl ⟨by rfl, fun W hSw => by obtain ⟨hSc, -⟩ := hSw; go_simp⟩) (by assumption) ?_
      simp only [Act.put, List.setIfInBounds_toArray, List.set_cons_zero, List.set_cons_succ]
      refine wpAnyH_takeD (i := 16) (d := some 32) (v := .int .i64 t) rfl rfl (by kernel_rfl) (by kernel_rfl) (by kernel_rfl) (fun _ _ _ h => h) (Or.inl ⟨by rfl, fun W hSw => by obtain ⟨hSc, -⟩ := hSw; go_simp⟩) (by assumption) ?_
      simp only [Act.put, List.setIfInBounds_toArray, List.set_cons_zero, List.set_cons_succ]
      refine wpAnyH_takeD (i := 17) (d := some 33) (v := .int .i64 ((t : Int) + 72)) rfl rfl (by kernel_rfl) (by kernel_rfl) (by kernel_rfl) (fun _ _ _ h => h) (Or.inl ⟨by rfl, fun W hSw => by obtain ⟨hSc, -⟩ := hSw; go_simp⟩) (by assumption) ?_
      simp only [Act.put, List.setIfInBounds_toArray, List.set_cons_zero, List.set_cons_succ]
      refine wpAnyH_takeD (i := 18) (d := some 34) (v := .pointer (some ⟨b, off + (t + 72), none⟩)) rfl rfl (by kernel_rfl) (by kernel_rfl) (by kernel_rfl) (fun _ _ _ h => h) (Or.inl ⟨by rfl, fun W hSw => by obtain ⟨hSc, -⟩ := hSw; go_simp⟩) (by assumption) ?_
      simp only [Act.put, List.setIfInBounds_toArray, List.set_cons_zero, List.set_cons_succ]
      refine wpAnyH_takeD (i := 19) (d := some 35) (v := .int .u8 G) rfl rfl (by kernel_rfl) (by kernel_rfl) (by kernel_rfl) (fun _ _ _ h => h) (Or.inl ⟨by rfl, fun W hSw => by obtain ⟨hSc, -⟩ := hSw; go_simp⟩) (by assumption) ?_
      simp only [Act.put, List.setIfInBounds_toArray, List.set_cons_zero, List.set_cons_succ]
      refine wpAnyH_takeD (i := 20) (d := some 36) (v := .int .u8 q) rfl rfl (by kernel_rfl) (by kernel_rfl) (by kernel_rfl) (fun _ _ _ h => h) (Or.inl ⟨by rfl, fun W hSw => by obtain ⟨hSc, -⟩ := hSw; go_simp⟩) (by assumption) ?_
      simp only [Act.put, List.setIfInBounds_toArray, List.set_cons_zero, List.set_cons_succ]
      refine wpAnyH_takeD (i := 21) (d := some 37) (v := .int .u8 r) rfl rfl (by kernel_rfl) (by kernel_rfl) (by kernel_rfl) (fun _ _ _ h => h) (Or.inl ⟨by rfl, fun W hSw => by obtain ⟨hSc, -⟩ := hSw; go_simp⟩) (by assumption) ?_
      simp only [Act.put, List.setIfInBounds_toArray, List.set_cons_zero, List.set_cons_succ]
      refine wpAnyH_takeD (i := 22) (d := some 38) (v := .int .i64 r) rfl rfl (by kernel_rfl) (by kernel_rfl) (by kernel_rfl) (fun _ _ _ h => h) (Or.inl ⟨by rfl, fun W hSw => by obtain ⟨hSc, -⟩ := hSw; go_simp⟩) (by assumption) ?_
      simp only [Act.put, List.setIfInBounds_toArray, List.set_cons_zero, List.set_cons_succ]
      refine wpAnyH_ready (rs := [3, 24]) (by kernel_rfl) (by simp) ?_
      refine AllReadyH.cons (o := _) rfl (fun K hK => ?_) (AllReadyH.cons (o := _) rfl (fun K hK => ?_) AllReadyH.nil)
      · go_simp
        refine Calls.mono (KN8.out wd KS0.out.2) (fun e w9 hp => ?_)
        obtain ⟨rfl, hw9⟩ := hp
        rw [hw9]
        clear hw9
        refine hK.out _ _ KS0.out (fun hHeld2 => ?_)
        clear hK K
        refine wpAnyH_takeD (i := 4) (d := some 20) (v := .int .i64 T8) rfl rfl (by kernel_rfl) (by kernel_rfl) (by kernel_rfl) (fun _ _ _ h => h) (Or.inl ⟨by rfl, fun W hSw => by obtain ⟨hSc, -⟩ := hSw; go_simp⟩) (by assumption) ?_
        simp only [Act.put, List.setIfInBounds_toArray, List.set_cons_zero, List.set_cons_succ]
        refine wpAnyH_ready (rs := [8, 24]) (by kernel_rfl) (by simp) ?_
        refine AllReadyH.cons (o := _) rfl (fun K hK => ?_) (AllReadyH.cons (o := _) rfl (fun K hK => ?_) AllReadyH.nil)
        · go_simp
          refine Calls.mono (KN24.out wd KS0.out.2) (fun e w9 hp => ?_)
          obtain ⟨rfl, hw9⟩ := hp
          rw [hw9]
          clear hw9
          refine hK.out _ _ KS0.out (fun hHeld3 => ?_)
          clear hK K
          refine wpAnyH_takeD (i := 9) (d := some 25) (v := .int .i64 T24) rfl rfl (by kernel_rfl) (by kernel_rfl) (by kernel_rfl) (fun _ _ _ h => h) (Or.inl ⟨by rfl, fun W hSw => by obtain ⟨hSc, -⟩ := hSw; go_simp⟩) (by assumption) ?_
          simp only [Act.put, List.setIfInBounds_toArray, List.set_cons_zero, List.set_cons_succ]
          refine wpAnyH_ready (rs := [13, 24]) (by kernel_rfl) (by simp) ?_
          refine AllReadyH.cons (o := _) rfl (fun K hK => ?_) (AllReadyH.cons (o := _) rfl (fun K hK => ?_) AllReadyH.nil)
          · go_simp
            refine Calls.mono (KN36.out wd KS0.out.2) (fun e w9 hp => ?_)
            obtain ⟨rfl, hw9⟩ := hp
            rw [hw9]
            clear hw9
            refine hK.out _ _ KS0.out (fun hHeld4 => ?_)
            clear hK K
            refine wpAnyH_takeD (i := 14) (d := some 30) (v := .int .i64 T36) rfl rfl (by kernel_rfl) (by kernel_rfl) (by kernel_rfl) (fun _ _ _ h => h) (Or.inl ⟨by rfl, fun W hSw => by obtain ⟨hSc, -⟩ := hSw; go_simp⟩) (by assumption) ?_
            simp only [Act.put, List.setIfInBounds_toArray, List.set_cons_zero, List.set_cons_succ]
            refine wpAnyH_takeD (i := 23) (d := some 39) (v := .agg FL) rfl rfl (by kernel_rfl) (by kernel_rfl) (by kernel_rfl) (fun _ _ _ h => h) (Or.inl ⟨by rfl, fun W hSw => by clear hSw; go_simp; exact KFLit.out⟩) (by assumption) ?_
            simp only [Act.put, List.setIfInBounds_toArray, List.set_cons_zero, List.set_cons_succ]
            refine wpAnyH_ready (rs := [24]) (by kernel_rfl) (by simp) ?_
            refine AllReadyH.cons (o := _) rfl (fun K hK => ?_) AllReadyH.nil
            go_simp
            refine hK.out _ _ KS1.out (fun hHeld1 => ?_)
            clear hK K
            refine wpAnyH_ready (rs := [25]) (by kernel_rfl) (by simp) ?_
            refine AllReadyH.cons (o := _) rfl (fun K hK => ?_) AllReadyH.nil
            rw [if_pos (by rfl)]
            refine wp_store_row 41 _ _ rfl w0.heap.size FL rfl rfl 41 _ Kb1.out KFi.out (by rw [KFl.out]; rfl) KFo.out ?_
            refine hK.out _ _ KS2.out (fun hHeld9 => ?_)
            refine wpAnyH_done (by kernel_rfl) ?_ _
            exact ⟨rfl, rfl, rfl, rfl, rfl, rfl⟩
          · go_simp
            refine hK.out _ _ KS1.out (fun hHeld1 => ?_)
            clear hK K
            refine wpAnyH_ready (rs := [13]) (by kernel_rfl) (by simp) ?_
            refine AllReadyH.cons (o := _) rfl (fun K hK => ?_) AllReadyH.nil
            go_simp
            refine Calls.mono (KN36.out w1 KS1.out.2) (fun e w9 hp => ?_)
            obtain ⟨rfl, hw9⟩ := hp
            rw [hw9]
            clear hw9
            refine hK.out _ _ KS1.out (fun hHeld4 => ?_)
            clear hK K
            refine wpAnyH_takeD (i := 14) (d := some 30) (v := .int .i64 T36) rfl rfl (by kernel_rfl) (by kernel_rfl) (by kernel_rfl) (fun _ _ _ h => h) (Or.inl ⟨by rfl, fun W hSw => by obtain ⟨hSc, -⟩ := hSw; go_simp⟩) (by assumption) ?_
            simp only [Act.put, List.setIfInBounds_toArray, List.set_cons_zero, List.set_cons_succ]
            refine wpAnyH_takeD (i := 23) (d := some 39) (v := .agg FL) rfl rfl (by kernel_rfl) (by kernel_rfl) (by kernel_rfl) (fun _ _ _ h => h) (Or.inl ⟨by rfl, fun W hSw => by clear hSw; go_simp; exact KFLit.out⟩) (by assumption) ?_
            simp only [Act.put, List.setIfInBounds_toArray, List.set_cons_zero, List.set_cons_succ]
            refine wpAnyH_ready (rs := [25]) (by kernel_rfl) (by simp) ?_
            refine AllReadyH.cons (o := _) rfl (fun K hK => ?_) AllReadyH.nil
            rw [if_pos (by rfl)]
            refine wp_store_row 41 _ _ rfl w0.heap.size FL rfl rfl 41 _ Kb1.out KFi.out (by rw [KFl.out]; rfl) KFo.out ?_
            refine hK.out _ _ KS2.out (fun hHeld9 => ?_)
            refine wpAnyH_done (by kernel_rfl) ?_ _
            exact ⟨rfl, rfl, rfl, rfl, rfl, rfl⟩
        · go_simp
          refine hK.out _ _ KS1.out (fun hHeld1 => ?_)
          clear hK K
          refine wpAnyH_ready (rs := [8]) (by kernel_rfl) (by simp) ?_
          refine AllReadyH.cons (o := _) rfl (fun K hK => ?_) AllReadyH.nil
          go_simp
          refine Calls.mono (KN24.out w1 KS1.out.2) (fun e w9 hp => ?_)
          obtain ⟨rfl, hw9⟩ := hp
          rw [hw9]
          clear hw9
          refine hK.out _ _ KS1.out (fun hHeld3 => ?_)
          clear hK K
          refine wpAnyH_takeD (i := 9) (d := some 25) (v := .int .i64 T24) rfl rfl (by kernel_rfl) (by kernel_rfl) (by kernel_rfl) (fun _ _ _ h => h) (Or.inl ⟨by rfl, fun W hSw => by obtain ⟨hSc, -⟩ := hSw; go_simp⟩) (by assumption) ?_
          simp only [Act.put, List.setIfInBounds_toArray, List.set_cons_zero, List.set_cons_succ]
          refine wpAnyH_ready (rs := [13]) (by kernel_rfl) (by simp) ?_
          refine AllReadyH.cons (o := _) rfl (fun K hK => ?_) AllReadyH.nil
          go_simp
          refine Calls.mono (KN36.out w1 KS1.out.2) (fun e w9 hp => ?_)
          obtain ⟨rfl, hw9⟩ := hp
          rw [hw9]
          clear hw9
          refine hK.out _ _ KS1.out (fun hHeld4 => ?_)
          clear hK K
          refine wpAnyH_takeD (i := 14) (d := some 30) (v := .int .i64 T36) rfl rfl (by kernel_rfl) (by kernel_rfl) (by kernel_rfl) (fun _ _ _ h => h) (Or.inl ⟨by rfl, fun W hSw => by obtain ⟨hSc, -⟩ := hSw; go_simp⟩) (by assumption) ?_
          simp only [Act.put, List.setIfInBounds_toArray, List.set_cons_zero, List.set_cons_succ]
          refine wpAnyH_takeD (i := 23) (d := some 39) (v := .agg FL) rfl rfl (by kernel_rfl) (by kernel_rfl) (by kernel_rfl) (fun _ _ _ h => h) (Or.inl ⟨by rfl, fun W hSw => by clear hSw; go_simp; exact KFLit.out⟩) (by assumption) ?_
          simp only [Act.put, List.setIfInBounds_toArray, List.set_cons_zero, List.set_cons_succ]
          refine wpAnyH_ready (rs := [25]) (by kernel_rfl) (by simp) ?_
          refine AllReadyH.cons (o := _) rfl (fun K hK => ?_) AllReadyH.nil
          rw [if_pos (by rfl)]
          refine wp_store_row 41 _ _ rfl w0.heap.size FL rfl rfl 41 _ Kb1.out KFi.out (by rw [KFl.out]; rfl) KFo.out ?_
          refine hK.out _ _ KS2.out (fun hHeld9 => ?_)
          refine wpAnyH_done (by kernel_rfl) ?_ _
          exact ⟨rfl, rfl, rfl, rfl, rfl, rfl⟩
      · go_simp
        refine hK.out _ _ KS1.out (fun hHeld1 => ?_)
        clear hK K
        refine wpAnyH_ready (rs := [3]) (by kernel_rfl) (by simp) ?_
        refine AllReadyH.cons (o := _) rfl (fun K hK => ?_) AllReadyH.nil
        go_simp
        refine Calls.mono (KN8.out w1 KS1.out.2) (fun e w9 hp => ?_)
        obtain ⟨rfl, hw9⟩ := hp
        rw [hw9]
        clear hw9
        refine hK.out _ _ KS1.out (fun hHeld2 => ?_)
        clear hK K
        refine wpAnyH_takeD (i := 4) (d := some 20) (v := .int .i64 T8) rfl rfl (by kernel_rfl) (by kernel_rfl) (by kernel_rfl) (fun _ _ _ h => h) (Or.inl ⟨by rfl, fun W hSw => by obtain ⟨hSc, -⟩ := hSw; go_simp⟩) (by assumption) ?_
        simp only [Act.put, List.setIfInBounds_toArray, List.set_cons_zero, List.set_cons_succ]
        refine wpAnyH_ready (rs := [8]) (by kernel_rfl) (by simp) ?_
        refine AllReadyH.cons (o := _) rfl (fun K hK => ?_) AllReadyH.nil
        go_simp
        refine Calls.mono (KN24.out w1 KS1.out.2) (fun e w9 hp => ?_)
        obtain ⟨rfl, hw9⟩ := hp
        rw [hw9]
        clear hw9
        refine hK.out _ _ KS1.out (fun hHeld3 => ?_)
        clear hK K
        refine wpAnyH_takeD (i := 9) (d := some 25) (v := .int .i64 T24) rfl rfl (by kernel_rfl) (by kernel_rfl) (by kernel_rfl) (fun _ _ _ h => h) (Or.inl ⟨by rfl, fun W hSw => by obtain ⟨hSc, -⟩ := hSw; go_simp⟩) (by assumption) ?_
        simp only [Act.put, List.setIfInBounds_toArray, List.set_cons_zero, List.set_cons_succ]
        refine wpAnyH_ready (rs := [13]) (by kernel_rfl) (by simp) ?_
        refine AllReadyH.cons (o := _) rfl (fun K hK => ?_) AllReadyH.nil
        go_simp
        refine Calls.mono (KN36.out w1 KS1.out.2) (fun e w9 hp => ?_)
        obtain ⟨rfl, hw9⟩ := hp
        rw [hw9]
        clear hw9
        refine hK.out _ _ KS1.out (fun hHeld4 => ?_)
        clear hK K
        refine wpAnyH_takeD (i := 14) (d := some 30) (v := .int .i64 T36) rfl rfl (by kernel_rfl) (by kernel_rfl) (by kernel_rfl) (fun _ _ _ h => h) (Or.inl ⟨by rfl, fun W hSw => by obtain ⟨hSc, -⟩ := hSw; go_simp⟩) (by assumption) ?_
        simp only [Act.put, List.setIfInBounds_toArray, List.set_cons_zero, List.set_cons_succ]
        refine wpAnyH_takeD (i := 23) (d := some 39) (v := .agg FL) rfl rfl (by kernel_rfl) (by kernel_rfl) (by kernel_rfl) (fun _ _ _ h => h) (Or.inl ⟨by rfl, fun W hSw => by clear hSw; go_simp; exact KFLit.out⟩) (by assumption) ?_
        simp only [Act.put, List.setIfInBounds_toArray, List.set_cons_zero, List.set_cons_succ]
        refine wpAnyH_ready (rs := [25]) (by kernel_rfl) (by simp) ?_
        refine AllReadyH.cons (o := _) rfl (fun K hK => ?_) AllReadyH.nil
        rw [if_pos (by rfl)]
        refine wp_store_row 41 _ _ rfl w0.heap.size FL rfl rfl 41 _ Kb1.out KFi.out (by rw [KFl.out]; rfl) KFo.out ?_
        refine hK.out _ _ KS2.out (fun hHeld9 => ?_)
        refine wpAnyH_done (by kernel_rfl) ?_ _
        exact ⟨rfl, rfl, rfl, rfl, rfl, rfl⟩
    · intro z w2 hw2
      have hw2' : w1.setRow w0.heap.size FL = w2 := hw2.symm
      simp only [List.set_cons_succ, List.set_cons_zero, List.take_succ_cons, List.take_zero, List.drop_succ_cons, List.drop_zero, List.cons_append, List.nil_append]
      obtain ⟨g, hg⟩ : ∃ g, w0.heap.size = g := ⟨_, rfl⟩
      have hgw : w.heap.size < g := by have := Kz0.out; omega
      obtain ⟨R, hR⟩ : ∃ R, xs.drop t = R := ⟨_, rfl⟩
      have hRl : R.length = xs.length - t := by rw [← hR, List.length_drop]
      have KRg : Kept (∀ i, R.getD i 0 = xs.getD (t + i) 0) := ⟨fun i => by rw [← hR, getD_drop]⟩
      have KBw : Kept (Below g w0 w2) := ⟨by rw [hw2, ← hg]; exact KB2.out⟩
      have KBS0 : Kept (BlS w2 g { e1F R with ids := ids0 R 0 }) := ⟨by
        unfold BlS
        rw [hw2, ← hg, Kr2.out, ← KFL.out, hR]
        rfl⟩
      have Kcell : Kept (∀ W, Below g w0 W → ∀ i, i < xs.length → W.cell? ⟨b, off + i, none⟩ = some (.int .u8 (xs.getD i 0))) := ⟨fun W hW => Kcells.out W (by rw [hg]; exact hW)⟩
      have Krow0 : Kept (∀ W, Below g w0 W → W.heap[w.heap.size]? = some (.cells zS.l.toArray 41 (0, 0))) := ⟨fun W hW => by rw [hW.block _ hgw]; exact Kb0.out⟩
      have KBz : Kept (∀ W, Below g w0 W → Below w.heap.size w W) := ⟨fun W hW => KB0.out.trans (hW.mono (by omega))⟩
      have KrdR : Kept (∀ W, Below g w0 W → Rd .u8 S W (.slice (some ⟨b, off, none⟩) xs.length c) xs) := ⟨fun W hW => Krd0.out.later (by rw [hg]; exact hW) (Nat.le_refl _)⟩
      have KgS := Kept.mk hg
      have KRd := Kept.mk hR
      have KTs : Kept (Nu.bigT R 8 4 = T8 ∧ Nu.bigT R 24 4 = T24 ∧ Nu.bigT R 36 4 = T36) := ⟨by rw [← hR]; exact KTs0.out⟩
      rw [hg]
      clear hw0 hw1' hwd
      clear KN8 KN24 KN36 KS0 KS1 KS2 hw2 hw2' hg hR KFLit KBu KE1 hT8 hT24 hT36 hGb hq1 hq2 hr1 hr2 hr3 e8 e24 e36 e72 n72 b72 c72 KB2 Kr2 KFL KG KSt Kdiv KFl KFi KFo Kcells
      go_wp2
      go_loopw [8] (fun iv wr => ∃ k : Nat, k ≤ 32 ∧ iv = .int .i64 k ∧ BlS wr g { e1F R with ids := ids0 R k } ∧ Below g w0 wr) (fun iv _ => 32 - (intOf iv).toNat)
      case atStart => exact ⟨0, by omega, rfl, KBS0.out, KBw.out⟩
      case round =>
        obtain ⟨k, hk, rfl, hbs, hbel⟩ := hrel
        by_cases hlt : k < 32
        · have hki : (k : Int) < 32 := by omega
          have hi0 : R.getD (40 + k) 0 = xs.getD (t + (40 + k)) 0 := KRg.out (40 + k)
          have cx := Kcell.out wr hbel (t + 40 + k) (by omega)
          rw [show t + 40 + k = t + (40 + k) by omega, ← hi0] at cx
          obtain ⟨y, hy⟩ : ∃ y, R.getD (40 + k) 0 = y := ⟨_, rfl⟩
          have KSet : Kept (BlS (wr.setCell ⟨g, 3 + k, none⟩ (.int .u8 y)) g { e1F R with ids := ids0 R (k + 1) }) := ⟨by
            have h := hbs.setId (ids0_len R (by omega) (by omega)) hlt y
            rw [← hy] at h ⊢
            have e := ids0_set R hlt (by omega)
            simp only at h
            rw [e] at h
            exact h⟩
          rw [hy] at cx
          have cg : wr.cell? ⟨g, 3 + k, none⟩ = some (.int .u8 ((ids0 R k).getD k 0)) := hbs.cell (by
            unfold SlC.l
            rw [show 3 + k = k + 1 + 1 + 1 by omega, List.getElem?_cons_succ, List.getElem?_cons_succ, List.getElem?_cons_succ, List.getElem?_append_left (by rw [cellsK_length]; simp only; rw [ids0_len R (by omega) (by omega)]; exact hlt)]
            unfold cellsK
            rw [List.getElem?_map, List.getD_eq_getElem?_getD, List.getElem?_eq_getElem (by rw [ids0_len R (by omega) (by omega)]; exact hlt)]
            rfl)
          have fg := hbs.frozen (3 + k)
          generalize (ids0 R k).getD k 0 = y0 at *
          have KBk : Kept (Below g w0 (wr.setCell ⟨g, 3 + k, none⟩ (.int .u8 y))) := ⟨hbel.setCell (Nat.le_refl _) _⟩
          have e1 : IntKind.i64.wrap ((t : Int) + 40) = (t : Int) + 40 := wr64 (by omega) (by omega)
          have e2 : IntKind.i64.wrap ((t : Int) + 40 + (k : Int)) = (t : Int) + 40 + (k : Int) := wr64 (by omega) (by omega)
          have e3 : IntKind.i64.wrap ((k : Int) + 1) = (k : Int) + 1 := wr64 (by omega) (by omega)
          have n1 : ((t : Int) + 40 + (k : Int)).toNat = t + (40 + k) := by omega
          have n2 : (t : Int) + 40 + (k : Int) < (xs.length : Int) := by omega
          have n3 : 0 ≤ (t : Int) + 40 + (k : Int) := by omega
          clear hbs hbel hy hi0
          go_wp2
          go_roundw
          case rel => exact ⟨k + 1, hlt, by go_num, KSet.out, KBk.out⟩
          case measure => simp [intOf]; omega
        · have hki : ¬ (k : Int) < 32 := by omega
          obtain rfl : k = 32 := by omega
          rw [ids0_end] at hbs
          have KBS := Kept.mk hbs
          have KBl := Kept.mk hbel
          clear hbs hbel KBS0 KBw
          have KzL := Kept.mk (zn_le R)
          go_wp2
          go_loopw [9] (fun nv wq => ∃ n : Nat, n ≤ zn R ∧ nv = .int .i64 n ∧ BlS wq g { e1F R with ids := (R.take 72).drop 40 } ∧ Below g w0 wq) (fun nv _ => zn R - (intOf nv).toNat)
          case atStart => exact ⟨0, Nat.zero_le _, rfl, KBS.out, KBl.out⟩
          case round =>
            obtain ⟨n, hn, rfl, hbs2, hbl2⟩ := hrel
            have KBS := Kept.mk hbs2
            have KBl := Kept.mk hbl2
            clear hbs2 hbl2
            have hzl := KzL.out
            have hiff := zn_at hn
            have e1 : IntKind.i64.wrap ((t : Int) + 74) = (t : Int) + 74 := wr64 (by omega) (by omega)
            have e2 : IntKind.i64.wrap ((t : Int) + 74 + (n : Int)) = (t : Int) + 74 + (n : Int) := wr64 (by omega) (by omega)
            have e3 : IntKind.i64.wrap ((n : Int) + 1) = (n : Int) + 1 := wr64 (by omega) (by omega)
            have n1 : ((t : Int) + 74 + (n : Int)).toNat = t + 74 + n := by omega
            have n3 : 0 ≤ (t : Int) + 74 + (n : Int) := by omega
            by_cases hlt : n < zn R
            · obtain ⟨h1, h2⟩ := hiff.1 hlt
              have n2 : (t : Int) + 74 + (n : Int) < (xs.length : Int) := by omega
              have cx := Kcell.out wr KBl.out (t + 74 + n) (by omega)
              rw [show t + 74 + n = t + (74 + n) by omega, ← KRg.out (74 + n)] at cx
              obtain ⟨y, hy⟩ : ∃ y, R.getD (74 + n) 0 = y := ⟨_, rfl⟩
              rw [hy] at cx h2
              have hyq : (y != 0) = true := by simpa using h2
              rw [show t + (74 + n) = t + 74 + n by omega] at cx
              have Khn := Kept.mk hlt
              clear hiff hlt hn hzl h1 hy
              go_wp2
              go_roundw
              case rel => exact ⟨n + 1, Khn.out, by go_num, KBS.out, KBl.out⟩
              case measure => have := Khn.out; simp [intOf]; omega
            · have Knz : Kept (zn R = n) := ⟨by omega⟩
              have hnl : n ≤ xs.length - t - 74 := by omega
              have hends : ¬ (74 + n < R.length ∧ R.getD (74 + n) 0 ≠ 0) := fun h => hlt (hiff.2 h)
              clear hiff hn hlt hzl
              -- the end
              have hE1 : (74 + n) / 8 * 8 + 8 = slz n := rfl
              obtain ⟨Z, hZ⟩ : ∃ Z : Nat, (74 + n) / 8 = Z := ⟨_, rfl⟩
              have KZ : Kept ((t : Int) + ((slz n : Nat) : Int) = (t : Int) + (Z : Int) * 8 + 8) := ⟨by rw [← hE1, hZ]; omega⟩
              have q1 : ((74 : Int) + (n : Int)).tdiv 8 = (Z : Int) := by rw [Int.tdiv_eq_ediv_of_nonneg (by omega)]; omega
              have q1' : ((74 : Int) + (n : Int)) / 8 = (Z : Int) := by omega
              have w1' : IntKind.i64.wrap ((74 : Int) + (n : Int)) = (74 : Int) + (n : Int) := wr64 (by omega) (by omega)
              have w2' : IntKind.i64.wrap (Z : Int) = (Z : Int) := wr64 (by omega) (by omega)
              have w3' : IntKind.i64.wrap ((Z : Int) * 8) = (Z : Int) * 8 := wr64 (by omega) (by omega)
              have w4' : IntKind.i64.wrap ((t : Int) + (Z : Int) * 8) = (t : Int) + (Z : Int) * 8 := wr64 (by omega) (by omega)
              have w5' : IntKind.i64.wrap ((t : Int) + (Z : Int) * 8 + 8) = (t : Int) + (Z : Int) * 8 + 8 := wr64 (by omega) (by omega)
              have hcut : (Instr.sliceAt 25 (.slice (some ⟨b, off, none⟩) xs.length c) (some (.int .i64 ((t : Int) + 74))) (some (.int .i64 ((t : Int) + 74 + (n : Int)))) none).run Tryd.prog wr = .ok (.slice (some ⟨b, off + (t + 74), none⟩) n (c - (t + 74))) wr := by
                have h := cut_mid b xs.length c (t + 74) (t + 74 + n) (by omega) (by omega) (by omega) off wr
                rw [show ((t + 74 + n : Nat) : Int) = (t : Int) + 74 + (n : Int) by omega, show ((t + 74 : Nat) : Int) = (t : Int) + 74 by omega, show t + 74 + n - (t + 74) = n by omega] at h
                exact h
              have hpc : Rd .u8 S wr (.slice (some ⟨b, off + (t + 74), none⟩) n (c - (t + 74))) ((R.drop 74).take n) := by
                obtain ⟨a1, ha1, hrd1⟩ := (KrdR.out wr KBl.out).piece (i := t + 74) (j := t + 74 + n) (by omega) (by omega)
                have hx : ¬ xs = [] := by intro h; rw [h] at h7; simp at h7
                obtain rfl : a1 = some ⟨b, off + (t + 74), none⟩ := by rcases ha1 b off rfl with h | h; exact h; exact absurd h hx
                rw [show t + 74 + n - (t + 74) = n by omega] at hrd1
                have hq : (xs.take (t + 74 + n)).drop (t + 74) = (R.drop 74).take n := by
                  rw [← KRd.out, List.drop_drop, List.drop_take, show t + 74 + n - (t + 74) = n by omega]
                rwa [hq] at hrd1
              have hcv := Rd.str Tryd.underlying25 Tryd.underlying5 hpc 9 Tryd.underlying9
              have c0 : wr.cell? ⟨g, 0, none⟩ = some (.string ⟨#[]⟩) := KBS.out.cell rfl
              have f0 := KBS.out.frozen 0
              obtain ⟨s0, hs0⟩ : ∃ s0, strOfNums ((R.drop 74).take n) = s0 := ⟨_, rfl⟩
              rw [hs0] at hcv
              have KSt := Kept.mk (KBS.out.setPt s0)
              obtain ⟨W5, hW5⟩ : ∃ W5, wr.setCell ⟨g, 0, none⟩ (.string s0) = W5 := ⟨_, rfl⟩
              have KB5 : Kept (Below g w0 W5) := ⟨by rw [← hW5]; exact KBl.out.setCell (Nat.le_refl _) _⟩
              rw [hW5] at KSt
              have hds : (⟨s0, (e1F R).st, (e1F R).md, (R.take 72).drop 40, (e1F R).sz, (e1F R).tm⟩ : SlC) = dsF R := by
                unfold dsF
                rw [Knz.out, hs0]
                rfl
              have KSt2 : Kept (BlS W5 g (dsF R)) := ⟨by rw [← hds]; exact KSt.out⟩
              have hdl : (dsF R).l.toArray.size = 37 := by
                rw [List.size_toArray]
                unfold SlC.l dsF
                simp [cellsK]
                omega
              have KDl := Kept.mk hdl
              have KDi : Kept ((Tryd.prog.info? 41).map (·.size) = some (dsF R).l.toArray.size) := ⟨by rw [hdl]; exact infoZ37⟩
              have KDo : Kept ((dsF R).l.toArray.all (·.oneCell') = true) := ⟨by rw [Array.all_eq_true_iff_forall_mem]; intro x hx; exact SlC.ones _ x (by simpa using hx)⟩
              have KDi2 : Kept ((Tryd.prog.info? 41).map (·.size) = some (dsF R).l.length) := ⟨by have := KDi.out; rwa [List.size_toArray] at this⟩
              have Krg : Kept (W5.rangeAt g 0 (dsF R).l) := ⟨fun j u hu => by
                rw [Nat.zero_add]
                exact KSt2.out.cell hu⟩
              have Kr0 : Kept (W5.heap[w.heap.size]? = some (.cells zS.l.toArray 41 (0, 0))) := ⟨Krow0.out W5 KB5.out⟩
              have KzI : Kept ((Tryd.prog.info? 41).map (·.size) = some (dsF R).l.toArray.size) := KDi
              have KBE := Kept.mk (below_setRow (KBz.out W5 KB5.out) (Nat.le_refl _) (dsF R).l.toArray)
              have KrE : Kept ((W5.setRow w.heap.size (dsF R).l.toArray).heap[w.heap.size]? = some (.cells (dsF R).l.toArray 41 (0, 0))) := ⟨setRow_heap W5 w.heap.size _ _ _ _ Kr0.out⟩
              clear hds hdl hs0 hpc
              obtain ⟨ZL, hZL⟩ : ∃ ZL, zS.l.toArray = ZL := ⟨_, rfl⟩
              have KZl : Kept (ZL.size = 37) := ⟨by rw [← hZL]; rfl⟩
              rw [hZL] at Kr0
              clear hZL
              obtain ⟨DL, hDL⟩ : ∃ DL, (dsF R).l = DL := ⟨_, rfl⟩
              have KDL := Kept.mk hDL
              rw [hDL] at KDl KDi KDo KDi2 Krg KBE KrE
              clear hDL KzI
              by_cases hin : 74 + n < R.length
              · have h0 : R.getD (74 + n) 0 = 0 := Decidable.byContradiction fun h => hends ⟨hin, h⟩
                have n2 : (t : Int) + 74 + (n : Int) < (xs.length : Int) := by omega
                have cx := Kcell.out wr KBl.out (t + 74 + n) (by omega)
                rw [show t + 74 + n = t + (74 + n) by omega, ← KRg.out (74 + n), h0, show t + (74 + n) = t + 74 + n by omega] at cx
                clear h0
                clear hends hin
                go_upto_region 12 with fail
                try rw [hW5]
                clear hW5 hcut hcv c0 f0
                go_wp2_with (first | (refine wpList_load_mid rfl 41 _ rfl g 0 rfl DL _ Krg.out Tryd.underlying41 rfl KDi2.out ?_) | (refine BigFrame.wpList_want rfl (fun K hK => wp_store_row 41 _ _ rfl w.heap.size DL.toArray rfl rfl 41 _ Kr0.out KDi.out (by rw [KDl.out, KZl.out]) KDo.out (hK _ _ ?_))))
                generalize W5.setRow w.heap.size DL.toArray = W9 at *
                refine bodyPost_ret (results_rtt rfl _ _ w.heap.size 41 DL.toArray (0, 0) _ rfl KrE.out Tryd.underlying41 rfl KDi.out) rfl ?_
                refine ⟨?_, KBE.out⟩
                rw [KRd.out, Knz.out, KDL.out, KZ.out]
                rfl
              · have n2 : ¬ (t : Int) + 74 + (n : Int) < (xs.length : Int) := by omega
                clear hends hin
                go_upto_region 12 with fail
                try rw [hW5]
                clear hW5 hcut hcv c0 f0
                go_wp2_with (first | (refine wpList_load_mid rfl 41 _ rfl g 0 rfl DL _ Krg.out Tryd.underlying41 rfl KDi2.out ?_) | (refine BigFrame.wpList_want rfl (fun K hK => wp_store_row 41 _ _ rfl w.heap.size DL.toArray rfl rfl 41 _ Kr0.out KDi.out (by rw [KDl.out, KZl.out]) KDo.out (hK _ _ ?_))))
                generalize W5.setRow w.heap.size DL.toArray = W9 at *
                refine bodyPost_ret (results_rtt rfl _ _ w.heap.size 41 DL.toArray (0, 0) _ rfl KrE.out Tryd.underlying41 rfl KDi.out) rfl ?_
                refine ⟨?_, KBE.out⟩
                rw [KRd.out, Knz.out, KDL.out, KZ.out]
                rfl
  · have h7i : ((xs.length : Int) - (t : Int)) < 75 := by omega
    rw [if_neg h7, if_neg h7, decide_eq_false h7]
    obtain ⟨a, c, hv, -, hlc, -⟩ := h.form
    subst hv
    have KFi : Kept ((Tryd.prog.info? 41).map (·.size) = some zS.l.toArray.size) := ⟨by rw [show zS.l.toArray.size = 37 from rfl]; exact infoZ37⟩
    have KFl : Kept (zS.l.toArray.size = 37) := ⟨rfl⟩
    have KFo : Kept (zS.l.toArray.all (·.oneCell') = true) := ⟨by rw [Array.all_eq_true_iff_forall_mem]; intro x hx; exact SlC.ones _ x (by simpa using hx)⟩
    obtain ⟨ZL, hZL⟩ : ∃ ZL, zS.l.toArray = ZL := ⟨_, rfl⟩
    have hlit : (#[.string ⟨#[]⟩, .int .i64 0, .int .i64 0, .int .u8 0, .int .u8 0, .int .u8 0, .int .u8 0, .int .u8 0, .int .u8 0, .int .u8 0, .int .u8 0, .int .u8 0, .int .u8 0, .int .u8 0, .int .u8 0, .int .u8 0, .int .u8 0, .int .u8 0, .int .u8 0, .int .u8 0, .int .u8 0, .int .u8 0, .int .u8 0, .int .u8 0, .int .u8 0, .int .u8 0, .int .u8 0, .int .u8 0, .int .u8 0, .int .u8 0, .int .u8 0, .int .u8 0, .int .u8 0, .int .u8 0, .int .u8 0, .int .i64 0, .int .i64 0] : Array Value) = ZL := zS_cells.trans hZL
    rw [hZL] at Kb0 KFi KFl KFo ⊢
    rw [hlit] at hw0
    clear hZL
    go_enter Tryd.func32, Tryd.ntmps32
    go_wp2_with (refine BigFrame.wpList_want rfl (fun K hK => wp_store_row 41 _ _ rfl w.heap.size ZL rfl rfl 41 _ Kb0.out KFi.out (by rw [KFl.out]) KFo.out (hK _ _ ?_)))
    have Krow : Kept ((w0.setRow w.heap.size ZL).heap[w.heap.size]? = some (.cells ZL 41 (0, 0))) := ⟨setRow_heap w0 w.heap.size _ _ _ _ Kb0.out⟩
    have KBe := Kept.mk (below_setRow KB0.out (Nat.le_refl _) ZL)
    generalize w0.setRow w.heap.size ZL = W9 at *
    refine bodyPost_ret (results_rtt rfl _ _ w.heap.size 41 ZL (0, 0) _ rfl Krow.out Tryd.underlying41 rfl KFi.out) rfl ?_
    exact ⟨rfl, KBe.out⟩
end Go.Proofs.YthkaohkondkhgaaDoor
