/-
  Walks: the document's piece.
-/
import Derived.Test.YtidpdhnbnecddaaM19
namespace Go.Proofs.Ytidpdhnbnecddaa
open Go.RowKit

theorem clsd_len (L : List ByteArray) : (clsd L).length ≤ (jnd L).length + 1 := by
  unfold clsd
  split
  · simp
  · exact (endd_len _).2
theorem str_pc (l0 l1 : ByteArray) (O A B : List ByteArray) : mkA ++ l0 ++ mkL ++ strOfNums (clsd A) ++ mkO ++ strOfNums (clsd O) ++ mkE ++ strOfNums (clsd B) ++ mkZ ++ l1 ++ mkL = strOfNums (pcT l0 l1 (O, A, B)) := by
  unfold pcT
  simp only [nms_cat, ← sn_append, sn_nms, ByteArray.append_assoc]
/-- What piece answers. -/
def PcE (w : World) (R : List Int × Nat) (e : Ending) (w' : World) : Prop := e = .returned (.tuple #[.string (strOfNums R.1), .int .i64 R.2]) ∧ Below w.heap.size w w'
theorem pcR_b {l0 l1 : ByteArray} {O A B : List ByteArray} (h : A = O) : pcR l0 l1 (O, A, B) = (jnd B, 0) := by
  unfold pcR setF
  rw [if_pos h]
theorem pcR_a {l0 l1 : ByteArray} {O A B : List ByteArray} (h1 : ¬ A = O) (h : B = O ∨ A = B) : pcR l0 l1 (O, A, B) = (jnd A, 0) := by
  unfold pcR setF
  simp only
  rw [if_neg h1]
  by_cases h2 : B = O
  · rw [if_pos h2]
  · rw [if_neg h2, if_pos (h.resolve_left h2)]
theorem pcR_c {l0 l1 : ByteArray} {O A B : List ByteArray} (h1 : ¬ A = O) (h2 : ¬ B = O) (h3 : ¬ A = B) : pcR l0 l1 (O, A, B) = (pcT l0 l1 (O, A, B), 1) := by
  unfold pcR setF
  simp only
  rw [if_neg h1, if_neg h2, if_neg h3]
theorem RdS.drew {w : World} {v : Value} {L : List ByteArray} (h : RdS w v L) (m : Nat) : RdS (w.drewN m) v L := h.later (below_drewN (Below.refl _ w) m) (Nat.le_refl _)
set_option maxHeartbeats 2000000 in
set_option maxRecDepth 100000 in
theorem piece_any (o a b : Value) (O A B : List ByteArray) (l0 l1 : ByteArray) (w : World) (ho : RdS w o O) (ha : RdS w a A) (hb : RdS w b B) (lO : O.length ≤ 1000) (lA : A.length ≤ 1000) (lB : B.length ≤ 1000) (s0 : l0.size ≤ 1000) (s1 : l1.size ≤ 1000)
    (jO : (jnd O).length ≤ 1048576) (jA : (jnd A).length ≤ 1048576) (jB : (jnd B).length ≤ 1048576) :
    Calls Try.prog 37 #[o, a, b, .agg #[.string l0, .string l1]] w fun e w' => PcE w (pcR l0 l1 (O, A, B)) e w' := by
  have KBa := Kept.mk ((Below.refl w.heap.size w).alloc (Nat.le_refl _) (.cells #[.string l0, .string l1] 23))
  obtain ⟨b0, b1⟩ := box2 (w := w) (x := .string l0) (y := .string l1) (T := 23)
  obtain ⟨po, co, rfl⟩ := ho.form
  obtain ⟨pa, ca, rfl⟩ := ha.form
  obtain ⟨pb, cb, rfl⟩ := hb.form
  have KX : Kept (∀ W, CC (w.alloc (.cells #[.string l0, .string l1] 23)) W → RdS W (.slice po O.length co) O ∧ RdS W (.slice pa A.length ca) A ∧ RdS W (.slice pb B.length cb) B ∧ W.cell? ⟨w.heap.size, 0, none⟩ = some (.string l0) ∧ W.cell? ⟨w.heap.size, 1, none⟩ = some (.string l1) ∧ Below w.heap.size w W) := ⟨fun W hW => by
    have hB : Below w.heap.size w W := KBa.out.trans (Below.mono hW KBa.out.size)
    refine ⟨ho.later hB (Nat.le_refl _), ha.later hB (Nat.le_refl _), hb.later hB (Nat.le_refl _), ?_, ?_, hB⟩
    · rw [Below.cell hW (World.block_lt_of_cell? _ _ b0)]; exact b0
    · rw [Below.cell hW (World.block_lt_of_cell? _ _ b1)]; exact b1⟩
  clear ho ha hb b0 b1 KBa
  go_enter Try.func37, Try.ntmps37
  go_upto_region 1 with fail
  obtain ⟨w1, hw1⟩ : ∃ w1, w.alloc (.cells #[.string l0, .string l1] 23) = w1 := ⟨_, rfl⟩
  rw [hw1] at KX ⊢
  clear hw1
  have K1 := Kept.mk (sameLines_any _ _ A O w1 (KX.out w1 (CC.refl _)).2.1 (KX.out w1 (CC.refl _)).1 (by omega))
  go_wp2_with fail
  refine Calls.mono K1.out (fun e w2 hp => ?_)
  obtain ⟨rfl, hb2⟩ := hp
  have C2 : Kept (CC w1 w2) := ⟨hb2⟩
  clear K1 hb2
  by_cases hAO : A = O
  · have KR : Kept (pcR l0 l1 (O, A, B) = (jnd B, 0)) := ⟨pcR_b hAO⟩
    have K2 := Kept.mk (joined_any _ B w2 (KX.out w2 C2.out).2.2.1 (by omega) (by omega))
    rw [decide_eq_true hAO]
    clear hAO
    go_wp2_with fail
    refine Calls.mono K2.out (fun e w3 hp => ?_)
    obtain ⟨rfl, hw⟩ := hp
    subst w3
    clear K2
    go_wp2
    go_ret2
    exact ⟨by rw [KR.out]; rfl, (KX.out _ C2.out).2.2.2.2.2⟩
  · rw [decide_eq_false hAO]
    have K2 := Kept.mk (sameLines_any _ _ B O w2 (KX.out w2 C2.out).2.2.1 (KX.out w2 C2.out).1 (by omega))
    go_wp2_with fail
    refine Calls.mono K2.out (fun e w3 hp => ?_)
    obtain ⟨rfl, hb3⟩ := hp
    have C3 : Kept (CC w1 w3) := ⟨C2.out.on hb3⟩
    clear K2 hb3 C2
    by_cases hBO : B = O
    · have KR : Kept (pcR l0 l1 (O, A, B) = (jnd A, 0)) := ⟨pcR_a hAO (.inl hBO)⟩
      have K4 := Kept.mk (joined_any _ A w3 (KX.out w3 C3.out).2.1 (by omega) (by omega))
      rw [decide_eq_true hBO]
      clear hAO hBO
      go_wp2_with fail
      refine Calls.mono K4.out (fun e w4 hp => ?_)
      obtain ⟨rfl, hw⟩ := hp
      subst w4
      clear K4
      go_wp2
      go_ret2
      exact ⟨by rw [KR.out]; rfl, (KX.out _ C3.out).2.2.2.2.2⟩
    · rw [decide_eq_false hBO]
      have K3 := Kept.mk (sameLines_any _ _ A B w3 (KX.out w3 C3.out).2.1 (KX.out w3 C3.out).2.2.1 (by omega))
      go_wp2_with fail
      refine Calls.mono K3.out (fun e w4 hp => ?_)
      obtain ⟨rfl, hb4⟩ := hp
      have C4 : Kept (CC w1 w4) := ⟨C3.out.on hb4⟩
      clear K3 hb4 C3
      by_cases hAB : A = B
      · have KR : Kept (pcR l0 l1 (O, A, B) = (jnd A, 0)) := ⟨pcR_a hAO (.inr hAB)⟩
        have K4 := Kept.mk (joined_any _ A w4 (KX.out w4 C4.out).2.1 (by omega) (by omega))
        rw [decide_eq_true hAB]
        clear hAO hBO hAB
        go_wp2_with fail
        refine Calls.mono K4.out (fun e w5 hp => ?_)
        obtain ⟨rfl, hw⟩ := hp
        subst w5
        clear K4
        go_wp2
        go_ret2
        exact ⟨by rw [KR.out]; rfl, (KX.out _ C4.out).2.2.2.2.2⟩
      · have KR : Kept (pcR l0 l1 (O, A, B) = (pcT l0 l1 (O, A, B), 1)) := ⟨pcR_c hAO hBO hAB⟩
        rw [decide_eq_false hAB]
        obtain ⟨rO, rA, rB, b0, b1, -⟩ := KX.out w4 C4.out
        have KcA : Kept (∀ m, Calls Try.prog 46 #[.slice pa A.length ca] (w4.drewN m) fun e w' => e = .returned (.string (strOfNums (clsd A))) ∧ w' = w4.drewN m) := ⟨fun m => closed_any _ A _ (rA.drew m) (by omega) (by omega)⟩
        have KcO : Kept (∀ m, Calls Try.prog 46 #[.slice po O.length co] (w4.drewN m) fun e w' => e = .returned (.string (strOfNums (clsd O))) ∧ w' = w4.drewN m) := ⟨fun m => closed_any _ O _ (rO.drew m) (by omega) (by omega)⟩
        have KcB : Kept (∀ m, Calls Try.prog 46 #[.slice pb B.length cb] (w4.drewN m) fun e w' => e = .returned (.string (strOfNums (clsd B))) ∧ w' = w4.drewN m) := ⟨fun m => closed_any _ B _ (rB.drew m) (by omega) (by omega)⟩
        have KS : Kept (mkA ++ l0 ++ mkL ++ strOfNums (clsd A) ++ mkO ++ strOfNums (clsd O) ++ mkE ++ strOfNums (clsd B) ++ mkZ ++ l1 ++ mkL = strOfNums (pcT l0 l1 (O, A, B))) := ⟨str_pc l0 l1 O A B⟩
        have z1 : (strOfNums (clsd A)).size ≤ 1048577 := by rw [sn_size]; have := clsd_len A; omega
        have z2 : (strOfNums (clsd O)).size ≤ 1048577 := by rw [sn_size]; have := clsd_len O; omega
        have z3 : (strOfNums (clsd B)).size ≤ 1048577 := by rw [sn_size]; have := clsd_len B; omega
        generalize strOfNums (clsd A) = SA at *
        generalize strOfNums (clsd O) = SO at *
        generalize strOfNums (clsd B) = SB at *
        have Kz : Kept (SA.size ≤ 1048577 ∧ SO.size ≤ 1048577 ∧ SB.size ≤ 1048577 ∧ l0.size ≤ 1000 ∧ l1.size ≤ 1000) := ⟨⟨z1, z2, z3, s0, s1⟩⟩
        have Kq : Kept ((ByteArray.mk #[60, 60, 60, 60, 60, 60, 60, 32]).size = 8 ∧ (ByteArray.mk #[124, 124, 124, 124, 124, 124, 124, 32, 98, 97, 115, 101, 10]).size = 13 ∧ (ByteArray.mk #[61, 61, 61, 61, 61, 61, 61, 10]).size = 8 ∧ (ByteArray.mk #[62, 62, 62, 62, 62, 62, 62, 32]).size = 8 ∧ (ByteArray.mk #[10]).size = 1) := ⟨⟨rfl, rfl, rfl, rfl, rfl⟩⟩
        have C4e := Kept.mk (KX.out w4 C4.out).2.2.2.2.2
        clear hAO hBO hAB z1 z2 z3 s0 s1 lO lA lB jO jA jB rO rA rB KX
        go_upto_region 5 with fail
        refine wp_region_quiet_lit (by kernel_rfl) (by kernel_rfl) ?_
        go_big_quiet_step (fail)
        go_big_quiet_step (fail)
        refine BigFrame.wpQuiet_want rfl (fun K hK => quiet_cat _ _ rfl _ _ rfl rfl (by have := Kz.out; have := Kq.out; (repeat rw [size_cat]); omega) (hK _ ?_))
        clear hK K
        simp only [Act.put, List.setIfInBounds_toArray, List.set_cons_zero, List.set_cons_succ]
        refine BigFrame.wpQuiet_want rfl (fun K hK => quiet_cat _ _ rfl _ _ rfl rfl (by have := Kz.out; have := Kq.out; (repeat rw [size_cat]); omega) (hK _ ?_))
        clear hK K
        simp only [Act.put, List.setIfInBounds_toArray, List.set_cons_zero, List.set_cons_succ]
        go_big_quiet_step (fail)
        go_big_quiet_step (exact Calls.quiet_of_same (KcA.out _))
        refine BigFrame.wpQuiet_want rfl (fun K hK => quiet_cat _ _ rfl _ _ rfl rfl (by have := Kz.out; have := Kq.out; (repeat rw [size_cat]); omega) (hK _ ?_))
        clear hK K
        simp only [Act.put, List.setIfInBounds_toArray, List.set_cons_zero, List.set_cons_succ]
        refine BigFrame.wpQuiet_want rfl (fun K hK => quiet_cat _ _ rfl _ _ rfl rfl (by have := Kz.out; have := Kq.out; (repeat rw [size_cat]); omega) (hK _ ?_))
        clear hK K
        simp only [Act.put, List.setIfInBounds_toArray, List.set_cons_zero, List.set_cons_succ]
        go_big_quiet_step (fail)
        go_big_quiet_step (exact Calls.quiet_of_same (KcO.out _))
        refine BigFrame.wpQuiet_want rfl (fun K hK => quiet_cat _ _ rfl _ _ rfl rfl (by have := Kz.out; have := Kq.out; (repeat rw [size_cat]); omega) (hK _ ?_))
        clear hK K
        simp only [Act.put, List.setIfInBounds_toArray, List.set_cons_zero, List.set_cons_succ]
        refine BigFrame.wpQuiet_want rfl (fun K hK => quiet_cat _ _ rfl _ _ rfl rfl (by have := Kz.out; have := Kq.out; (repeat rw [size_cat]); omega) (hK _ ?_))
        clear hK K
        simp only [Act.put, List.setIfInBounds_toArray, List.set_cons_zero, List.set_cons_succ]
        go_big_quiet_step (fail)
        go_big_quiet_step (exact Calls.quiet_of_same (KcB.out _))
        refine BigFrame.wpQuiet_want rfl (fun K hK => quiet_cat _ _ rfl _ _ rfl rfl (by have := Kz.out; have := Kq.out; (repeat rw [size_cat]); omega) (hK _ ?_))
        clear hK K
        simp only [Act.put, List.setIfInBounds_toArray, List.set_cons_zero, List.set_cons_succ]
        refine BigFrame.wpQuiet_want rfl (fun K hK => quiet_cat _ _ rfl _ _ rfl rfl (by have := Kz.out; have := Kq.out; (repeat rw [size_cat]); omega) (hK _ ?_))
        clear hK K
        simp only [Act.put, List.setIfInBounds_toArray, List.set_cons_zero, List.set_cons_succ]
        go_big_quiet_step (fail)
        go_big_quiet_step (fail)
        refine BigFrame.wpQuiet_want rfl (fun K hK => quiet_cat _ _ rfl _ _ rfl rfl (by have := Kz.out; have := Kq.out; (repeat rw [size_cat]); omega) (hK _ ?_))
        clear hK K
        simp only [Act.put, List.setIfInBounds_toArray, List.set_cons_zero, List.set_cons_succ]
        refine BigFrame.wpQuiet_want rfl (fun K hK => quiet_cat _ _ rfl _ _ rfl rfl (by have := Kz.out; have := Kq.out; (repeat rw [size_cat]); omega) (hK _ ?_))
        clear hK K
        simp only [Act.put, List.setIfInBounds_toArray, List.set_cons_zero, List.set_cons_succ]
        go_big_quiet_step (fail)
        go_big_quiet_step (fail)
        refine wpQuiet_nil ?_
        intro x1 hx1
        obtain ⟨m, rfl⟩ := hx1
        go_wp2
        go_ret2
        refine ⟨?_, below_drewN C4e.out _⟩
        rw [KR.out]
        simp only
        rw [← KS.out]
        rfl
end Go.Proofs.Ytidpdhnbnecddaa
