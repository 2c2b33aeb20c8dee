/-
  Walks: the document's DocThree.
-/
import Derived.Test.YtidpdhnbnecddaaM21
import Derived.Test.YtidpdhnbnecddaaQ3
import Derived.Test.YtidpdhnbnecddaaM11
namespace Go.Proofs.Ytidpdhnbnecddaa
open Go.RowKit

namespace An
open Go
section
variable {P : Program} {md : Region.Mode} {ops : Array Oper} {Q : Exit → Act → World → Prop} {fuel : Nat} {listed : Array Bool} {a : Act} {w : World} {i : Nat} {o : Oper}
theorem wpAny_one (hr : Region.ready md ops listed = [i]) (ho : ops[i]? = some o) (hw : Region.wanted o (yielded ops a.tmps) = true)
    (h : ∀ K : Act → World → Prop, (∀ a' w', wpAny P md ops Q fuel (listed.setIfInBounds i true) a' w' → K a' w') → Oper.wp P o a w K Q) : wpAny P md ops Q (fuel + 1) listed a w := by
  refine wpAny_all hr (by simp) fun k hk => ?_
  obtain rfl : k = i := by simpa using hk
  unfold wpOp
  simp only [ho]
  rw [if_pos hw]
  exact .inl (h _ fun _ _ h => h)
end
end An
/-- What DocThree leaves. -/
def DhE (w : World) (R : List Int × Int × Int) (e : Ending) (w' : World) : Prop := ∃ v, e = .returned (.tuple #[v, .int .i64 R.2.1, .int .i64 R.2.2]) ∧ Rd .u8 anyB w' v R.1 ∧ AllB R.1 ∧ Below w.heap.size w w'
theorem thM_bad {l0 l1 : ByteArray} {x y z : List Int} {E : Int} (h : thE l0 l1 x y z = E) (hE : E ≠ 0) : thM l0 l1 x y z = ([], 0, E) := by
  unfold thM th3
  rw [h, if_pos hE]
theorem thM_good {l0 l1 : ByteArray} {x y z : List Int} (h : thE l0 l1 x y z = 0) : thM l0 l1 x y z = if 1048576 < (dcP l0 l1 (lnS x) (lnS y) (lnS z)).1.length then ([], 0, 2) else ((dcP l0 l1 (lnS x) (lnS y) (lnS z)).1, ((dcP l0 l1 (lnS x) (lnS y) (lnS z)).2 : Int), 0) := by
  unfold thM th3
  rw [h, if_neg (by simp), th_dc]
theorem okL_size {l : ByteArray} (h : okL l = true) : l.size ≤ 100 := by
  unfold okL at h
  simp at h
  exact h.1.1
set_option maxHeartbeats 4000000 in
set_option maxRecDepth 100000 in
theorem docE_t_f (v0 v1 v2 : Value) (x0 x1 x2 : List Int) (l0 l1 : ByteArray) (w : World) (h0 : Rd .u8 anyB w v0 x0) (h1 : Rd .u8 anyB w v1 x1) (h2 : Rd .u8 anyB w v2 x2) (g0 : bigT x0 = true) (k0 : okL l0 = false) :
    Calls Try.prog 13 #[v0, v1, v2, .agg #[.string l0, .string l1]] w fun e w' => DhE w (thM l0 l1 x0 x1 x2) e w' := by
  have hba := (Below.refl w.heap.size w).alloc (Nat.le_refl _) (.cells #[.string l0, .string l1] 23)
  obtain ⟨b0, b1⟩ := box2 (w := w) (x := .string l0) (y := .string l1) (T := 23)
  have K0 := Kept.mk h0
  have K1 := Kept.mk h1
  have K2 := Kept.mk h2
  obtain ⟨pa, ca, rfl, -⟩ := h0.form
  obtain ⟨pb, cb, rfl, -⟩ := h1.form
  obtain ⟨pd, cd, rfl, -⟩ := h2.form
  have KX : Kept (∀ W, CC (w.alloc (.cells #[.string l0, .string l1] 23)) W → W.cell? ⟨w.heap.size, 0, none⟩ = some (.string l0) ∧ W.cell? ⟨w.heap.size, 1, none⟩ = some (.string l1) ∧ Below w.heap.size w W) := ⟨fun W hW =>
    ⟨by rw [Below.cell hW (World.block_lt_of_cell? _ _ b0)]; exact b0, by rw [Below.cell hW (World.block_lt_of_cell? _ _ b1)]; exact b1, hba.trans (Below.mono hW hba.size)⟩⟩
  have KE : Kept (thE l0 l1 x0 x1 x2 = 2) := ⟨by unfold thE; simp [g0]⟩
  clear h0 h1 h2 hba b0 b1
  go_enter Try.func13, Try.ntmps13
  go_upto_region 1 with fail
  obtain ⟨w1, hw1⟩ : ∃ w1, w.alloc (.cells #[.string l0, .string l1] 23) = w1 := ⟨_, rfl⟩
  rw [hw1] at KX ⊢
  clear hw1
  have KL0 : Kept (∀ W, CC w1 W → Calls Try.prog 27 #[.slice pa x0.length ca] W fun e w' => e = .returned (.bool true) ∧ CC w1 w') := ⟨fun W hW => (long_doc _ x0 W (K0.out.later (KX.out W hW).2.2 (Nat.le_refl _))).mono fun e w' hp => ⟨by rw [hp.1, g0], by rw [hp.2]; exact hW⟩⟩
  have KB0 : Kept (∀ W, CC w1 W → Calls Try.prog 15 #[.string l0] W fun e w' => e = .returned (.bool false) ∧ CC w1 w') := ⟨fun W hW => (label_any l0 W).mono fun e w' hp => ⟨by rw [hp.1, k0], hW.on hp.2⟩⟩
  have KI2 : Kept (∀ W, CC w1 W → Calls Try.prog 26 #[.bool true, .int .i64 2] W fun e w' => e = .returned (.int .i64 2) ∧ CC w1 w') := ⟨fun W hW => (if_any true 2 W).mono fun e w' hp => ⟨hp.1, by rw [hp.2]; exact hW⟩⟩
  have KI3 : Kept (∀ W, CC w1 W → Calls Try.prog 26 #[.bool true, .int .i64 3] W fun e w' => e = .returned (.int .i64 3) ∧ CC w1 w') := ⟨fun W hW => (if_any true 3 W).mono fun e w' hp => ⟨hp.1, by rw [hp.2]; exact hW⟩⟩
  clear g0 k0
  refine wp_region_part (C := CC w1) 21 3 #[true, true, true, true, true, true, true, true, true, true, true, true, true, true, true, true, true, true, true, true, true, true, false, false, false] (by kernel_rfl) (by kernel_rfl) (Below.refl _ _).drew ?_
  simp only [List.take_succ_cons, List.take_zero]
  go_big_quiet_step (fail)
  go_big_quiet_step ((intro hCw; exact KL0.out _ hCw))
  go_big_quiet_step (fail)
  go_big_quiet_step (fail)
  go_big_quiet_step (fail)
  go_big_quiet_step ((intro _; rfl))
  go_big_quiet_step (fail)
  go_big_quiet_step (fail)
  go_big_quiet_step (fail)
  go_big_quiet_step ((intro _; rfl))
  go_big_quiet_step ((intro hCw; exact KI2.out _ hCw))
  refine BigFrame.wpQuiet_want rfl (fun K hK => quiet_run (v := .pointer (some ⟨w.heap.size, 0, none⟩)) (fun W hW => by go_simp) (hK _ ?_))
  clear hK K
  simp only [Act.put, List.setIfInBounds_toArray, List.set_cons_zero, List.set_cons_succ]
  refine BigFrame.wpQuiet_want rfl (fun K hK => quiet_run (v := .string l0) (fun W hW => by have := (KX.out W hW).1; go_simp) (hK _ ?_))
  clear hK K
  simp only [Act.put, List.setIfInBounds_toArray, List.set_cons_zero, List.set_cons_succ]
  go_big_quiet_step ((intro hCw; exact KB0.out _ hCw))
  go_big_quiet_step ((intro _; rfl))
  go_big_quiet_step (fail)
  go_big_quiet_step (fail)
  go_big_quiet_step (fail)
  go_big_quiet_step (fail)
  go_big_quiet_step (fail)
  go_big_quiet_step ((intro _; rfl))
  go_big_quiet_step ((intro hCw; exact KI3.out _ hCw))
  refine wpQuiet_nil ?_
  intro x1' hx1
  obtain ⟨x2', hx2⟩ : ∃ x2', x1'.alloc (.cells #[.int .i64 2, .int .i64 3] 26) = x2' := ⟨_, rfl⟩
  have hh2 : x2'.heap[x1'.heap.size]? = some (.cells #[.int .i64 2, .int .i64 3] 26) := by rw [← hx2]; exact heap_alloc_new x1' _
  have hBx2 : Below x1'.heap.size x1' x2' := by rw [← hx2]; exact (Below.refl _ _).alloc (Nat.le_refl _) _
  have hLs := least_two 2 3 x1'.heap.size x2' hh2
  rw [show lsF (lsF 0 2) 3 = 2 by decide] at hLs
  have KLa := Kept.mk hLs
  have KC2 : Kept (CC w1 x2') := ⟨CC.on hx1 hBx2⟩
  clear hh2 hBx2 hLs hx1 KI2 KI3 KB0 KL0
  refine An.wpAny_one (i := 22) (by kernel_rfl) rfl rfl (fun K hK => ?_)
  go_simp
  refine hK _ _ ?_
  clear hK K
  try rw [hx2]
  clear hx2
  refine An.wpAny_one (i := 23) (by kernel_rfl) rfl rfl (fun K hK => ?_)
  go_simp
  refine Calls.mono KLa.out (fun e x3 hp => ?_)
  obtain ⟨rfl, hx3⟩ := hp
  subst x3
  refine hK _ _ ?_
  clear hK K
  refine An.wpAny_one (i := 24) (by kernel_rfl) rfl rfl (fun K hK => ?_)
  go_simp
  refine hK _ _ ?_
  clear hK K
  refine wpAny_done (by kernel_rfl) (NoPanic.normal ?_) _
  go_wp2
  go_ret3
  rw [thM_bad KE.out (by decide)]
  exact ⟨_, rfl, Rd.nil _ _ _, AllIn.nil, (KX.out _ KC2.out).2.2⟩
set_option maxHeartbeats 4000000 in
set_option maxRecDepth 100000 in
theorem docE_t_tf (v0 v1 v2 : Value) (x0 x1 x2 : List Int) (l0 l1 : ByteArray) (w : World) (h0 : Rd .u8 anyB w v0 x0) (h1 : Rd .u8 anyB w v1 x1) (h2 : Rd .u8 anyB w v2 x2) (g0 : bigT x0 = true) (k0 : okL l0 = true) (k1 : okL l1 = false) :
    Calls Try.prog 13 #[v0, v1, v2, .agg #[.string l0, .string l1]] w fun e w' => DhE w (thM l0 l1 x0 x1 x2) e w' := by
  have hba := (Below.refl w.heap.size w).alloc (Nat.le_refl _) (.cells #[.string l0, .string l1] 23)
  obtain ⟨b0, b1⟩ := box2 (w := w) (x := .string l0) (y := .string l1) (T := 23)
  have K0 := Kept.mk h0
  have K1 := Kept.mk h1
  have K2 := Kept.mk h2
  obtain ⟨pa, ca, rfl, -⟩ := h0.form
  obtain ⟨pb, cb, rfl, -⟩ := h1.form
  obtain ⟨pd, cd, rfl, -⟩ := h2.form
  have KX : Kept (∀ W, CC (w.alloc (.cells #[.string l0, .string l1] 23)) W → W.cell? ⟨w.heap.size, 0, none⟩ = some (.string l0) ∧ W.cell? ⟨w.heap.size, 1, none⟩ = some (.string l1) ∧ Below w.heap.size w W) := ⟨fun W hW =>
    ⟨by rw [Below.cell hW (World.block_lt_of_cell? _ _ b0)]; exact b0, by rw [Below.cell hW (World.block_lt_of_cell? _ _ b1)]; exact b1, hba.trans (Below.mono hW hba.size)⟩⟩
  have KE : Kept (thE l0 l1 x0 x1 x2 = 2) := ⟨by unfold thE; simp [g0]⟩
  clear h0 h1 h2 hba b0 b1
  go_enter Try.func13, Try.ntmps13
  go_upto_region 1 with fail
  obtain ⟨w1, hw1⟩ : ∃ w1, w.alloc (.cells #[.string l0, .string l1] 23) = w1 := ⟨_, rfl⟩
  rw [hw1] at KX ⊢
  clear hw1
  have KL0 : Kept (∀ W, CC w1 W → Calls Try.prog 27 #[.slice pa x0.length ca] W fun e w' => e = .returned (.bool true) ∧ CC w1 w') := ⟨fun W hW => (long_doc _ x0 W (K0.out.later (KX.out W hW).2.2 (Nat.le_refl _))).mono fun e w' hp => ⟨by rw [hp.1, g0], by rw [hp.2]; exact hW⟩⟩
  have KB0 : Kept (∀ W, CC w1 W → Calls Try.prog 15 #[.string l0] W fun e w' => e = .returned (.bool true) ∧ CC w1 w') := ⟨fun W hW => (label_any l0 W).mono fun e w' hp => ⟨by rw [hp.1, k0], hW.on hp.2⟩⟩
  have KB1 : Kept (∀ W, CC w1 W → Calls Try.prog 15 #[.string l1] W fun e w' => e = .returned (.bool false) ∧ CC w1 w') := ⟨fun W hW => (label_any l1 W).mono fun e w' hp => ⟨by rw [hp.1, k1], hW.on hp.2⟩⟩
  have KI2 : Kept (∀ W, CC w1 W → Calls Try.prog 26 #[.bool true, .int .i64 2] W fun e w' => e = .returned (.int .i64 2) ∧ CC w1 w') := ⟨fun W hW => (if_any true 2 W).mono fun e w' hp => ⟨hp.1, by rw [hp.2]; exact hW⟩⟩
  have KI3 : Kept (∀ W, CC w1 W → Calls Try.prog 26 #[.bool true, .int .i64 3] W fun e w' => e = .returned (.int .i64 3) ∧ CC w1 w') := ⟨fun W hW => (if_any true 3 W).mono fun e w' hp => ⟨hp.1, by rw [hp.2]; exact hW⟩⟩
  clear g0 k0 k1
  refine wp_region_part (C := CC w1) 21 3 #[true, true, true, true, true, true, true, true, true, true, true, true, true, true, true, true, true, true, true, true, true, true, false, false, false] (by kernel_rfl) (by kernel_rfl) (Below.refl _ _).drew ?_
  simp only [List.take_succ_cons, List.take_zero]
  go_big_quiet_step (fail)
  go_big_quiet_step ((intro hCw; exact KL0.out _ hCw))
  go_big_quiet_step (fail)
  go_big_quiet_step (fail)
  go_big_quiet_step (fail)
  go_big_quiet_step ((intro _; rfl))
  go_big_quiet_step (fail)
  go_big_quiet_step (fail)
  go_big_quiet_step (fail)
  go_big_quiet_step ((intro _; rfl))
  go_big_quiet_step ((intro hCw; exact KI2.out _ hCw))
  refine BigFrame.wpQuiet_want rfl (fun K hK => quiet_run (v := .pointer (some ⟨w.heap.size, 0, none⟩)) (fun W hW => by go_simp) (hK _ ?_))
  clear hK K
  simp only [Act.put, List.setIfInBounds_toArray, List.set_cons_zero, List.set_cons_succ]
  refine BigFrame.wpQuiet_want rfl (fun K hK => quiet_run (v := .string l0) (fun W hW => by have := (KX.out W hW).1; go_simp) (hK _ ?_))
  clear hK K
  simp only [Act.put, List.setIfInBounds_toArray, List.set_cons_zero, List.set_cons_succ]
  go_big_quiet_step ((intro hCw; exact KB0.out _ hCw))
  go_big_quiet_step ((intro _; rfl))
  go_big_quiet_step (fail)
  refine BigFrame.wpQuiet_want rfl (fun K hK => quiet_run (v := .pointer (some ⟨w.heap.size, 1, none⟩)) (fun W hW => by go_simp) (hK _ ?_))
  clear hK K
  simp only [Act.put, List.setIfInBounds_toArray, List.set_cons_zero, List.set_cons_succ]
  refine BigFrame.wpQuiet_want rfl (fun K hK => quiet_run (v := .string l1) (fun W hW => by have := (KX.out W hW).2.1; go_simp) (hK _ ?_))
  clear hK K
  simp only [Act.put, List.setIfInBounds_toArray, List.set_cons_zero, List.set_cons_succ]
  go_big_quiet_step ((intro hCw; exact KB1.out _ hCw))
  go_big_quiet_step ((intro _; rfl))
  go_big_quiet_step ((intro _; rfl))
  go_big_quiet_step ((intro hCw; exact KI3.out _ hCw))
  refine wpQuiet_nil ?_
  intro x1' hx1
  obtain ⟨x2', hx2⟩ : ∃ x2', x1'.alloc (.cells #[.int .i64 2, .int .i64 3] 26) = x2' := ⟨_, rfl⟩
  have hh2 : x2'.heap[x1'.heap.size]? = some (.cells #[.int .i64 2, .int .i64 3] 26) := by rw [← hx2]; exact heap_alloc_new x1' _
  have hBx2 : Below x1'.heap.size x1' x2' := by rw [← hx2]; exact (Below.refl _ _).alloc (Nat.le_refl _) _
  have hLs := least_two 2 3 x1'.heap.size x2' hh2
  rw [show lsF (lsF 0 2) 3 = 2 by decide] at hLs
  have KLa := Kept.mk hLs
  have KC2 : Kept (CC w1 x2') := ⟨CC.on hx1 hBx2⟩
  clear hh2 hBx2 hLs hx1 KI2 KI3 KB0 KL0
  refine An.wpAny_one (i := 22) (by kernel_rfl) rfl rfl (fun K hK => ?_)
  go_simp
  refine hK _ _ ?_
  clear hK K
  try rw [hx2]
  clear hx2
  refine An.wpAny_one (i := 23) (by kernel_rfl) rfl rfl (fun K hK => ?_)
  go_simp
  refine Calls.mono KLa.out (fun e x3 hp => ?_)
  obtain ⟨rfl, hx3⟩ := hp
  subst x3
  refine hK _ _ ?_
  clear hK K
  refine An.wpAny_one (i := 24) (by kernel_rfl) rfl rfl (fun K hK => ?_)
  go_simp
  refine hK _ _ ?_
  clear hK K
  refine wpAny_done (by kernel_rfl) (NoPanic.normal ?_) _
  go_wp2
  go_ret3
  rw [thM_bad KE.out (by decide)]
  exact ⟨_, rfl, Rd.nil _ _ _, AllIn.nil, (KX.out _ KC2.out).2.2⟩
set_option maxHeartbeats 4000000 in
set_option maxRecDepth 100000 in
theorem docE_t_tt (v0 v1 v2 : Value) (x0 x1 x2 : List Int) (l0 l1 : ByteArray) (w : World) (h0 : Rd .u8 anyB w v0 x0) (h1 : Rd .u8 anyB w v1 x1) (h2 : Rd .u8 anyB w v2 x2) (g0 : bigT x0 = true) (k0 : okL l0 = true) (k1 : okL l1 = true) :
    Calls Try.prog 13 #[v0, v1, v2, .agg #[.string l0, .string l1]] w fun e w' => DhE w (thM l0 l1 x0 x1 x2) e w' := by
  have hba := (Below.refl w.heap.size w).alloc (Nat.le_refl _) (.cells #[.string l0, .string l1] 23)
  obtain ⟨b0, b1⟩ := box2 (w := w) (x := .string l0) (y := .string l1) (T := 23)
  have K0 := Kept.mk h0
  have K1 := Kept.mk h1
  have K2 := Kept.mk h2
  obtain ⟨pa, ca, rfl, -⟩ := h0.form
  obtain ⟨pb, cb, rfl, -⟩ := h1.form
  obtain ⟨pd, cd, rfl, -⟩ := h2.form
  have KX : Kept (∀ W, CC (w.alloc (.cells #[.string l0, .string l1] 23)) W → W.cell? ⟨w.heap.size, 0, none⟩ = some (.string l0) ∧ W.cell? ⟨w.heap.size, 1, none⟩ = some (.string l1) ∧ Below w.heap.size w W) := ⟨fun W hW =>
    ⟨by rw [Below.cell hW (World.block_lt_of_cell? _ _ b0)]; exact b0, by rw [Below.cell hW (World.block_lt_of_cell? _ _ b1)]; exact b1, hba.trans (Below.mono hW hba.size)⟩⟩
  have KE : Kept (thE l0 l1 x0 x1 x2 = 2) := ⟨by unfold thE; simp [g0]⟩
  clear h0 h1 h2 hba b0 b1
  go_enter Try.func13, Try.ntmps13
  go_upto_region 1 with fail
  obtain ⟨w1, hw1⟩ : ∃ w1, w.alloc (.cells #[.string l0, .string l1] 23) = w1 := ⟨_, rfl⟩
  rw [hw1] at KX ⊢
  clear hw1
  have KL0 : Kept (∀ W, CC w1 W → Calls Try.prog 27 #[.slice pa x0.length ca] W fun e w' => e = .returned (.bool true) ∧ CC w1 w') := ⟨fun W hW => (long_doc _ x0 W (K0.out.later (KX.out W hW).2.2 (Nat.le_refl _))).mono fun e w' hp => ⟨by rw [hp.1, g0], by rw [hp.2]; exact hW⟩⟩
  have KB0 : Kept (∀ W, CC w1 W → Calls Try.prog 15 #[.string l0] W fun e w' => e = .returned (.bool true) ∧ CC w1 w') := ⟨fun W hW => (label_any l0 W).mono fun e w' hp => ⟨by rw [hp.1, k0], hW.on hp.2⟩⟩
  have KB1 : Kept (∀ W, CC w1 W → Calls Try.prog 15 #[.string l1] W fun e w' => e = .returned (.bool true) ∧ CC w1 w') := ⟨fun W hW => (label_any l1 W).mono fun e w' hp => ⟨by rw [hp.1, k1], hW.on hp.2⟩⟩
  have KI2 : Kept (∀ W, CC w1 W → Calls Try.prog 26 #[.bool true, .int .i64 2] W fun e w' => e = .returned (.int .i64 2) ∧ CC w1 w') := ⟨fun W hW => (if_any true 2 W).mono fun e w' hp => ⟨hp.1, by rw [hp.2]; exact hW⟩⟩
  have KI3 : Kept (∀ W, CC w1 W → Calls Try.prog 26 #[.bool false, .int .i64 3] W fun e w' => e = .returned (.int .i64 0) ∧ CC w1 w') := ⟨fun W hW => (if_any false 3 W).mono fun e w' hp => ⟨hp.1, by rw [hp.2]; exact hW⟩⟩
  clear g0 k0 k1
  refine wp_region_part (C := CC w1) 21 3 #[true, true, true, true, true, true, true, true, true, true, true, true, true, true, true, true, true, true, true, true, true, true, false, false, false] (by kernel_rfl) (by kernel_rfl) (Below.refl _ _).drew ?_
  simp only [List.take_succ_cons, List.take_zero]
  go_big_quiet_step (fail)
  go_big_quiet_step ((intro hCw; exact KL0.out _ hCw))
  go_big_quiet_step (fail)
  go_big_quiet_step (fail)
  go_big_quiet_step (fail)
  go_big_quiet_step ((intro _; rfl))
  go_big_quiet_step (fail)
  go_big_quiet_step (fail)
  go_big_quiet_step (fail)
  go_big_quiet_step ((intro _; rfl))
  go_big_quiet_step ((intro hCw; exact KI2.out _ hCw))
  refine BigFrame.wpQuiet_want rfl (fun K hK => quiet_run (v := .pointer (some ⟨w.heap.size, 0, none⟩)) (fun W hW => by go_simp) (hK _ ?_))
  clear hK K
  simp only [Act.put, List.setIfInBounds_toArray, List.set_cons_zero, List.set_cons_succ]
  refine BigFrame.wpQuiet_want rfl (fun K hK => quiet_run (v := .string l0) (fun W hW => by have := (KX.out W hW).1; go_simp) (hK _ ?_))
  clear hK K
  simp only [Act.put, List.setIfInBounds_toArray, List.set_cons_zero, List.set_cons_succ]
  go_big_quiet_step ((intro hCw; exact KB0.out _ hCw))
  go_big_quiet_step ((intro _; rfl))
  go_big_quiet_step (fail)
  refine BigFrame.wpQuiet_want rfl (fun K hK => quiet_run (v := .pointer (some ⟨w.heap.size, 1, none⟩)) (fun W hW => by go_simp) (hK _ ?_))
  clear hK K
  simp only [Act.put, List.setIfInBounds_toArray, List.set_cons_zero, List.set_cons_succ]
  refine BigFrame.wpQuiet_want rfl (fun K hK => quiet_run (v := .string l1) (fun W hW => by have := (KX.out W hW).2.1; go_simp) (hK _ ?_))
  clear hK K
  simp only [Act.put, List.setIfInBounds_toArray, List.set_cons_zero, List.set_cons_succ]
  go_big_quiet_step ((intro hCw; exact KB1.out _ hCw))
  go_big_quiet_step ((intro _; rfl))
  go_big_quiet_step ((intro _; rfl))
  go_big_quiet_step ((intro hCw; exact KI3.out _ hCw))
  refine wpQuiet_nil ?_
  intro x1' hx1
  obtain ⟨x2', hx2⟩ : ∃ x2', x1'.alloc (.cells #[.int .i64 2, .int .i64 0] 26) = x2' := ⟨_, rfl⟩
  have hh2 : x2'.heap[x1'.heap.size]? = some (.cells #[.int .i64 2, .int .i64 0] 26) := by rw [← hx2]; exact heap_alloc_new x1' _
  have hBx2 : Below x1'.heap.size x1' x2' := by rw [← hx2]; exact (Below.refl _ _).alloc (Nat.le_refl _) _
  have hLs := least_two 2 0 x1'.heap.size x2' hh2
  rw [show lsF (lsF 0 2) 0 = 2 by decide] at hLs
  have KLa := Kept.mk hLs
  have KC2 : Kept (CC w1 x2') := ⟨CC.on hx1 hBx2⟩
  clear hh2 hBx2 hLs hx1 KI2 KI3 KB0 KL0
  refine An.wpAny_one (i := 22) (by kernel_rfl) rfl rfl (fun K hK => ?_)
  go_simp
  refine hK _ _ ?_
  clear hK K
  try rw [hx2]
  clear hx2
  refine An.wpAny_one (i := 23) (by kernel_rfl) rfl rfl (fun K hK => ?_)
  go_simp
  refine Calls.mono KLa.out (fun e x3 hp => ?_)
  obtain ⟨rfl, hx3⟩ := hp
  subst x3
  refine hK _ _ ?_
  clear hK K
  refine An.wpAny_one (i := 24) (by kernel_rfl) rfl rfl (fun K hK => ?_)
  go_simp
  refine hK _ _ ?_
  clear hK K
  refine wpAny_done (by kernel_rfl) (NoPanic.normal ?_) _
  go_wp2
  go_ret3
  rw [thM_bad KE.out (by decide)]
  exact ⟨_, rfl, Rd.nil _ _ _, AllIn.nil, (KX.out _ KC2.out).2.2⟩
set_option maxHeartbeats 4000000 in
set_option maxRecDepth 100000 in
theorem docE_ft_f (v0 v1 v2 : Value) (x0 x1 x2 : List Int) (l0 l1 : ByteArray) (w : World) (h0 : Rd .u8 anyB w v0 x0) (h1 : Rd .u8 anyB w v1 x1) (h2 : Rd .u8 anyB w v2 x2) (g0 : bigT x0 = false) (g1 : bigT x1 = true) (k0 : okL l0 = false) :
    Calls Try.prog 13 #[v0, v1, v2, .agg #[.string l0, .string l1]] w fun e w' => DhE w (thM l0 l1 x0 x1 x2) e w' := by
  have hba := (Below.refl w.heap.size w).alloc (Nat.le_refl _) (.cells #[.string l0, .string l1] 23)
  obtain ⟨b0, b1⟩ := box2 (w := w) (x := .string l0) (y := .string l1) (T := 23)
  have K0 := Kept.mk h0
  have K1 := Kept.mk h1
  have K2 := Kept.mk h2
  obtain ⟨pa, ca, rfl, -⟩ := h0.form
  obtain ⟨pb, cb, rfl, -⟩ := h1.form
  obtain ⟨pd, cd, rfl, -⟩ := h2.form
  have KX : Kept (∀ W, CC (w.alloc (.cells #[.string l0, .string l1] 23)) W → W.cell? ⟨w.heap.size, 0, none⟩ = some (.string l0) ∧ W.cell? ⟨w.heap.size, 1, none⟩ = some (.string l1) ∧ Below w.heap.size w W) := ⟨fun W hW =>
    ⟨by rw [Below.cell hW (World.block_lt_of_cell? _ _ b0)]; exact b0, by rw [Below.cell hW (World.block_lt_of_cell? _ _ b1)]; exact b1, hba.trans (Below.mono hW hba.size)⟩⟩
  have KE : Kept (thE l0 l1 x0 x1 x2 = 2) := ⟨by unfold thE; simp [g0, g1]⟩
  clear h0 h1 h2 hba b0 b1
  go_enter Try.func13, Try.ntmps13
  go_upto_region 1 with fail
  obtain ⟨w1, hw1⟩ : ∃ w1, w.alloc (.cells #[.string l0, .string l1] 23) = w1 := ⟨_, rfl⟩
  rw [hw1] at KX ⊢
  clear hw1
  have KL0 : Kept (∀ W, CC w1 W → Calls Try.prog 27 #[.slice pa x0.length ca] W fun e w' => e = .returned (.bool false) ∧ CC w1 w') := ⟨fun W hW => (long_doc _ x0 W (K0.out.later (KX.out W hW).2.2 (Nat.le_refl _))).mono fun e w' hp => ⟨by rw [hp.1, g0], by rw [hp.2]; exact hW⟩⟩
  have KL1 : Kept (∀ W, CC w1 W → Calls Try.prog 27 #[.slice pb x1.length cb] W fun e w' => e = .returned (.bool true) ∧ CC w1 w') := ⟨fun W hW => (long_doc _ x1 W (K1.out.later (KX.out W hW).2.2 (Nat.le_refl _))).mono fun e w' hp => ⟨by rw [hp.1, g1], by rw [hp.2]; exact hW⟩⟩
  have KB0 : Kept (∀ W, CC w1 W → Calls Try.prog 15 #[.string l0] W fun e w' => e = .returned (.bool false) ∧ CC w1 w') := ⟨fun W hW => (label_any l0 W).mono fun e w' hp => ⟨by rw [hp.1, k0], hW.on hp.2⟩⟩
  have KI2 : Kept (∀ W, CC w1 W → Calls Try.prog 26 #[.bool true, .int .i64 2] W fun e w' => e = .returned (.int .i64 2) ∧ CC w1 w') := ⟨fun W hW => (if_any true 2 W).mono fun e w' hp => ⟨hp.1, by rw [hp.2]; exact hW⟩⟩
  have KI3 : Kept (∀ W, CC w1 W → Calls Try.prog 26 #[.bool true, .int .i64 3] W fun e w' => e = .returned (.int .i64 3) ∧ CC w1 w') := ⟨fun W hW => (if_any true 3 W).mono fun e w' hp => ⟨hp.1, by rw [hp.2]; exact hW⟩⟩
  clear g0 g1 k0
  refine wp_region_part (C := CC w1) 21 3 #[true, true, true, true, true, true, true, true, true, true, true, true, true, true, true, true, true, true, true, true, true, true, false, false, false] (by kernel_rfl) (by kernel_rfl) (Below.refl _ _).drew ?_
  simp only [List.take_succ_cons, List.take_zero]
  go_big_quiet_step (fail)
  go_big_quiet_step ((intro hCw; exact KL0.out _ hCw))
  go_big_quiet_step (fail)
  go_big_quiet_step (fail)
  go_big_quiet_step ((intro hCw; exact KL1.out _ hCw))
  go_big_quiet_step ((intro _; rfl))
  go_big_quiet_step (fail)
  go_big_quiet_step (fail)
  go_big_quiet_step (fail)
  go_big_quiet_step ((intro _; rfl))
  go_big_quiet_step ((intro hCw; exact KI2.out _ hCw))
  refine BigFrame.wpQuiet_want rfl (fun K hK => quiet_run (v := .pointer (some ⟨w.heap.size, 0, none⟩)) (fun W hW => by go_simp) (hK _ ?_))
  clear hK K
  simp only [Act.put, List.setIfInBounds_toArray, List.set_cons_zero, List.set_cons_succ]
  refine BigFrame.wpQuiet_want rfl (fun K hK => quiet_run (v := .string l0) (fun W hW => by have := (KX.out W hW).1; go_simp) (hK _ ?_))
  clear hK K
  simp only [Act.put, List.setIfInBounds_toArray, List.set_cons_zero, List.set_cons_succ]
  go_big_quiet_step ((intro hCw; exact KB0.out _ hCw))
  go_big_quiet_step ((intro _; rfl))
  go_big_quiet_step (fail)
  go_big_quiet_step (fail)
  go_big_quiet_step (fail)
  go_big_quiet_step (fail)
  go_big_quiet_step (fail)
  go_big_quiet_step ((intro _; rfl))
  go_big_quiet_step ((intro hCw; exact KI3.out _ hCw))
  refine wpQuiet_nil ?_
  intro x1' hx1
  obtain ⟨x2', hx2⟩ : ∃ x2', x1'.alloc (.cells #[.int .i64 2, .int .i64 3] 26) = x2' := ⟨_, rfl⟩
  have hh2 : x2'.heap[x1'.heap.size]? = some (.cells #[.int .i64 2, .int .i64 3] 26) := by rw [← hx2]; exact heap_alloc_new x1' _
  have hBx2 : Below x1'.heap.size x1' x2' := by rw [← hx2]; exact (Below.refl _ _).alloc (Nat.le_refl _) _
  have hLs := least_two 2 3 x1'.heap.size x2' hh2
  rw [show lsF (lsF 0 2) 3 = 2 by decide] at hLs
  have KLa := Kept.mk hLs
  have KC2 : Kept (CC w1 x2') := ⟨CC.on hx1 hBx2⟩
  clear hh2 hBx2 hLs hx1 KI2 KI3 KB0 KL0
  refine An.wpAny_one (i := 22) (by kernel_rfl) rfl rfl (fun K hK => ?_)
  go_simp
  refine hK _ _ ?_
  clear hK K
  try rw [hx2]
  clear hx2
  refine An.wpAny_one (i := 23) (by kernel_rfl) rfl rfl (fun K hK => ?_)
  go_simp
  refine Calls.mono KLa.out (fun e x3 hp => ?_)
  obtain ⟨rfl, hx3⟩ := hp
  subst x3
  refine hK _ _ ?_
  clear hK K
  refine An.wpAny_one (i := 24) (by kernel_rfl) rfl rfl (fun K hK => ?_)
  go_simp
  refine hK _ _ ?_
  clear hK K
  refine wpAny_done (by kernel_rfl) (NoPanic.normal ?_) _
  go_wp2
  go_ret3
  rw [thM_bad KE.out (by decide)]
  exact ⟨_, rfl, Rd.nil _ _ _, AllIn.nil, (KX.out _ KC2.out).2.2⟩
set_option maxHeartbeats 4000000 in
set_option maxRecDepth 100000 in
theorem docE_ft_tf (v0 v1 v2 : Value) (x0 x1 x2 : List Int) (l0 l1 : ByteArray) (w : World) (h0 : Rd .u8 anyB w v0 x0) (h1 : Rd .u8 anyB w v1 x1) (h2 : Rd .u8 anyB w v2 x2) (g0 : bigT x0 = false) (g1 : bigT x1 = true) (k0 : okL l0 = true) (k1 : okL l1 = false) :
    Calls Try.prog 13 #[v0, v1, v2, .agg #[.string l0, .string l1]] w fun e w' => DhE w (thM l0 l1 x0 x1 x2) e w' := by
  have hba := (Below.refl w.heap.size w).alloc (Nat.le_refl _) (.cells #[.string l0, .string l1] 23)
  obtain ⟨b0, b1⟩ := box2 (w := w) (x := .string l0) (y := .string l1) (T := 23)
  have K0 := Kept.mk h0
  have K1 := Kept.mk h1
  have K2 := Kept.mk h2
  obtain ⟨pa, ca, rfl, -⟩ := h0.form
  obtain ⟨pb, cb, rfl, -⟩ := h1.form
  obtain ⟨pd, cd, rfl, -⟩ := h2.form
  have KX : Kept (∀ W, CC (w.alloc (.cells #[.string l0, .string l1] 23)) W → W.cell? ⟨w.heap.size, 0, none⟩ = some (.string l0) ∧ W.cell? ⟨w.heap.size, 1, none⟩ = some (.string l1) ∧ Below w.heap.size w W) := ⟨fun W hW =>
    ⟨by rw [Below.cell hW (World.block_lt_of_cell? _ _ b0)]; exact b0, by rw [Below.cell hW (World.block_lt_of_cell? _ _ b1)]; exact b1, hba.trans (Below.mono hW hba.size)⟩⟩
  have KE : Kept (thE l0 l1 x0 x1 x2 = 2) := ⟨by unfold thE; simp [g0, g1]⟩
  clear h0 h1 h2 hba b0 b1
  go_enter Try.func13, Try.ntmps13
  go_upto_region 1 with fail
  obtain ⟨w1, hw1⟩ : ∃ w1, w.alloc (.cells #[.string l0, .string l1] 23) = w1 := ⟨_, rfl⟩
  rw [hw1] at KX ⊢
  clear hw1
  have KL0 : Kept (∀ W, CC w1 W → Calls Try.prog 27 #[.slice pa x0.length ca] W fun e w' => e = .returned (.bool false) ∧ CC w1 w') := ⟨fun W hW => (long_doc _ x0 W (K0.out.later (KX.out W hW).2.2 (Nat.le_refl _))).mono fun e w' hp => ⟨by rw [hp.1, g0], by rw [hp.2]; exact hW⟩⟩
  have KL1 : Kept (∀ W, CC w1 W → Calls Try.prog 27 #[.slice pb x1.length cb] W fun e w' => e = .returned (.bool true) ∧ CC w1 w') := ⟨fun W hW => (long_doc _ x1 W (K1.out.later (KX.out W hW).2.2 (Nat.le_refl _))).mono fun e w' hp => ⟨by rw [hp.1, g1], by rw [hp.2]; exact hW⟩⟩
  have KB0 : Kept (∀ W, CC w1 W → Calls Try.prog 15 #[.string l0] W fun e w' => e = .returned (.bool true) ∧ CC w1 w') := ⟨fun W hW => (label_any l0 W).mono fun e w' hp => ⟨by rw [hp.1, k0], hW.on hp.2⟩⟩
  have KB1 : Kept (∀ W, CC w1 W → Calls Try.prog 15 #[.string l1] W fun e w' => e = .returned (.bool false) ∧ CC w1 w') := ⟨fun W hW => (label_any l1 W).mono fun e w' hp => ⟨by rw [hp.1, k1], hW.on hp.2⟩⟩
  have KI2 : Kept (∀ W, CC w1 W → Calls Try.prog 26 #[.bool true, .int .i64 2] W fun e w' => e = .returned (.int .i64 2) ∧ CC w1 w') := ⟨fun W hW => (if_any true 2 W).mono fun e w' hp => ⟨hp.1, by rw [hp.2]; exact hW⟩⟩
  have KI3 : Kept (∀ W, CC w1 W → Calls Try.prog 26 #[.bool true, .int .i64 3] W fun e w' => e = .returned (.int .i64 3) ∧ CC w1 w') := ⟨fun W hW => (if_any true 3 W).mono fun e w' hp => ⟨hp.1, by rw [hp.2]; exact hW⟩⟩
  clear g0 g1 k0 k1
  refine wp_region_part (C := CC w1) 21 3 #[true, true, true, true, true, true, true, true, true, true, true, true, true, true, true, true, true, true, true, true, true, true, false, false, false] (by kernel_rfl) (by kernel_rfl) (Below.refl _ _).drew ?_
  simp only [List.take_succ_cons, List.take_zero]
  go_big_quiet_step (fail)
  go_big_quiet_step ((intro hCw; exact KL0.out _ hCw))
  go_big_quiet_step (fail)
  go_big_quiet_step (fail)
  go_big_quiet_step ((intro hCw; exact KL1.out _ hCw))
  go_big_quiet_step ((intro _; rfl))
  go_big_quiet_step (fail)
  go_big_quiet_step (fail)
  go_big_quiet_step (fail)
  go_big_quiet_step ((intro _; rfl))
  go_big_quiet_step ((intro hCw; exact KI2.out _ hCw))
  refine BigFrame.wpQuiet_want rfl (fun K hK => quiet_run (v := .pointer (some ⟨w.heap.size, 0, none⟩)) (fun W hW => by go_simp) (hK _ ?_))
  clear hK K
  simp only [Act.put, List.setIfInBounds_toArray, List.set_cons_zero, List.set_cons_succ]
  refine BigFrame.wpQuiet_want rfl (fun K hK => quiet_run (v := .string l0) (fun W hW => by have := (KX.out W hW).1; go_simp) (hK _ ?_))
  clear hK K
  simp only [Act.put, List.setIfInBounds_toArray, List.set_cons_zero, List.set_cons_succ]
  go_big_quiet_step ((intro hCw; exact KB0.out _ hCw))
  go_big_quiet_step ((intro _; rfl))
  go_big_quiet_step (fail)
  refine BigFrame.wpQuiet_want rfl (fun K hK => quiet_run (v := .pointer (some ⟨w.heap.size, 1, none⟩)) (fun W hW => by go_simp) (hK _ ?_))
  clear hK K
  simp only [Act.put, List.setIfInBounds_toArray, List.set_cons_zero, List.set_cons_succ]
  refine BigFrame.wpQuiet_want rfl (fun K hK => quiet_run (v := .string l1) (fun W hW => by have := (KX.out W hW).2.1; go_simp) (hK _ ?_))
  clear hK K
  simp only [Act.put, List.setIfInBounds_toArray, List.set_cons_zero, List.set_cons_succ]
  go_big_quiet_step ((intro hCw; exact KB1.out _ hCw))
  go_big_quiet_step ((intro _; rfl))
  go_big_quiet_step ((intro _; rfl))
  go_big_quiet_step ((intro hCw; exact KI3.out _ hCw))
  refine wpQuiet_nil ?_
  intro x1' hx1
  obtain ⟨x2', hx2⟩ : ∃ x2', x1'.alloc (.cells #[.int .i64 2, .int .i64 3] 26) = x2' := ⟨_, rfl⟩
  have hh2 : x2'.heap[x1'.heap.size]? = some (.cells #[.int .i64 2, .int .i64 3] 26) := by rw [← hx2]; exact heap_alloc_new x1' _
  have hBx2 : Below x1'.heap.size x1' x2' := by rw [← hx2]; exact (Below.refl _ _).alloc (Nat.le_refl _) _
  have hLs := least_two 2 3 x1'.heap.size x2' hh2
  rw [show lsF (lsF 0 2) 3 = 2 by decide] at hLs
  have KLa := Kept.mk hLs
  have KC2 : Kept (CC w1 x2') := ⟨CC.on hx1 hBx2⟩
  clear hh2 hBx2 hLs hx1 KI2 KI3 KB0 KL0
  refine An.wpAny_one (i := 22) (by kernel_rfl) rfl rfl (fun K hK => ?_)
  go_simp
  refine hK _ _ ?_
  clear hK K
  try rw [hx2]
  clear hx2
  refine An.wpAny_one (i := 23) (by kernel_rfl) rfl rfl (fun K hK => ?_)
  go_simp
  refine Calls.mono KLa.out (fun e x3 hp => ?_)
  obtain ⟨rfl, hx3⟩ := hp
  subst x3
  refine hK _ _ ?_
  clear hK K
  refine An.wpAny_one (i := 24) (by kernel_rfl) rfl rfl (fun K hK => ?_)
  go_simp
  refine hK _ _ ?_
  clear hK K
  refine wpAny_done (by kernel_rfl) (NoPanic.normal ?_) _
  go_wp2
  go_ret3
  rw [thM_bad KE.out (by decide)]
  exact ⟨_, rfl, Rd.nil _ _ _, AllIn.nil, (KX.out _ KC2.out).2.2⟩
set_option maxHeartbeats 4000000 in
set_option maxRecDepth 100000 in
theorem docE_ft_tt (v0 v1 v2 : Value) (x0 x1 x2 : List Int) (l0 l1 : ByteArray) (w : World) (h0 : Rd .u8 anyB w v0 x0) (h1 : Rd .u8 anyB w v1 x1) (h2 : Rd .u8 anyB w v2 x2) (g0 : bigT x0 = false) (g1 : bigT x1 = true) (k0 : okL l0 = true) (k1 : okL l1 = true) :
    Calls Try.prog 13 #[v0, v1, v2, .agg #[.string l0, .string l1]] w fun e w' => DhE w (thM l0 l1 x0 x1 x2) e w' := by
  have hba := (Below.refl w.heap.size w).alloc (Nat.le_refl _) (.cells #[.string l0, .string l1] 23)
  obtain ⟨b0, b1⟩ := box2 (w := w) (x := .string l0) (y := .string l1) (T := 23)
  have K0 := Kept.mk h0
  have K1 := Kept.mk h1
  have K2 := Kept.mk h2
  obtain ⟨pa, ca, rfl, -⟩ := h0.form
  obtain ⟨pb, cb, rfl, -⟩ := h1.form
  obtain ⟨pd, cd, rfl, -⟩ := h2.form
  have KX : Kept (∀ W, CC (w.alloc (.cells #[.string l0, .string l1] 23)) W → W.cell? ⟨w.heap.size, 0, none⟩ = some (.string l0) ∧ W.cell? ⟨w.heap.size, 1, none⟩ = some (.string l1) ∧ Below w.heap.size w W) := ⟨fun W hW =>
    ⟨by rw [Below.cell hW (World.block_lt_of_cell? _ _ b0)]; exact b0, by rw [Below.cell hW (World.block_lt_of_cell? _ _ b1)]; exact b1, hba.trans (Below.mono hW hba.size)⟩⟩
  have KE : Kept (thE l0 l1 x0 x1 x2 = 2) := ⟨by unfold thE; simp [g0, g1]⟩
  clear h0 h1 h2 hba b0 b1
  go_enter Try.func13, Try.ntmps13
  go_upto_region 1 with fail
  obtain ⟨w1, hw1⟩ : ∃ w1, w.alloc (.cells #[.string l0, .string l1] 23) = w1 := ⟨_, rfl⟩
  rw [hw1] at KX ⊢
  clear hw1
  have KL0 : Kept (∀ W, CC w1 W → Calls Try.prog 27 #[.slice pa x0.length ca] W fun e w' => e = .returned (.bool false) ∧ CC w1 w') := ⟨fun W hW => (long_doc _ x0 W (K0.out.later (KX.out W hW).2.2 (Nat.le_refl _))).mono fun e w' hp => ⟨by rw [hp.1, g0], by rw [hp.2]; exact hW⟩⟩
  have KL1 : Kept (∀ W, CC w1 W → Calls Try.prog 27 #[.slice pb x1.length cb] W fun e w' => e = .returned (.bool true) ∧ CC w1 w') := ⟨fun W hW => (long_doc _ x1 W (K1.out.later (KX.out W hW).2.2 (Nat.le_refl _))).mono fun e w' hp => ⟨by rw [hp.1, g1], by rw [hp.2]; exact hW⟩⟩
  have KB0 : Kept (∀ W, CC w1 W → Calls Try.prog 15 #[.string l0] W fun e w' => e = .returned (.bool true) ∧ CC w1 w') := ⟨fun W hW => (label_any l0 W).mono fun e w' hp => ⟨by rw [hp.1, k0], hW.on hp.2⟩⟩
  have KB1 : Kept (∀ W, CC w1 W → Calls Try.prog 15 #[.string l1] W fun e w' => e = .returned (.bool true) ∧ CC w1 w') := ⟨fun W hW => (label_any l1 W).mono fun e w' hp => ⟨by rw [hp.1, k1], hW.on hp.2⟩⟩
  have KI2 : Kept (∀ W, CC w1 W → Calls Try.prog 26 #[.bool true, .int .i64 2] W fun e w' => e = .returned (.int .i64 2) ∧ CC w1 w') := ⟨fun W hW => (if_any true 2 W).mono fun e w' hp => ⟨hp.1, by rw [hp.2]; exact hW⟩⟩
  have KI3 : Kept (∀ W, CC w1 W → Calls Try.prog 26 #[.bool false, .int .i64 3] W fun e w' => e = .returned (.int .i64 0) ∧ CC w1 w') := ⟨fun W hW => (if_any false 3 W).mono fun e w' hp => ⟨hp.1, by rw [hp.2]; exact hW⟩⟩
  clear g0 g1 k0 k1
  refine wp_region_part (C := CC w1) 21 3 #[true, true, true, true, true, true, true, true, true, true, true, true, true, true, true, true, true, true, true, true, true, true, false, false, false] (by kernel_rfl) (by kernel_rfl) (Below.refl _ _).drew ?_
  simp only [List.take_succ_cons, List.take_zero]
  go_big_quiet_step (fail)
  go_big_quiet_step ((intro hCw; exact KL0.out _ hCw))
  go_big_quiet_step (fail)
  go_big_quiet_step (fail)
  go_big_quiet_step ((intro hCw; exact KL1.out _ hCw))
  go_big_quiet_step ((intro _; rfl))
  go_big_quiet_step (fail)
  go_big_quiet_step (fail)
  go_big_quiet_step (fail)
  go_big_quiet_step ((intro _; rfl))
  go_big_quiet_step ((intro hCw; exact KI2.out _ hCw))
  refine BigFrame.wpQuiet_want rfl (fun K hK => quiet_run (v := .pointer (some ⟨w.heap.size, 0, none⟩)) (fun W hW => by go_simp) (hK _ ?_))
  clear hK K
  simp only [Act.put, List.setIfInBounds_toArray, List.set_cons_zero, List.set_cons_succ]
  refine BigFrame.wpQuiet_want rfl (fun K hK => quiet_run (v := .string l0) (fun W hW => by have := (KX.out W hW).1; go_simp) (hK _ ?_))
  clear hK K
  simp only [Act.put, List.setIfInBounds_toArray, List.set_cons_zero, List.set_cons_succ]
  go_big_quiet_step ((intro hCw; exact KB0.out _ hCw))
  go_big_quiet_step ((intro _; rfl))
  go_big_quiet_step (fail)
  refine BigFrame.wpQuiet_want rfl (fun K hK => quiet_run (v := .pointer (some ⟨w.heap.size, 1, none⟩)) (fun W hW => by go_simp) (hK _ ?_))
  clear hK K
  simp only [Act.put, List.setIfInBounds_toArray, List.set_cons_zero, List.set_cons_succ]
  refine BigFrame.wpQuiet_want rfl (fun K hK => quiet_run (v := .string l1) (fun W hW => by have := (KX.out W hW).2.1; go_simp) (hK _ ?_))
  clear hK K
  simp only [Act.put, List.setIfInBounds_toArray, List.set_cons_zero, List.set_cons_succ]
  go_big_quiet_step ((intro hCw; exact KB1.out _ hCw))
  go_big_quiet_step ((intro _; rfl))
  go_big_quiet_step ((intro _; rfl))
  go_big_quiet_step ((intro hCw; exact KI3.out _ hCw))
  refine wpQuiet_nil ?_
  intro x1' hx1
  obtain ⟨x2', hx2⟩ : ∃ x2', x1'.alloc (.cells #[.int .i64 2, .int .i64 0] 26) = x2' := ⟨_, rfl⟩
  have hh2 : x2'.heap[x1'.heap.size]? = some (.cells #[.int .i64 2, .int .i64 0] 26) := by rw [← hx2]; exact heap_alloc_new x1' _
  have hBx2 : Below x1'.heap.size x1' x2' := by rw [← hx2]; exact (Below.refl _ _).alloc (Nat.le_refl _) _
  have hLs := least_two 2 0 x1'.heap.size x2' hh2
  rw [show lsF (lsF 0 2) 0 = 2 by decide] at hLs
  have KLa := Kept.mk hLs
  have KC2 : Kept (CC w1 x2') := ⟨CC.on hx1 hBx2⟩
  clear hh2 hBx2 hLs hx1 KI2 KI3 KB0 KL0
  refine An.wpAny_one (i := 22) (by kernel_rfl) rfl rfl (fun K hK => ?_)
  go_simp
  refine hK _ _ ?_
  clear hK K
  try rw [hx2]
  clear hx2
  refine An.wpAny_one (i := 23) (by kernel_rfl) rfl rfl (fun K hK => ?_)
  go_simp
  refine Calls.mono KLa.out (fun e x3 hp => ?_)
  obtain ⟨rfl, hx3⟩ := hp
  subst x3
  refine hK _ _ ?_
  clear hK K
  refine An.wpAny_one (i := 24) (by kernel_rfl) rfl rfl (fun K hK => ?_)
  go_simp
  refine hK _ _ ?_
  clear hK K
  refine wpAny_done (by kernel_rfl) (NoPanic.normal ?_) _
  go_wp2
  go_ret3
  rw [thM_bad KE.out (by decide)]
  exact ⟨_, rfl, Rd.nil _ _ _, AllIn.nil, (KX.out _ KC2.out).2.2⟩
set_option maxHeartbeats 4000000 in
set_option maxRecDepth 100000 in
theorem docE_fft_f (v0 v1 v2 : Value) (x0 x1 x2 : List Int) (l0 l1 : ByteArray) (w : World) (h0 : Rd .u8 anyB w v0 x0) (h1 : Rd .u8 anyB w v1 x1) (h2 : Rd .u8 anyB w v2 x2) (g0 : bigT x0 = false) (g1 : bigT x1 = false) (g2 : bigT x2 = true) (k0 : okL l0 = false) :
    Calls Try.prog 13 #[v0, v1, v2, .agg #[.string l0, .string l1]] w fun e w' => DhE w (thM l0 l1 x0 x1 x2) e w' := by
  have hba := (Below.refl w.heap.size w).alloc (Nat.le_refl _) (.cells #[.string l0, .string l1] 23)
  obtain ⟨b0, b1⟩ := box2 (w := w) (x := .string l0) (y := .string l1) (T := 23)
  have K0 := Kept.mk h0
  have K1 := Kept.mk h1
  have K2 := Kept.mk h2
  obtain ⟨pa, ca, rfl, -⟩ := h0.form
  obtain ⟨pb, cb, rfl, -⟩ := h1.form
  obtain ⟨pd, cd, rfl, -⟩ := h2.form
  have KX : Kept (∀ W, CC (w.alloc (.cells #[.string l0, .string l1] 23)) W → W.cell? ⟨w.heap.size, 0, none⟩ = some (.string l0) ∧ W.cell? ⟨w.heap.size, 1, none⟩ = some (.string l1) ∧ Below w.heap.size w W) := ⟨fun W hW =>
    ⟨by rw [Below.cell hW (World.block_lt_of_cell? _ _ b0)]; exact b0, by rw [Below.cell hW (World.block_lt_of_cell? _ _ b1)]; exact b1, hba.trans (Below.mono hW hba.size)⟩⟩
  have KE : Kept (thE l0 l1 x0 x1 x2 = 2) := ⟨by unfold thE; simp [g0, g1, g2]⟩
  clear h0 h1 h2 hba b0 b1
  go_enter Try.func13, Try.ntmps13
  go_upto_region 1 with fail
  obtain ⟨w1, hw1⟩ : ∃ w1, w.alloc (.cells #[.string l0, .string l1] 23) = w1 := ⟨_, rfl⟩
  rw [hw1] at KX ⊢
  clear hw1
  have KL0 : Kept (∀ W, CC w1 W → Calls Try.prog 27 #[.slice pa x0.length ca] W fun e w' => e = .returned (.bool false) ∧ CC w1 w') := ⟨fun W hW => (long_doc _ x0 W (K0.out.later (KX.out W hW).2.2 (Nat.le_refl _))).mono fun e w' hp => ⟨by rw [hp.1, g0], by rw [hp.2]; exact hW⟩⟩
  have KL1 : Kept (∀ W, CC w1 W → Calls Try.prog 27 #[.slice pb x1.length cb] W fun e w' => e = .returned (.bool false) ∧ CC w1 w') := ⟨fun W hW => (long_doc _ x1 W (K1.out.later (KX.out W hW).2.2 (Nat.le_refl _))).mono fun e w' hp => ⟨by rw [hp.1, g1], by rw [hp.2]; exact hW⟩⟩
  have KL2 : Kept (∀ W, CC w1 W → Calls Try.prog 27 #[.slice pd x2.length cd] W fun e w' => e = .returned (.bool true) ∧ CC w1 w') := ⟨fun W hW => (long_doc _ x2 W (K2.out.later (KX.out W hW).2.2 (Nat.le_refl _))).mono fun e w' hp => ⟨by rw [hp.1, g2], by rw [hp.2]; exact hW⟩⟩
  have KB0 : Kept (∀ W, CC w1 W → Calls Try.prog 15 #[.string l0] W fun e w' => e = .returned (.bool false) ∧ CC w1 w') := ⟨fun W hW => (label_any l0 W).mono fun e w' hp => ⟨by rw [hp.1, k0], hW.on hp.2⟩⟩
  have KI2 : Kept (∀ W, CC w1 W → Calls Try.prog 26 #[.bool true, .int .i64 2] W fun e w' => e = .returned (.int .i64 2) ∧ CC w1 w') := ⟨fun W hW => (if_any true 2 W).mono fun e w' hp => ⟨hp.1, by rw [hp.2]; exact hW⟩⟩
  have KI3 : Kept (∀ W, CC w1 W → Calls Try.prog 26 #[.bool true, .int .i64 3] W fun e w' => e = .returned (.int .i64 3) ∧ CC w1 w') := ⟨fun W hW => (if_any true 3 W).mono fun e w' hp => ⟨hp.1, by rw [hp.2]; exact hW⟩⟩
  clear g0 g1 g2 k0
  refine wp_region_part (C := CC w1) 21 3 #[true, true, true, true, true, true, true, true, true, true, true, true, true, true, true, true, true, true, true, true, true, true, false, false, false] (by kernel_rfl) (by kernel_rfl) (Below.refl _ _).drew ?_
  simp only [List.take_succ_cons, List.take_zero]
  go_big_quiet_step (fail)
  go_big_quiet_step ((intro hCw; exact KL0.out _ hCw))
  go_big_quiet_step (fail)
  go_big_quiet_step (fail)
  go_big_quiet_step ((intro hCw; exact KL1.out _ hCw))
  go_big_quiet_step ((intro _; rfl))
  go_big_quiet_step (fail)
  go_big_quiet_step (fail)
  go_big_quiet_step ((intro hCw; exact KL2.out _ hCw))
  go_big_quiet_step ((intro _; rfl))
  go_big_quiet_step ((intro hCw; exact KI2.out _ hCw))
  refine BigFrame.wpQuiet_want rfl (fun K hK => quiet_run (v := .pointer (some ⟨w.heap.size, 0, none⟩)) (fun W hW => by go_simp) (hK _ ?_))
  clear hK K
  simp only [Act.put, List.setIfInBounds_toArray, List.set_cons_zero, List.set_cons_succ]
  refine BigFrame.wpQuiet_want rfl (fun K hK => quiet_run (v := .string l0) (fun W hW => by have := (KX.out W hW).1; go_simp) (hK _ ?_))
  clear hK K
  simp only [Act.put, List.setIfInBounds_toArray, List.set_cons_zero, List.set_cons_succ]
  go_big_quiet_step ((intro hCw; exact KB0.out _ hCw))
  go_big_quiet_step ((intro _; rfl))
  go_big_quiet_step (fail)
  go_big_quiet_step (fail)
  go_big_quiet_step (fail)
  go_big_quiet_step (fail)
  go_big_quiet_step (fail)
  go_big_quiet_step ((intro _; rfl))
  go_big_quiet_step ((intro hCw; exact KI3.out _ hCw))
  refine wpQuiet_nil ?_
  intro x1' hx1
  obtain ⟨x2', hx2⟩ : ∃ x2', x1'.alloc (.cells #[.int .i64 2, .int .i64 3] 26) = x2' := ⟨_, rfl⟩
  have hh2 : x2'.heap[x1'.heap.size]? = some (.cells #[.int .i64 2, .int .i64 3] 26) := by rw [← hx2]; exact heap_alloc_new x1' _
  have hBx2 : Below x1'.heap.size x1' x2' := by rw [← hx2]; exact (Below.refl _ _).alloc (Nat.le_refl _) _
  have hLs := least_two 2 3 x1'.heap.size x2' hh2
  rw [show lsF (lsF 0 2) 3 = 2 by decide] at hLs
  have KLa := Kept.mk hLs
  have KC2 : Kept (CC w1 x2') := ⟨CC.on hx1 hBx2⟩
  clear hh2 hBx2 hLs hx1 KI2 KI3 KB0 KL0
  refine An.wpAny_one (i := 22) (by kernel_rfl) rfl rfl (fun K hK => ?_)
  go_simp
  refine hK _ _ ?_
  clear hK K
  try rw [hx2]
  clear hx2
  refine An.wpAny_one (i := 23) (by kernel_rfl) rfl rfl (fun K hK => ?_)
  go_simp
  refine Calls.mono KLa.out (fun e x3 hp => ?_)
  obtain ⟨rfl, hx3⟩ := hp
  subst x3
  refine hK _ _ ?_
  clear hK K
  refine An.wpAny_one (i := 24) (by kernel_rfl) rfl rfl (fun K hK => ?_)
  go_simp
  refine hK _ _ ?_
  clear hK K
  refine wpAny_done (by kernel_rfl) (NoPanic.normal ?_) _
  go_wp2
  go_ret3
  rw [thM_bad KE.out (by decide)]
  exact ⟨_, rfl, Rd.nil _ _ _, AllIn.nil, (KX.out _ KC2.out).2.2⟩
set_option maxHeartbeats 4000000 in
set_option maxRecDepth 100000 in
theorem docE_fft_tf (v0 v1 v2 : Value) (x0 x1 x2 : List Int) (l0 l1 : ByteArray) (w : World) (h0 : Rd .u8 anyB w v0 x0) (h1 : Rd .u8 anyB w v1 x1) (h2 : Rd .u8 anyB w v2 x2) (g0 : bigT x0 = false) (g1 : bigT x1 = false) (g2 : bigT x2 = true) (k0 : okL l0 = true) (k1 : okL l1 = false) :
    Calls Try.prog 13 #[v0, v1, v2, .agg #[.string l0, .string l1]] w fun e w' => DhE w (thM l0 l1 x0 x1 x2) e w' := by
  have hba := (Below.refl w.heap.size w).alloc (Nat.le_refl _) (.cells #[.string l0, .string l1] 23)
  obtain ⟨b0, b1⟩ := box2 (w := w) (x := .string l0) (y := .string l1) (T := 23)
  have K0 := Kept.mk h0
  have K1 := Kept.mk h1
  have K2 := Kept.mk h2
  obtain ⟨pa, ca, rfl, -⟩ := h0.form
  obtain ⟨pb, cb, rfl, -⟩ := h1.form
  obtain ⟨pd, cd, rfl, -⟩ := h2.form
  have KX : Kept (∀ W, CC (w.alloc (.cells #[.string l0, .string l1] 23)) W → W.cell? ⟨w.heap.size, 0, none⟩ = some (.string l0) ∧ W.cell? ⟨w.heap.size, 1, none⟩ = some (.string l1) ∧ Below w.heap.size w W) := ⟨fun W hW =>
    ⟨by rw [Below.cell hW (World.block_lt_of_cell? _ _ b0)]; exact b0, by rw [Below.cell hW (World.block_lt_of_cell? _ _ b1)]; exact b1, hba.trans (Below.mono hW hba.size)⟩⟩
  have KE : Kept (thE l0 l1 x0 x1 x2 = 2) := ⟨by unfold thE; simp [g0, g1, g2]⟩
  clear h0 h1 h2 hba b0 b1
  go_enter Try.func13, Try.ntmps13
  go_upto_region 1 with fail
  obtain ⟨w1, hw1⟩ : ∃ w1, w.alloc (.cells #[.string l0, .string l1] 23) = w1 := ⟨_, rfl⟩
  rw [hw1] at KX ⊢
  clear hw1
  have KL0 : Kept (∀ W, CC w1 W → Calls Try.prog 27 #[.slice pa x0.length ca] W fun e w' => e = .returned (.bool false) ∧ CC w1 w') := ⟨fun W hW => (long_doc _ x0 W (K0.out.later (KX.out W hW).2.2 (Nat.le_refl _))).mono fun e w' hp => ⟨by rw [hp.1, g0], by rw [hp.2]; exact hW⟩⟩
  have KL1 : Kept (∀ W, CC w1 W → Calls Try.prog 27 #[.slice pb x1.length cb] W fun e w' => e = .returned (.bool false) ∧ CC w1 w') := ⟨fun W hW => (long_doc _ x1 W (K1.out.later (KX.out W hW).2.2 (Nat.le_refl _))).mono fun e w' hp => ⟨by rw [hp.1, g1], by rw [hp.2]; exact hW⟩⟩
  have KL2 : Kept (∀ W, CC w1 W → Calls Try.prog 27 #[.slice pd x2.length cd] W fun e w' => e = .returned (.bool true) ∧ CC w1 w') := ⟨fun W hW => (long_doc _ x2 W (K2.out.later (KX.out W hW).2.2 (Nat.le_refl _))).mono fun e w' hp => ⟨by rw [hp.1, g2], by rw [hp.2]; exact hW⟩⟩
  have KB0 : Kept (∀ W, CC w1 W → Calls Try.prog 15 #[.string l0] W fun e w' => e = .returned (.bool true) ∧ CC w1 w') := ⟨fun W hW => (label_any l0 W).mono fun e w' hp => ⟨by rw [hp.1, k0], hW.on hp.2⟩⟩
  have KB1 : Kept (∀ W, CC w1 W → Calls Try.prog 15 #[.string l1] W fun e w' => e = .returned (.bool false) ∧ CC w1 w') := ⟨fun W hW => (label_any l1 W).mono fun e w' hp => ⟨by rw [hp.1, k1], hW.on hp.2⟩⟩
  have KI2 : Kept (∀ W, CC w1 W → Calls Try.prog 26 #[.bool true, .int .i64 2] W fun e w' => e = .returned (.int .i64 2) ∧ CC w1 w') := ⟨fun W hW => (if_any true 2 W).mono fun e w' hp => ⟨hp.1, by rw [hp.2]; exact hW⟩⟩
  have KI3 : Kept (∀ W, CC w1 W → Calls Try.prog 26 #[.bool true, .int .i64 3] W fun e w' => e = .returned (.int .i64 3) ∧ CC w1 w') := ⟨fun W hW => (if_any true 3 W).mono fun e w' hp => ⟨hp.1, by rw [hp.2]; exact hW⟩⟩
  clear g0 g1 g2 k0 k1
  refine wp_region_part (C := CC w1) 21 3 #[true, true, true, true, true, true, true, true, true, true, true, true, true, true, true, true, true, true, true, true, true, true, false, false, false] (by kernel_rfl) (by kernel_rfl) (Below.refl _ _).drew ?_
  simp only [List.take_succ_cons, List.take_zero]
  go_big_quiet_step (fail)
  go_big_quiet_step ((intro hCw; exact KL0.out _ hCw))
  go_big_quiet_step (fail)
  go_big_quiet_step (fail)
  go_big_quiet_step ((intro hCw; exact KL1.out _ hCw))
  go_big_quiet_step ((intro _; rfl))
  go_big_quiet_step (fail)
  go_big_quiet_step (fail)
  go_big_quiet_step ((intro hCw; exact KL2.out _ hCw))
  go_big_quiet_step ((intro _; rfl))
  go_big_quiet_step ((intro hCw; exact KI2.out _ hCw))
  refine BigFrame.wpQuiet_want rfl (fun K hK => quiet_run (v := .pointer (some ⟨w.heap.size, 0, none⟩)) (fun W hW => by go_simp) (hK _ ?_))
  clear hK K
  simp only [Act.put, List.setIfInBounds_toArray, List.set_cons_zero, List.set_cons_succ]
  refine BigFrame.wpQuiet_want rfl (fun K hK => quiet_run (v := .string l0) (fun W hW => by have := (KX.out W hW).1; go_simp) (hK _ ?_))
  clear hK K
  simp only [Act.put, List.setIfInBounds_toArray, List.set_cons_zero, List.set_cons_succ]
  go_big_quiet_step ((intro hCw; exact KB0.out _ hCw))
  go_big_quiet_step ((intro _; rfl))
  go_big_quiet_step (fail)
  refine BigFrame.wpQuiet_want rfl (fun K hK => quiet_run (v := .pointer (some ⟨w.heap.size, 1, none⟩)) (fun W hW => by go_simp) (hK _ ?_))
  clear hK K
  simp only [Act.put, List.setIfInBounds_toArray, List.set_cons_zero, List.set_cons_succ]
  refine BigFrame.wpQuiet_want rfl (fun K hK => quiet_run (v := .string l1) (fun W hW => by have := (KX.out W hW).2.1; go_simp) (hK _ ?_))
  clear hK K
  simp only [Act.put, List.setIfInBounds_toArray, List.set_cons_zero, List.set_cons_succ]
  go_big_quiet_step ((intro hCw; exact KB1.out _ hCw))
  go_big_quiet_step ((intro _; rfl))
  go_big_quiet_step ((intro _; rfl))
  go_big_quiet_step ((intro hCw; exact KI3.out _ hCw))
  refine wpQuiet_nil ?_
  intro x1' hx1
  obtain ⟨x2', hx2⟩ : ∃ x2', x1'.alloc (.cells #[.int .i64 2, .int .i64 3] 26) = x2' := ⟨_, rfl⟩
  have hh2 : x2'.heap[x1'.heap.size]? = some (.cells #[.int .i64 2, .int .i64 3] 26) := by rw [← hx2]; exact heap_alloc_new x1' _
  have hBx2 : Below x1'.heap.size x1' x2' := by rw [← hx2]; exact (Below.refl _ _).alloc (Nat.le_refl _) _
  have hLs := least_two 2 3 x1'.heap.size x2' hh2
  rw [show lsF (lsF 0 2) 3 = 2 by decide] at hLs
  have KLa := Kept.mk hLs
  have KC2 : Kept (CC w1 x2') := ⟨CC.on hx1 hBx2⟩
  clear hh2 hBx2 hLs hx1 KI2 KI3 KB0 KL0
  refine An.wpAny_one (i := 22) (by kernel_rfl) rfl rfl (fun K hK => ?_)
  go_simp
  refine hK _ _ ?_
  clear hK K
  try rw [hx2]
  clear hx2
  refine An.wpAny_one (i := 23) (by kernel_rfl) rfl rfl (fun K hK => ?_)
  go_simp
  refine Calls.mono KLa.out (fun e x3 hp => ?_)
  obtain ⟨rfl, hx3⟩ := hp
  subst x3
  refine hK _ _ ?_
  clear hK K
  refine An.wpAny_one (i := 24) (by kernel_rfl) rfl rfl (fun K hK => ?_)
  go_simp
  refine hK _ _ ?_
  clear hK K
  refine wpAny_done (by kernel_rfl) (NoPanic.normal ?_) _
  go_wp2
  go_ret3
  rw [thM_bad KE.out (by decide)]
  exact ⟨_, rfl, Rd.nil _ _ _, AllIn.nil, (KX.out _ KC2.out).2.2⟩
set_option maxHeartbeats 4000000 in
set_option maxRecDepth 100000 in
theorem docE_fft_tt (v0 v1 v2 : Value) (x0 x1 x2 : List Int) (l0 l1 : ByteArray) (w : World) (h0 : Rd .u8 anyB w v0 x0) (h1 : Rd .u8 anyB w v1 x1) (h2 : Rd .u8 anyB w v2 x2) (g0 : bigT x0 = false) (g1 : bigT x1 = false) (g2 : bigT x2 = true) (k0 : okL l0 = true) (k1 : okL l1 = true) :
    Calls Try.prog 13 #[v0, v1, v2, .agg #[.string l0, .string l1]] w fun e w' => DhE w (thM l0 l1 x0 x1 x2) e w' := by
  have hba := (Below.refl w.heap.size w).alloc (Nat.le_refl _) (.cells #[.string l0, .string l1] 23)
  obtain ⟨b0, b1⟩ := box2 (w := w) (x := .string l0) (y := .string l1) (T := 23)
  have K0 := Kept.mk h0
  have K1 := Kept.mk h1
  have K2 := Kept.mk h2
  obtain ⟨pa, ca, rfl, -⟩ := h0.form
  obtain ⟨pb, cb, rfl, -⟩ := h1.form
  obtain ⟨pd, cd, rfl, -⟩ := h2.form
  have KX : Kept (∀ W, CC (w.alloc (.cells #[.string l0, .string l1] 23)) W → W.cell? ⟨w.heap.size, 0, none⟩ = some (.string l0) ∧ W.cell? ⟨w.heap.size, 1, none⟩ = some (.string l1) ∧ Below w.heap.size w W) := ⟨fun W hW =>
    ⟨by rw [Below.cell hW (World.block_lt_of_cell? _ _ b0)]; exact b0, by rw [Below.cell hW (World.block_lt_of_cell? _ _ b1)]; exact b1, hba.trans (Below.mono hW hba.size)⟩⟩
  have KE : Kept (thE l0 l1 x0 x1 x2 = 2) := ⟨by unfold thE; simp [g0, g1, g2]⟩
  clear h0 h1 h2 hba b0 b1
  go_enter Try.func13, Try.ntmps13
  go_upto_region 1 with fail
  obtain ⟨w1, hw1⟩ : ∃ w1, w.alloc (.cells #[.string l0, .string l1] 23) = w1 := ⟨_, rfl⟩
  rw [hw1] at KX ⊢
  clear hw1
  have KL0 : Kept (∀ W, CC w1 W → Calls Try.prog 27 #[.slice pa x0.length ca] W fun e w' => e = .returned (.bool false) ∧ CC w1 w') := ⟨fun W hW => (long_doc _ x0 W (K0.out.later (KX.out W hW).2.2 (Nat.le_refl _))).mono fun e w' hp => ⟨by rw [hp.1, g0], by rw [hp.2]; exact hW⟩⟩
  have KL1 : Kept (∀ W, CC w1 W → Calls Try.prog 27 #[.slice pb x1.length cb] W fun e w' => e = .returned (.bool false) ∧ CC w1 w') := ⟨fun W hW => (long_doc _ x1 W (K1.out.later (KX.out W hW).2.2 (Nat.le_refl _))).mono fun e w' hp => ⟨by rw [hp.1, g1], by rw [hp.2]; exact hW⟩⟩
  have KL2 : Kept (∀ W, CC w1 W → Calls Try.prog 27 #[.slice pd x2.length cd] W fun e w' => e = .returned (.bool true) ∧ CC w1 w') := ⟨fun W hW => (long_doc _ x2 W (K2.out.later (KX.out W hW).2.2 (Nat.le_refl _))).mono fun e w' hp => ⟨by rw [hp.1, g2], by rw [hp.2]; exact hW⟩⟩
  have KB0 : Kept (∀ W, CC w1 W → Calls Try.prog 15 #[.string l0] W fun e w' => e = .returned (.bool true) ∧ CC w1 w') := ⟨fun W hW => (label_any l0 W).mono fun e w' hp => ⟨by rw [hp.1, k0], hW.on hp.2⟩⟩
  have KB1 : Kept (∀ W, CC w1 W → Calls Try.prog 15 #[.string l1] W fun e w' => e = .returned (.bool true) ∧ CC w1 w') := ⟨fun W hW => (label_any l1 W).mono fun e w' hp => ⟨by rw [hp.1, k1], hW.on hp.2⟩⟩
  have KI2 : Kept (∀ W, CC w1 W → Calls Try.prog 26 #[.bool true, .int .i64 2] W fun e w' => e = .returned (.int .i64 2) ∧ CC w1 w') := ⟨fun W hW => (if_any true 2 W).mono fun e w' hp => ⟨hp.1, by rw [hp.2]; exact hW⟩⟩
  have KI3 : Kept (∀ W, CC w1 W → Calls Try.prog 26 #[.bool false, .int .i64 3] W fun e w' => e = .returned (.int .i64 0) ∧ CC w1 w') := ⟨fun W hW => (if_any false 3 W).mono fun e w' hp => ⟨hp.1, by rw [hp.2]; exact hW⟩⟩
  clear g0 g1 g2 k0 k1
  refine wp_region_part (C := CC w1) 21 3 #[true, true, true, true, true, true, true, true, true, true, true, true, true, true, true, true, true, true, true, true, true, true, false, false, false] (by kernel_rfl) (by kernel_rfl) (Below.refl _ _).drew ?_
  simp only [List.take_succ_cons, List.take_zero]
  go_big_quiet_step (fail)
  go_big_quiet_step ((intro hCw; exact KL0.out _ hCw))
  go_big_quiet_step (fail)
  go_big_quiet_step (fail)
  go_big_quiet_step ((intro hCw; exact KL1.out _ hCw))
  go_big_quiet_step ((intro _; rfl))
  go_big_quiet_step (fail)
  go_big_quiet_step (fail)
  go_big_quiet_step ((intro hCw; exact KL2.out _ hCw))
  go_big_quiet_step ((intro _; rfl))
  go_big_quiet_step ((intro hCw; exact KI2.out _ hCw))
  refine BigFrame.wpQuiet_want rfl (fun K hK => quiet_run (v := .pointer (some ⟨w.heap.size, 0, none⟩)) (fun W hW => by go_simp) (hK _ ?_))
  clear hK K
  simp only [Act.put, List.setIfInBounds_toArray, List.set_cons_zero, List.set_cons_succ]
  refine BigFrame.wpQuiet_want rfl (fun K hK => quiet_run (v := .string l0) (fun W hW => by have := (KX.out W hW).1; go_simp) (hK _ ?_))
  clear hK K
  simp only [Act.put, List.setIfInBounds_toArray, List.set_cons_zero, List.set_cons_succ]
  go_big_quiet_step ((intro hCw; exact KB0.out _ hCw))
  go_big_quiet_step ((intro _; rfl))
  go_big_quiet_step (fail)
  refine BigFrame.wpQuiet_want rfl (fun K hK => quiet_run (v := .pointer (some ⟨w.heap.size, 1, none⟩)) (fun W hW => by go_simp) (hK _ ?_))
  clear hK K
  simp only [Act.put, List.setIfInBounds_toArray, List.set_cons_zero, List.set_cons_succ]
  refine BigFrame.wpQuiet_want rfl (fun K hK => quiet_run (v := .string l1) (fun W hW => by have := (KX.out W hW).2.1; go_simp) (hK _ ?_))
  clear hK K
  simp only [Act.put, List.setIfInBounds_toArray, List.set_cons_zero, List.set_cons_succ]
  go_big_quiet_step ((intro hCw; exact KB1.out _ hCw))
  go_big_quiet_step ((intro _; rfl))
  go_big_quiet_step ((intro _; rfl))
  go_big_quiet_step ((intro hCw; exact KI3.out _ hCw))
  refine wpQuiet_nil ?_
  intro x1' hx1
  obtain ⟨x2', hx2⟩ : ∃ x2', x1'.alloc (.cells #[.int .i64 2, .int .i64 0] 26) = x2' := ⟨_, rfl⟩
  have hh2 : x2'.heap[x1'.heap.size]? = some (.cells #[.int .i64 2, .int .i64 0] 26) := by rw [← hx2]; exact heap_alloc_new x1' _
  have hBx2 : Below x1'.heap.size x1' x2' := by rw [← hx2]; exact (Below.refl _ _).alloc (Nat.le_refl _) _
  have hLs := least_two 2 0 x1'.heap.size x2' hh2
  rw [show lsF (lsF 0 2) 0 = 2 by decide] at hLs
  have KLa := Kept.mk hLs
  have KC2 : Kept (CC w1 x2') := ⟨CC.on hx1 hBx2⟩
  clear hh2 hBx2 hLs hx1 KI2 KI3 KB0 KL0
  refine An.wpAny_one (i := 22) (by kernel_rfl) rfl rfl (fun K hK => ?_)
  go_simp
  refine hK _ _ ?_
  clear hK K
  try rw [hx2]
  clear hx2
  refine An.wpAny_one (i := 23) (by kernel_rfl) rfl rfl (fun K hK => ?_)
  go_simp
  refine Calls.mono KLa.out (fun e x3 hp => ?_)
  obtain ⟨rfl, hx3⟩ := hp
  subst x3
  refine hK _ _ ?_
  clear hK K
  refine An.wpAny_one (i := 24) (by kernel_rfl) rfl rfl (fun K hK => ?_)
  go_simp
  refine hK _ _ ?_
  clear hK K
  refine wpAny_done (by kernel_rfl) (NoPanic.normal ?_) _
  go_wp2
  go_ret3
  rw [thM_bad KE.out (by decide)]
  exact ⟨_, rfl, Rd.nil _ _ _, AllIn.nil, (KX.out _ KC2.out).2.2⟩
set_option maxHeartbeats 4000000 in
set_option maxRecDepth 100000 in
theorem docE_fff_f (v0 v1 v2 : Value) (x0 x1 x2 : List Int) (l0 l1 : ByteArray) (w : World) (h0 : Rd .u8 anyB w v0 x0) (h1 : Rd .u8 anyB w v1 x1) (h2 : Rd .u8 anyB w v2 x2) (g0 : bigT x0 = false) (g1 : bigT x1 = false) (g2 : bigT x2 = false) (k0 : okL l0 = false) :
    Calls Try.prog 13 #[v0, v1, v2, .agg #[.string l0, .string l1]] w fun e w' => DhE w (thM l0 l1 x0 x1 x2) e w' := by
  have hba := (Below.refl w.heap.size w).alloc (Nat.le_refl _) (.cells #[.string l0, .string l1] 23)
  obtain ⟨b0, b1⟩ := box2 (w := w) (x := .string l0) (y := .string l1) (T := 23)
  have K0 := Kept.mk h0
  have K1 := Kept.mk h1
  have K2 := Kept.mk h2
  obtain ⟨pa, ca, rfl, -⟩ := h0.form
  obtain ⟨pb, cb, rfl, -⟩ := h1.form
  obtain ⟨pd, cd, rfl, -⟩ := h2.form
  have KX : Kept (∀ W, CC (w.alloc (.cells #[.string l0, .string l1] 23)) W → W.cell? ⟨w.heap.size, 0, none⟩ = some (.string l0) ∧ W.cell? ⟨w.heap.size, 1, none⟩ = some (.string l1) ∧ Below w.heap.size w W) := ⟨fun W hW =>
    ⟨by rw [Below.cell hW (World.block_lt_of_cell? _ _ b0)]; exact b0, by rw [Below.cell hW (World.block_lt_of_cell? _ _ b1)]; exact b1, hba.trans (Below.mono hW hba.size)⟩⟩
  have KE : Kept (thE l0 l1 x0 x1 x2 = 3) := ⟨by unfold thE; simp [g0, g1, g2, k0]⟩
  clear h0 h1 h2 hba b0 b1
  go_enter Try.func13, Try.ntmps13
  go_upto_region 1 with fail
  obtain ⟨w1, hw1⟩ : ∃ w1, w.alloc (.cells #[.string l0, .string l1] 23) = w1 := ⟨_, rfl⟩
  rw [hw1] at KX ⊢
  clear hw1
  have KL0 : Kept (∀ W, CC w1 W → Calls Try.prog 27 #[.slice pa x0.length ca] W fun e w' => e = .returned (.bool false) ∧ CC w1 w') := ⟨fun W hW => (long_doc _ x0 W (K0.out.later (KX.out W hW).2.2 (Nat.le_refl _))).mono fun e w' hp => ⟨by rw [hp.1, g0], by rw [hp.2]; exact hW⟩⟩
  have KL1 : Kept (∀ W, CC w1 W → Calls Try.prog 27 #[.slice pb x1.length cb] W fun e w' => e = .returned (.bool false) ∧ CC w1 w') := ⟨fun W hW => (long_doc _ x1 W (K1.out.later (KX.out W hW).2.2 (Nat.le_refl _))).mono fun e w' hp => ⟨by rw [hp.1, g1], by rw [hp.2]; exact hW⟩⟩
  have KL2 : Kept (∀ W, CC w1 W → Calls Try.prog 27 #[.slice pd x2.length cd] W fun e w' => e = .returned (.bool false) ∧ CC w1 w') := ⟨fun W hW => (long_doc _ x2 W (K2.out.later (KX.out W hW).2.2 (Nat.le_refl _))).mono fun e w' hp => ⟨by rw [hp.1, g2], by rw [hp.2]; exact hW⟩⟩
  have KB0 : Kept (∀ W, CC w1 W → Calls Try.prog 15 #[.string l0] W fun e w' => e = .returned (.bool false) ∧ CC w1 w') := ⟨fun W hW => (label_any l0 W).mono fun e w' hp => ⟨by rw [hp.1, k0], hW.on hp.2⟩⟩
  have KI2 : Kept (∀ W, CC w1 W → Calls Try.prog 26 #[.bool false, .int .i64 2] W fun e w' => e = .returned (.int .i64 0) ∧ CC w1 w') := ⟨fun W hW => (if_any false 2 W).mono fun e w' hp => ⟨hp.1, by rw [hp.2]; exact hW⟩⟩
  have KI3 : Kept (∀ W, CC w1 W → Calls Try.prog 26 #[.bool true, .int .i64 3] W fun e w' => e = .returned (.int .i64 3) ∧ CC w1 w') := ⟨fun W hW => (if_any true 3 W).mono fun e w' hp => ⟨hp.1, by rw [hp.2]; exact hW⟩⟩
  clear g0 g1 g2 k0
  refine wp_region_part (C := CC w1) 21 3 #[true, true, true, true, true, true, true, true, true, true, true, true, true, true, true, true, true, true, true, true, true, true, false, false, false] (by kernel_rfl) (by kernel_rfl) (Below.refl _ _).drew ?_
  simp only [List.take_succ_cons, List.take_zero]
  go_big_quiet_step (fail)
  go_big_quiet_step ((intro hCw; exact KL0.out _ hCw))
  go_big_quiet_step (fail)
  go_big_quiet_step (fail)
  go_big_quiet_step ((intro hCw; exact KL1.out _ hCw))
  go_big_quiet_step ((intro _; rfl))
  go_big_quiet_step (fail)
  go_big_quiet_step (fail)
  go_big_quiet_step ((intro hCw; exact KL2.out _ hCw))
  go_big_quiet_step ((intro _; rfl))
  go_big_quiet_step ((intro hCw; exact KI2.out _ hCw))
  refine BigFrame.wpQuiet_want rfl (fun K hK => quiet_run (v := .pointer (some ⟨w.heap.size, 0, none⟩)) (fun W hW => by go_simp) (hK _ ?_))
  clear hK K
  simp only [Act.put, List.setIfInBounds_toArray, List.set_cons_zero, List.set_cons_succ]
  refine BigFrame.wpQuiet_want rfl (fun K hK => quiet_run (v := .string l0) (fun W hW => by have := (KX.out W hW).1; go_simp) (hK _ ?_))
  clear hK K
  simp only [Act.put, List.setIfInBounds_toArray, List.set_cons_zero, List.set_cons_succ]
  go_big_quiet_step ((intro hCw; exact KB0.out _ hCw))
  go_big_quiet_step ((intro _; rfl))
  go_big_quiet_step (fail)
  go_big_quiet_step (fail)
  go_big_quiet_step (fail)
  go_big_quiet_step (fail)
  go_big_quiet_step (fail)
  go_big_quiet_step ((intro _; rfl))
  go_big_quiet_step ((intro hCw; exact KI3.out _ hCw))
  refine wpQuiet_nil ?_
  intro x1' hx1
  obtain ⟨x2', hx2⟩ : ∃ x2', x1'.alloc (.cells #[.int .i64 0, .int .i64 3] 26) = x2' := ⟨_, rfl⟩
  have hh2 : x2'.heap[x1'.heap.size]? = some (.cells #[.int .i64 0, .int .i64 3] 26) := by rw [← hx2]; exact heap_alloc_new x1' _
  have hBx2 : Below x1'.heap.size x1' x2' := by rw [← hx2]; exact (Below.refl _ _).alloc (Nat.le_refl _) _
  have hLs := least_two 0 3 x1'.heap.size x2' hh2
  rw [show lsF (lsF 0 0) 3 = 3 by decide] at hLs
  have KLa := Kept.mk hLs
  have KC2 : Kept (CC w1 x2') := ⟨CC.on hx1 hBx2⟩
  clear hh2 hBx2 hLs hx1 KI2 KI3 KB0 KL0
  refine An.wpAny_one (i := 22) (by kernel_rfl) rfl rfl (fun K hK => ?_)
  go_simp
  refine hK _ _ ?_
  clear hK K
  try rw [hx2]
  clear hx2
  refine An.wpAny_one (i := 23) (by kernel_rfl) rfl rfl (fun K hK => ?_)
  go_simp
  refine Calls.mono KLa.out (fun e x3 hp => ?_)
  obtain ⟨rfl, hx3⟩ := hp
  subst x3
  refine hK _ _ ?_
  clear hK K
  refine An.wpAny_one (i := 24) (by kernel_rfl) rfl rfl (fun K hK => ?_)
  go_simp
  refine hK _ _ ?_
  clear hK K
  refine wpAny_done (by kernel_rfl) (NoPanic.normal ?_) _
  go_wp2
  go_ret3
  rw [thM_bad KE.out (by decide)]
  exact ⟨_, rfl, Rd.nil _ _ _, AllIn.nil, (KX.out _ KC2.out).2.2⟩
set_option maxHeartbeats 4000000 in
set_option maxRecDepth 100000 in
theorem docE_fff_tf (v0 v1 v2 : Value) (x0 x1 x2 : List Int) (l0 l1 : ByteArray) (w : World) (h0 : Rd .u8 anyB w v0 x0) (h1 : Rd .u8 anyB w v1 x1) (h2 : Rd .u8 anyB w v2 x2) (g0 : bigT x0 = false) (g1 : bigT x1 = false) (g2 : bigT x2 = false) (k0 : okL l0 = true) (k1 : okL l1 = false) :
    Calls Try.prog 13 #[v0, v1, v2, .agg #[.string l0, .string l1]] w fun e w' => DhE w (thM l0 l1 x0 x1 x2) e w' := by
  have hba := (Below.refl w.heap.size w).alloc (Nat.le_refl _) (.cells #[.string l0, .string l1] 23)
  obtain ⟨b0, b1⟩ := box2 (w := w) (x := .string l0) (y := .string l1) (T := 23)
  have K0 := Kept.mk h0
  have K1 := Kept.mk h1
  have K2 := Kept.mk h2
  obtain ⟨pa, ca, rfl, -⟩ := h0.form
  obtain ⟨pb, cb, rfl, -⟩ := h1.form
  obtain ⟨pd, cd, rfl, -⟩ := h2.form
  have KX : Kept (∀ W, CC (w.alloc (.cells #[.string l0, .string l1] 23)) W → W.cell? ⟨w.heap.size, 0, none⟩ = some (.string l0) ∧ W.cell? ⟨w.heap.size, 1, none⟩ = some (.string l1) ∧ Below w.heap.size w W) := ⟨fun W hW =>
    ⟨by rw [Below.cell hW (World.block_lt_of_cell? _ _ b0)]; exact b0, by rw [Below.cell hW (World.block_lt_of_cell? _ _ b1)]; exact b1, hba.trans (Below.mono hW hba.size)⟩⟩
  have KE : Kept (thE l0 l1 x0 x1 x2 = 3) := ⟨by unfold thE; simp [g0, g1, g2, k0, k1]⟩
  clear h0 h1 h2 hba b0 b1
  go_enter Try.func13, Try.ntmps13
  go_upto_region 1 with fail
  obtain ⟨w1, hw1⟩ : ∃ w1, w.alloc (.cells #[.string l0, .string l1] 23) = w1 := ⟨_, rfl⟩
  rw [hw1] at KX ⊢
  clear hw1
  have KL0 : Kept (∀ W, CC w1 W → Calls Try.prog 27 #[.slice pa x0.length ca] W fun e w' => e = .returned (.bool false) ∧ CC w1 w') := ⟨fun W hW => (long_doc _ x0 W (K0.out.later (KX.out W hW).2.2 (Nat.le_refl _))).mono fun e w' hp => ⟨by rw [hp.1, g0], by rw [hp.2]; exact hW⟩⟩
  have KL1 : Kept (∀ W, CC w1 W → Calls Try.prog 27 #[.slice pb x1.length cb] W fun e w' => e = .returned (.bool false) ∧ CC w1 w') := ⟨fun W hW => (long_doc _ x1 W (K1.out.later (KX.out W hW).2.2 (Nat.le_refl _))).mono fun e w' hp => ⟨by rw [hp.1, g1], by rw [hp.2]; exact hW⟩⟩
  have KL2 : Kept (∀ W, CC w1 W → Calls Try.prog 27 #[.slice pd x2.length cd] W fun e w' => e = .returned (.bool false) ∧ CC w1 w') := ⟨fun W hW => (long_doc _ x2 W (K2.out.later (KX.out W hW).2.2 (Nat.le_refl _))).mono fun e w' hp => ⟨by rw [hp.1, g2], by rw [hp.2]; exact hW⟩⟩
  have KB0 : Kept (∀ W, CC w1 W → Calls Try.prog 15 #[.string l0] W fun e w' => e = .returned (.bool true) ∧ CC w1 w') := ⟨fun W hW => (label_any l0 W).mono fun e w' hp => ⟨by rw [hp.1, k0], hW.on hp.2⟩⟩
  have KB1 : Kept (∀ W, CC w1 W → Calls Try.prog 15 #[.string l1] W fun e w' => e = .returned (.bool false) ∧ CC w1 w') := ⟨fun W hW => (label_any l1 W).mono fun e w' hp => ⟨by rw [hp.1, k1], hW.on hp.2⟩⟩
  have KI2 : Kept (∀ W, CC w1 W → Calls Try.prog 26 #[.bool false, .int .i64 2] W fun e w' => e = .returned (.int .i64 0) ∧ CC w1 w') := ⟨fun W hW => (if_any false 2 W).mono fun e w' hp => ⟨hp.1, by rw [hp.2]; exact hW⟩⟩
  have KI3 : Kept (∀ W, CC w1 W → Calls Try.prog 26 #[.bool true, .int .i64 3] W fun e w' => e = .returned (.int .i64 3) ∧ CC w1 w') := ⟨fun W hW => (if_any true 3 W).mono fun e w' hp => ⟨hp.1, by rw [hp.2]; exact hW⟩⟩
  clear g0 g1 g2 k0 k1
  refine wp_region_part (C := CC w1) 21 3 #[true, true, true, true, true, true, true, true, true, true, true, true, true, true, true, true, true, true, true, true, true, true, false, false, false] (by kernel_rfl) (by kernel_rfl) (Below.refl _ _).drew ?_
  simp only [List.take_succ_cons, List.take_zero]
  go_big_quiet_step (fail)
  go_big_quiet_step ((intro hCw; exact KL0.out _ hCw))
  go_big_quiet_step (fail)
  go_big_quiet_step (fail)
  go_big_quiet_step ((intro hCw; exact KL1.out _ hCw))
  go_big_quiet_step ((intro _; rfl))
  go_big_quiet_step (fail)
  go_big_quiet_step (fail)
  go_big_quiet_step ((intro hCw; exact KL2.out _ hCw))
  go_big_quiet_step ((intro _; rfl))
  go_big_quiet_step ((intro hCw; exact KI2.out _ hCw))
  refine BigFrame.wpQuiet_want rfl (fun K hK => quiet_run (v := .pointer (some ⟨w.heap.size, 0, none⟩)) (fun W hW => by go_simp) (hK _ ?_))
  clear hK K
  simp only [Act.put, List.setIfInBounds_toArray, List.set_cons_zero, List.set_cons_succ]
  refine BigFrame.wpQuiet_want rfl (fun K hK => quiet_run (v := .string l0) (fun W hW => by have := (KX.out W hW).1; go_simp) (hK _ ?_))
  clear hK K
  simp only [Act.put, List.setIfInBounds_toArray, List.set_cons_zero, List.set_cons_succ]
  go_big_quiet_step ((intro hCw; exact KB0.out _ hCw))
  go_big_quiet_step ((intro _; rfl))
  go_big_quiet_step (fail)
  refine BigFrame.wpQuiet_want rfl (fun K hK => quiet_run (v := .pointer (some ⟨w.heap.size, 1, none⟩)) (fun W hW => by go_simp) (hK _ ?_))
  clear hK K
  simp only [Act.put, List.setIfInBounds_toArray, List.set_cons_zero, List.set_cons_succ]
  refine BigFrame.wpQuiet_want rfl (fun K hK => quiet_run (v := .string l1) (fun W hW => by have := (KX.out W hW).2.1; go_simp) (hK _ ?_))
  clear hK K
  simp only [Act.put, List.setIfInBounds_toArray, List.set_cons_zero, List.set_cons_succ]
  go_big_quiet_step ((intro hCw; exact KB1.out _ hCw))
  go_big_quiet_step ((intro _; rfl))
  go_big_quiet_step ((intro _; rfl))
  go_big_quiet_step ((intro hCw; exact KI3.out _ hCw))
  refine wpQuiet_nil ?_
  intro x1' hx1
  obtain ⟨x2', hx2⟩ : ∃ x2', x1'.alloc (.cells #[.int .i64 0, .int .i64 3] 26) = x2' := ⟨_, rfl⟩
  have hh2 : x2'.heap[x1'.heap.size]? = some (.cells #[.int .i64 0, .int .i64 3] 26) := by rw [← hx2]; exact heap_alloc_new x1' _
  have hBx2 : Below x1'.heap.size x1' x2' := by rw [← hx2]; exact (Below.refl _ _).alloc (Nat.le_refl _) _
  have hLs := least_two 0 3 x1'.heap.size x2' hh2
  rw [show lsF (lsF 0 0) 3 = 3 by decide] at hLs
  have KLa := Kept.mk hLs
  have KC2 : Kept (CC w1 x2') := ⟨CC.on hx1 hBx2⟩
  clear hh2 hBx2 hLs hx1 KI2 KI3 KB0 KL0
  refine An.wpAny_one (i := 22) (by kernel_rfl) rfl rfl (fun K hK => ?_)
  go_simp
  refine hK _ _ ?_
  clear hK K
  try rw [hx2]
  clear hx2
  refine An.wpAny_one (i := 23) (by kernel_rfl) rfl rfl (fun K hK => ?_)
  go_simp
  refine Calls.mono KLa.out (fun e x3 hp => ?_)
  obtain ⟨rfl, hx3⟩ := hp
  subst x3
  refine hK _ _ ?_
  clear hK K
  refine An.wpAny_one (i := 24) (by kernel_rfl) rfl rfl (fun K hK => ?_)
  go_simp
  refine hK _ _ ?_
  clear hK K
  refine wpAny_done (by kernel_rfl) (NoPanic.normal ?_) _
  go_wp2
  go_ret3
  rw [thM_bad KE.out (by decide)]
  exact ⟨_, rfl, Rd.nil _ _ _, AllIn.nil, (KX.out _ KC2.out).2.2⟩
set_option maxHeartbeats 4000000 in
set_option maxRecDepth 100000 in
theorem docE_fff_tt (v0 v1 v2 : Value) (x0 x1 x2 : List Int) (l0 l1 : ByteArray) (w : World) (h0 : Rd .u8 anyB w v0 x0) (h1 : Rd .u8 anyB w v1 x1) (h2 : Rd .u8 anyB w v2 x2) (g0 : bigT x0 = false) (g1 : bigT x1 = false) (g2 : bigT x2 = false) (k0 : okL l0 = true) (k1 : okL l1 = true) :
    Calls Try.prog 13 #[v0, v1, v2, .agg #[.string l0, .string l1]] w fun e w' => DhE w (thM l0 l1 x0 x1 x2) e w' := by
  have hba := (Below.refl w.heap.size w).alloc (Nat.le_refl _) (.cells #[.string l0, .string l1] 23)
  obtain ⟨b0, b1⟩ := box2 (w := w) (x := .string l0) (y := .string l1) (T := 23)
  have K0 := Kept.mk h0
  have K1 := Kept.mk h1
  have K2 := Kept.mk h2
  obtain ⟨pa, ca, rfl, -⟩ := h0.form
  obtain ⟨pb, cb, rfl, -⟩ := h1.form
  obtain ⟨pd, cd, rfl, -⟩ := h2.form
  have KX : Kept (∀ W, CC (w.alloc (.cells #[.string l0, .string l1] 23)) W → W.cell? ⟨w.heap.size, 0, none⟩ = some (.string l0) ∧ W.cell? ⟨w.heap.size, 1, none⟩ = some (.string l1) ∧ Below w.heap.size w W) := ⟨fun W hW =>
    ⟨by rw [Below.cell hW (World.block_lt_of_cell? _ _ b0)]; exact b0, by rw [Below.cell hW (World.block_lt_of_cell? _ _ b1)]; exact b1, hba.trans (Below.mono hW hba.size)⟩⟩
  have KE : Kept (thE l0 l1 x0 x1 x2 = 0) := ⟨by unfold thE; simp [g0, g1, g2, k0, k1]⟩
  clear h0 h1 h2 hba b0 b1
  go_enter Try.func13, Try.ntmps13
  go_upto_region 1 with fail
  obtain ⟨w1, hw1⟩ : ∃ w1, w.alloc (.cells #[.string l0, .string l1] 23) = w1 := ⟨_, rfl⟩
  rw [hw1] at KX ⊢
  clear hw1
  have KL0 : Kept (∀ W, CC w1 W → Calls Try.prog 27 #[.slice pa x0.length ca] W fun e w' => e = .returned (.bool false) ∧ CC w1 w') := ⟨fun W hW => (long_doc _ x0 W (K0.out.later (KX.out W hW).2.2 (Nat.le_refl _))).mono fun e w' hp => ⟨by rw [hp.1, g0], by rw [hp.2]; exact hW⟩⟩
  have KL1 : Kept (∀ W, CC w1 W → Calls Try.prog 27 #[.slice pb x1.length cb] W fun e w' => e = .returned (.bool false) ∧ CC w1 w') := ⟨fun W hW => (long_doc _ x1 W (K1.out.later (KX.out W hW).2.2 (Nat.le_refl _))).mono fun e w' hp => ⟨by rw [hp.1, g1], by rw [hp.2]; exact hW⟩⟩
  have KL2 : Kept (∀ W, CC w1 W → Calls Try.prog 27 #[.slice pd x2.length cd] W fun e w' => e = .returned (.bool false) ∧ CC w1 w') := ⟨fun W hW => (long_doc _ x2 W (K2.out.later (KX.out W hW).2.2 (Nat.le_refl _))).mono fun e w' hp => ⟨by rw [hp.1, g2], by rw [hp.2]; exact hW⟩⟩
  have KB0 : Kept (∀ W, CC w1 W → Calls Try.prog 15 #[.string l0] W fun e w' => e = .returned (.bool true) ∧ CC w1 w') := ⟨fun W hW => (label_any l0 W).mono fun e w' hp => ⟨by rw [hp.1, k0], hW.on hp.2⟩⟩
  have KB1 : Kept (∀ W, CC w1 W → Calls Try.prog 15 #[.string l1] W fun e w' => e = .returned (.bool true) ∧ CC w1 w') := ⟨fun W hW => (label_any l1 W).mono fun e w' hp => ⟨by rw [hp.1, k1], hW.on hp.2⟩⟩
  have KI2 : Kept (∀ W, CC w1 W → Calls Try.prog 26 #[.bool false, .int .i64 2] W fun e w' => e = .returned (.int .i64 0) ∧ CC w1 w') := ⟨fun W hW => (if_any false 2 W).mono fun e w' hp => ⟨hp.1, by rw [hp.2]; exact hW⟩⟩
  have KI3 : Kept (∀ W, CC w1 W → Calls Try.prog 26 #[.bool false, .int .i64 3] W fun e w' => e = .returned (.int .i64 0) ∧ CC w1 w') := ⟨fun W hW => (if_any false 3 W).mono fun e w' hp => ⟨hp.1, by rw [hp.2]; exact hW⟩⟩
  have Kz : Kept (x0.length ≤ 1048576 ∧ x1.length ≤ 1048576 ∧ x2.length ≤ 1048576 ∧ (lnS x0).length ≤ 1000 ∧ (lnS x1).length ≤ 1000 ∧ (lnS x2).length ≤ 1000 ∧ l0.size ≤ 100 ∧ l1.size ≤ 100) := ⟨⟨(bigT_no g0).1, (bigT_no g1).1, (bigT_no g2).1, (bigT_no g0).2, (bigT_no g1).2, (bigT_no g2).2, okL_size k0, okL_size k1⟩⟩
  clear g0 g1 g2 k0 k1
  refine wp_region_part (C := CC w1) 21 3 #[true, true, true, true, true, true, true, true, true, true, true, true, true, true, true, true, true, true, true, true, true, true, false, false, false] (by kernel_rfl) (by kernel_rfl) (Below.refl _ _).drew ?_
  simp only [List.take_succ_cons, List.take_zero]
  go_big_quiet_step (fail)
  go_big_quiet_step ((intro hCw; exact KL0.out _ hCw))
  go_big_quiet_step (fail)
  go_big_quiet_step (fail)
  go_big_quiet_step ((intro hCw; exact KL1.out _ hCw))
  go_big_quiet_step ((intro _; rfl))
  go_big_quiet_step (fail)
  go_big_quiet_step (fail)
  go_big_quiet_step ((intro hCw; exact KL2.out _ hCw))
  go_big_quiet_step ((intro _; rfl))
  go_big_quiet_step ((intro hCw; exact KI2.out _ hCw))
  refine BigFrame.wpQuiet_want rfl (fun K hK => quiet_run (v := .pointer (some ⟨w.heap.size, 0, none⟩)) (fun W hW => by go_simp) (hK _ ?_))
  clear hK K
  simp only [Act.put, List.setIfInBounds_toArray, List.set_cons_zero, List.set_cons_succ]
  refine BigFrame.wpQuiet_want rfl (fun K hK => quiet_run (v := .string l0) (fun W hW => by have := (KX.out W hW).1; go_simp) (hK _ ?_))
  clear hK K
  simp only [Act.put, List.setIfInBounds_toArray, List.set_cons_zero, List.set_cons_succ]
  go_big_quiet_step ((intro hCw; exact KB0.out _ hCw))
  go_big_quiet_step ((intro _; rfl))
  go_big_quiet_step (fail)
  refine BigFrame.wpQuiet_want rfl (fun K hK => quiet_run (v := .pointer (some ⟨w.heap.size, 1, none⟩)) (fun W hW => by go_simp) (hK _ ?_))
  clear hK K
  simp only [Act.put, List.setIfInBounds_toArray, List.set_cons_zero, List.set_cons_succ]
  refine BigFrame.wpQuiet_want rfl (fun K hK => quiet_run (v := .string l1) (fun W hW => by have := (KX.out W hW).2.1; go_simp) (hK _ ?_))
  clear hK K
  simp only [Act.put, List.setIfInBounds_toArray, List.set_cons_zero, List.set_cons_succ]
  go_big_quiet_step ((intro hCw; exact KB1.out _ hCw))
  go_big_quiet_step ((intro _; rfl))
  go_big_quiet_step ((intro _; rfl))
  go_big_quiet_step ((intro hCw; exact KI3.out _ hCw))
  refine wpQuiet_nil ?_
  intro x1' hx1
  obtain ⟨x2', hx2⟩ : ∃ x2', x1'.alloc (.cells #[.int .i64 0, .int .i64 0] 26) = x2' := ⟨_, rfl⟩
  have hh2 : x2'.heap[x1'.heap.size]? = some (.cells #[.int .i64 0, .int .i64 0] 26) := by rw [← hx2]; exact heap_alloc_new x1' _
  have hBx2 : Below x1'.heap.size x1' x2' := by rw [← hx2]; exact (Below.refl _ _).alloc (Nat.le_refl _) _
  have hLs := least_two 0 0 x1'.heap.size x2' hh2
  rw [show lsF (lsF 0 0) 0 = 0 by decide] at hLs
  have KLa := Kept.mk hLs
  have KC2 : Kept (CC w1 x2') := ⟨CC.on hx1 hBx2⟩
  clear hh2 hBx2 hLs hx1 KI2 KI3 KB0 KL0
  refine An.wpAny_one (i := 22) (by kernel_rfl) rfl rfl (fun K hK => ?_)
  go_simp
  refine hK _ _ ?_
  clear hK K
  try rw [hx2]
  clear hx2
  refine An.wpAny_one (i := 23) (by kernel_rfl) rfl rfl (fun K hK => ?_)
  go_simp
  refine Calls.mono KLa.out (fun e x3 hp => ?_)
  obtain ⟨rfl, hx3⟩ := hp
  subst x3
  refine hK _ _ ?_
  clear hK K
  refine An.wpAny_one (i := 24) (by kernel_rfl) rfl rfl (fun K hK => ?_)
  go_simp
  refine hK _ _ ?_
  clear hK K
  refine wpAny_done (by kernel_rfl) (NoPanic.normal ?_) _
  have KLb : Kept (x2'.rangeAt w.heap.size 0 [.string l0, .string l1]) := ⟨fun j u hu => by
    match j, hu with
    | 0, hu => simp at hu; subst hu; exact (KX.out _ KC2.out).1
    | 1, hu => simp at hu; subst hu; exact (KX.out _ KC2.out).2.1⟩
  have KB2 := Kept.mk (KX.out _ KC2.out).2.2
  have K3 := Kept.mk (docThree_any _ _ _ x0 x1 x2 l0 l1 x2' (K0.out.later KB2.out (Nat.le_refl _)) (K1.out.later KB2.out (Nat.le_refl _)) (K2.out.later KB2.out (Nat.le_refl _)) Kz.out.1 Kz.out.2.1 Kz.out.2.2.1 Kz.out.2.2.2.1 Kz.out.2.2.2.2.1 Kz.out.2.2.2.2.2.1 Kz.out.2.2.2.2.2.2.1 Kz.out.2.2.2.2.2.2.2)
  have KM := Kept.mk (thM_good KE.out)
  clear KX KLa K0 K1 K2
  go_wp2_with (refine wpList_load_mid rfl 23 _ rfl w.heap.size 0 rfl [.string l0, .string l1] _ KLb.out Try.underlying23 rfl info_lb2 ?_)
  refine Calls.mono K3.out (fun e x4 hp => ?_)
  obtain ⟨v4, rfl, hrd, hall, hlen, hb4⟩ := hp
  generalize dcP l0 l1 (lnS x0) (lnS x1) (lnS x2) = R at *
  obtain ⟨T, n⟩ := R
  simp only at hrd hall hlen
  have Krd := Kept.mk hrd
  have Kall := Kept.mk hall
  have KB4 := Kept.mk (KB2.out.trans (hb4.mono KB2.out.size))
  obtain ⟨p4, c4, hv4, -⟩ := hrd.form
  subst hv4
  clear K3 hrd hall hb4
  by_cases hlong : 1048576 < T.length
  · have hli : (1048576 : Int) < (T.length : Int) := by omega
    have KM2 : Kept (thM l0 l1 x0 x1 x2 = ([], 0, 2)) := ⟨by rw [KM.out]; exact if_pos hlong⟩
    go_wp2
    go_ret3
    rw [KM2.out]
    exact ⟨_, rfl, Rd.nil _ _ _, AllIn.nil, KB4.out⟩
  · have hli : ¬ (1048576 : Int) < (T.length : Int) := by omega
    have KM2 : Kept (thM l0 l1 x0 x1 x2 = (T, (n : Int), 0)) := ⟨by rw [KM.out]; exact if_neg hlong⟩
    go_wp2
    go_ret3
    rw [KM2.out]
    exact ⟨_, rfl, Krd.out, Kall.out, KB4.out⟩
theorem docThreeE_any (v0 v1 v2 : Value) (x0 x1 x2 : List Int) (l0 l1 : ByteArray) (w : World) (h0 : Rd .u8 anyB w v0 x0) (h1 : Rd .u8 anyB w v1 x1) (h2 : Rd .u8 anyB w v2 x2) :
    Calls Try.prog 13 #[v0, v1, v2, .agg #[.string l0, .string l1]] w fun e w' => DhE w (thM l0 l1 x0 x1 x2) e w' := by
  cases g0 : bigT x0 with
  | true =>
    cases k0 : okL l0 with
    | false => exact docE_t_f _ _ _ _ _ _ _ _ w h0 h1 h2 g0 k0
    | true =>
      cases k1 : okL l1 with
      | false => exact docE_t_tf _ _ _ _ _ _ _ _ w h0 h1 h2 g0 k0 k1
      | true => exact docE_t_tt _ _ _ _ _ _ _ _ w h0 h1 h2 g0 k0 k1
  | false =>
    cases g1 : bigT x1 with
    | true =>
      cases k0 : okL l0 with
      | false => exact docE_ft_f _ _ _ _ _ _ _ _ w h0 h1 h2 g0 g1 k0
      | true =>
        cases k1 : okL l1 with
        | false => exact docE_ft_tf _ _ _ _ _ _ _ _ w h0 h1 h2 g0 g1 k0 k1
        | true => exact docE_ft_tt _ _ _ _ _ _ _ _ w h0 h1 h2 g0 g1 k0 k1
    | false =>
      cases g2 : bigT x2 with
      | true =>
        cases k0 : okL l0 with
        | false => exact docE_fft_f _ _ _ _ _ _ _ _ w h0 h1 h2 g0 g1 g2 k0
        | true =>
          cases k1 : okL l1 with
          | false => exact docE_fft_tf _ _ _ _ _ _ _ _ w h0 h1 h2 g0 g1 g2 k0 k1
          | true => exact docE_fft_tt _ _ _ _ _ _ _ _ w h0 h1 h2 g0 g1 g2 k0 k1
      | false =>
        cases k0 : okL l0 with
        | false => exact docE_fff_f _ _ _ _ _ _ _ _ w h0 h1 h2 g0 g1 g2 k0
        | true =>
          cases k1 : okL l1 with
          | false => exact docE_fff_tf _ _ _ _ _ _ _ _ w h0 h1 h2 g0 g1 g2 k0 k1
          | true => exact docE_fff_tt _ _ _ _ _ _ _ _ w h0 h1 h2 g0 g1 g2 k0 k1
end Go.Proofs.Ytidpdhnbnecddaa
