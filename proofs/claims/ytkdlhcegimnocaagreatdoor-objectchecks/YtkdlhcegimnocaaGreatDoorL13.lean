/-
  The document's tag. (By tools/gen_l12.py.)
-/
import Derived.Test.YtkdlhcegimnocaaGreatDoorL9
import Derived.Test.YtkdlhcegimnocaaGreatDoorO10B
import Derived.Test.YtkdlhcegimnocaaGreatDoorN21
import Derived.Test.YtkdlhcegimnocaaGreatDoorShH2
namespace Go.Proofs.YtkdlhcegimnocaaGreatDoor
open Go.RowKit

theorem hz_has (s : ByteArray) : hzF s = hasF s 0 := (Lib.contains_iff_indexByte _ _).symm
theorem tn_has (s : ByteArray) : tnF s = (decide (1 ≤ s.size) && decide (s.size ≤ 100) && !(hasF s 0 || hasF s 10)) := by
  have e : Lib.containsAny s.data.toList [0, 10] = (hasF s 0 || hasF s 10) := by
    cases e : Lib.containsAny s.data.toList [0, 10] with
    | false =>
      have h := any_mem _ _ e
      have g : ∀ c ∈ ([0, 10] : List UInt8), hasF s c = false := fun c hc => by
        unfold hasF
        cases e' : s.data.toList.contains c with
        | false => rfl
        | true => exact absurd hc (h c (List.contains_iff_mem.1 e'))
      rw [g 0 (by simp), g 10 (by simp)]
      rfl
    | true =>
      cases h0 : hasF s 0 with
      | true => rfl
      | false =>
        cases h1 : hasF s 10 with
        | true => rfl
        | false =>
          exfalso
          unfold hasF at h0 h1
          have := any_no [0, 10] s.data.toList (fun b hb hc => by
            have hb' := List.contains_iff_mem.2 hb
            simp only [List.mem_cons, List.not_mem_nil, or_false] at hc
            rcases hc with rfl | rfl
            · rw [h0] at hb'; cases hb'
            · rw [h1] at hb'; cases hb')
          rw [this] at e
          cases e
  unfold tnF
  rw [e]
theorem tag_least (c : LbC) : [if (!isK c.k) = true then 9 else 0, msF c.ms, if (!tnF c.nm || !idF c.ig) = true then 3 else 0].foldl lsF 0 = teF c := by
  unfold teF msF
  rw [hz_has]
  have e1 : (tnF c.nm = false ∨ idF c.ig = false) ↔ (!tnF c.nm || !idF c.ig) = true := by simp
  have e2 : (isK c.k = false) ↔ (!isK c.k) = true := by simp
  by_cases h3 : 65536 < c.ms.size
  · simp only [if_pos h3, e1, e2]
    generalize (!tnF c.nm || !idF c.ig) = p2
    generalize (!isK c.k) = p4
    revert p2 p4
    decide
  · simp only [if_neg h3, e1, e2]
    generalize (!tnF c.nm || !idF c.ig) = p2
    generalize hasF c.ms 0 = p3
    generalize (!isK c.k) = p4
    revert p2 p3 p4
    decide
theorem LbB.rangeIg {w : World} {g : Nat} {c : LbC} (h : LbB w g c) (hok : c.ok) : w.rangeAt g 34 (igL c.ig) := by
  intro j v hv
  have h2 := h.range (34 + j) v (by
    have := LbC.at' hok (2 + j)
    rw [show 32 + (2 + j) = 34 + j by omega] at this
    rw [this]
    unfold LbC.tl
    have hj : j < 4 := by
      rcases Nat.lt_or_ge j 4 with h' | h'
      · exact h'
      · rw [List.getElem?_eq_none (by exact h')] at hv; cases hv
    have : j = 0 ∨ j = 1 ∨ j = 2 ∨ j = 3 := by omega
    rcases this with rfl | rfl | rfl | rfl <;> exact hv)
  rwa [Nat.zero_add] at h2
set_option maxHeartbeats 4000000 in
set_option maxRecDepth 100000 in
theorem dtag_any (c : LbC) (w : World) (hok : c.ok) : Calls Tryz.prog 41 #[.agg c.l.toArray] w fun e w' => e = .returned (.int .i64 (teF c)) ∧ Below w.heap.size w w' := by
  obtain ⟨w1, hw1, hB1, hL1⟩ := LbC.box w c
  have KB1 := Kept.mk hB1
  have KC : Kept (∀ W, Below w1.heap.size w1 W → W.cell? ⟨w.heap.size, 32, none⟩ = some (.int .i64 c.k) ∧ W.cell? ⟨w.heap.size, 33, none⟩ = some (.string c.nm) ∧ W.cell? ⟨w.heap.size, 34, none⟩ = some (.string c.ig.nm) ∧ W.cell? ⟨w.heap.size, 35, none⟩ = some (.string c.ig.em) ∧ W.cell? ⟨w.heap.size, 36, none⟩ = some (.int .i64 c.ig.tm) ∧ W.cell? ⟨w.heap.size, 37, none⟩ = some (.int .i64 c.ig.zn) ∧ W.cell? ⟨w.heap.size, 38, none⟩ = some (.string c.ms)) := ⟨fun W hW => by
    have h := hL1.far hW hL1.lt
    exact ⟨h.cell hok 0 _ rfl, h.cell hok 1 _ rfl, h.cell hok 2 _ rfl, h.cell hok 3 _ rfl, h.cell hok 4 _ rfl, h.cell hok 5 _ rfl, h.cell hok 6 _ rfl⟩⟩
  have KRi : Kept (∀ W, Below w1.heap.size w1 W → W.rangeAt w.heap.size 34 (igL c.ig)) := ⟨fun W hW => (hL1.far hW hL1.lt).rangeIg hok⟩
  have KIi : Kept ((Tryz.prog.info? 51).map (·.size) = some (igL c.ig).length) := ⟨by kernel_rfl⟩
  have KLs := Kept.mk (tag_least c)
  have KTn := Kept.mk (tn_has c.nm)
  have KW : Kept (∀ W, Calls Tryz.prog 45 #[.int .i64 c.k] W fun e w' => e = .returned (.string (wdF c.k)) ∧ w' = W) := ⟨fun W => rword_any c.k W⟩
  have KIf : Kept (∀ (so : Bool) (e : Int) W, Calls Tryz.prog 44 #[.bool so, .int .i64 e] W fun x w' => x = .returned (.int .i64 (if so then e else 0)) ∧ w' = W) := ⟨fun so e W => if_any so e W⟩
  have KM : Kept (∀ W, Calls Tryz.prog 70 #[.string c.ms] W fun e w' => e = .returned (.int .i64 (msF c.ms)) ∧ Below W.heap.size W w') := ⟨fun W => message_any c.ms W (by have := hok.2.2.2.2.2; omega)⟩
  have KD : Kept (∀ W, Calls Tryz.prog 68 #[.agg (igL c.ig).toArray] W fun e w' => e = .returned (.bool (idF c.ig)) ∧ Below W.heap.size W w') := ⟨fun W => rident_any c.ig W⟩
  have KH : Kept (∀ W, Calls Tryz.prog 77 #[.string c.nm, .int .u8 0] W fun e w' => e = .returned (.bool (hasF c.nm 0)) ∧ Below W.heap.size W w') := ⟨fun W => has_any c.nm 0 0 rfl W (by have := hok.2.2.2.2.1; omega)⟩
  have KH10 : Kept (∀ W, Calls Tryz.prog 77 #[.string c.nm, .int .u8 10] W fun e w' => e = .returned (.bool (hasF c.nm 10)) ∧ Below W.heap.size W w') := ⟨fun W => has_any c.nm 10 10 rfl W (by have := hok.2.2.2.2.1; omega)⟩
  have hwe := wd_empty c.k
  obtain ⟨TE, hTE⟩ : ∃ TE, teF c = TE := ⟨_, rfl⟩
  have KTE := Kept.mk hTE
  rw [hTE] at KLs
  clear hTE
  obtain ⟨c32, c33, c34, c35, c36, c37, c38⟩ := KC.out w1 (Below.refl _ _)
  obtain ⟨tg, k, nm, ig, ms⟩ := c
  simp only at *
  generalize igL ig = IG at *
  generalize idF ig = qi at *
  generalize (LbC.mk tg k nm ig ms).l = CL at *
  generalize msF ms = r2 at *
  generalize (!isK k) = qe at *
  generalize wdF k = WD at *
  have Kqe := Kept.mk hwe
  obtain ⟨r1, hr1⟩ : ∃ r1 : Int, (if qe = true then 9 else 0) = r1 := ⟨_, rfl⟩
  rw [hr1] at KLs
  have KI1 : Kept (∀ W, Calls Tryz.prog 44 #[.bool qe, .int .i64 9] W fun x w' => x = .returned (.int .i64 r1) ∧ w' = W) := ⟨fun W => by rw [← hr1]; exact KIf.out qe 9 W⟩
  generalize tnF nm = tn at *
  generalize hasF nm 0 = h0 at *
  generalize hasF nm 10 = h10 at *
  clear hB1 hL1 hok hr1 hwe c32 c34 c35 c36 c37 c38
  by_cases hs0 : nm.size = 0
  · have hq0 : (nm.toList == []) = true := by
      rw [beq_iff_eq, Lib.toList_data]
      exact List.eq_nil_of_length_eq_zero (by rw [← Lib.size_eq]; exact hs0)
    have KN : Kept (tn = false) := ⟨by rw [KTn.out, hs0]; rfl⟩
    have KW1 : Kept (Below w1.heap.size w1 w1) := ⟨Below.refl _ _⟩
    have KBW := KB1
    clear hs0 KTn KH KH10
    go_enter Tryz.func41, Tryz.ntmps41
    go_upto_region 2 with fail
    try rw [hw1]
    clear hw1 hq0 c33
    have KCx : Kept (∀ X, CC w1 X → X.cell? ⟨w.heap.size, 32, none⟩ = some (.int .i64 k) ∧ X.cell? ⟨w.heap.size, 38, none⟩ = some (.string ms)) := ⟨fun X hX => by have h := KC.out X (KW1.out.trans (Below.mono hX KW1.out.size)); exact ⟨h.1, h.2.2.2.2.2.2⟩⟩
    have KRx : Kept (∀ X, CC w1 X → X.rangeAt w.heap.size 34 IG) := ⟨fun X hX => KRi.out X (KW1.out.trans (Below.mono hX KW1.out.size))⟩
    have KWo : Kept (∀ X, CC w1 X → Calls Tryz.prog 45 #[.int .i64 k] X fun e w' => e = .returned (.string WD) ∧ CC w1 w') := ⟨fun X hX => (KW.out X).mono fun e w' hp => ⟨hp.1, by rw [hp.2]; exact hX⟩⟩
    have KI1x : Kept (∀ X, CC w1 X → Calls Tryz.prog 44 #[.bool qe, .int .i64 9] X fun e w' => e = .returned (.int .i64 r1) ∧ CC w1 w') := ⟨fun X hX => (KI1.out X).mono fun e w' hp => ⟨hp.1, by rw [hp.2]; exact hX⟩⟩
    have KMx : Kept (∀ X, CC w1 X → Calls Tryz.prog 70 #[.string ms] X fun e w' => e = .returned (.int .i64 r2) ∧ CC w1 w') := ⟨fun X hX => (KM.out X).mono fun e w' hp => ⟨hp.1, hX.on hp.2⟩⟩
    have KDx : Kept (∀ X, CC w1 X → Calls Tryz.prog 68 #[.agg IG.toArray] X fun e w' => e = .returned (.bool qi) ∧ CC w1 w') := ⟨fun X hX => (KD.out X).mono fun e w' hp => ⟨hp.1, hX.on hp.2⟩⟩
    obtain ⟨r3, hr3⟩ : ∃ r3 : Int, r3 = 3 := ⟨_, rfl⟩
    obtain ⟨qn, hqn⟩ : ∃ qn, qn = true := ⟨_, rfl⟩
    have KI3x : Kept (∀ X, CC w1 X → Calls Tryz.prog 44 #[.bool true, .int .i64 3] X fun e w' => e = .returned (.int .i64 r3) ∧ CC w1 w') := ⟨fun X hX => (KIf.out _ 3 X).mono fun e w' hp => ⟨by rw [hp.1, hr3]; rfl, by rw [hp.2]; exact hX⟩⟩
    have KLs3 : Kept ([r1, r2, r3].foldl lsF 0 = TE) := ⟨by rw [hr3, ← KLs.out, KN.out]; rfl⟩
    clear hr3 hqn KC KRi KW KI1 KM KD KIf KLs KN
    refine wp_region_part (C := CC w1) 15 3 #[true, true, true, true, true, true, true, true, true, true, true, true, true, true, true, true, false, false, false] (by kernel_rfl) (by kernel_rfl) (Below.refl _ _).drew ?_
    simp only [List.take_succ_cons, List.take_zero]
    refine BigFrame.wpQuiet_want rfl (fun K hK => quiet_run (v := .pointer (some ⟨w.heap.size, 32, none⟩)) (fun W hW => by go_simp; all_goals first | rfl | (intro hneg; exfalso; omega)) (hK _ ?_))
    clear hK K
    simp only [Act.put, List.setIfInBounds_toArray, List.set_cons_zero, List.set_cons_succ]
    refine BigFrame.wpQuiet_want rfl (fun K hK => quiet_run (v := .int .i64 k) (fun W hW => by have := (KCx.out W hW).1; go_simp; all_goals first | rfl | (intro hneg; exfalso; omega)) (hK _ ?_))
    clear hK K
    simp only [Act.put, List.setIfInBounds_toArray, List.set_cons_zero, List.set_cons_succ]
    go_big_quiet_step ((intro hCw; exact KWo.out _ hCw))
    refine BigFrame.wpQuiet_want rfl (fun K hK => quiet_run (v := .bool qe) (fun W hW => by have := Kqe.out; go_simp; all_goals first | rfl | (intro hneg; exfalso; omega)) (hK _ ?_))
    clear hK K
    simp only [Act.put, List.setIfInBounds_toArray, List.set_cons_zero, List.set_cons_succ]
    go_big_quiet_step ((intro hCw; exact KI1x.out _ hCw))
    refine BigFrame.wpQuiet_want rfl (fun K hK => quiet_run (v := .pointer (some ⟨w.heap.size, 38, none⟩)) (fun W hW => by go_simp; all_goals first | rfl | (intro hneg; exfalso; omega)) (hK _ ?_))
    clear hK K
    simp only [Act.put, List.setIfInBounds_toArray, List.set_cons_zero, List.set_cons_succ]
    refine BigFrame.wpQuiet_want rfl (fun K hK => quiet_run (v := .string ms) (fun W hW => by have := (KCx.out W hW).2; go_simp; all_goals first | rfl | (intro hneg; exfalso; omega)) (hK _ ?_))
    clear hK K
    simp only [Act.put, List.setIfInBounds_toArray, List.set_cons_zero, List.set_cons_succ]
    go_big_quiet_step ((intro hCw; exact KMx.out _ hCw))
    go_big_quiet_step ((intro _; rfl))
    go_big_quiet_step ((intro _; rfl))
    go_big_quiet_step ((intro _; rfl))
    go_big_quiet_step ((intro _; rfl))
    go_big_quiet_step ((intro _; rfl))
    go_big_quiet_step ((intro _; rfl))
    go_big_quiet_step ((intro _; rfl))
    go_big_quiet_step ((intro hCw; exact KI3x.out _ hCw))
    refine wpQuiet_nil ?_
    intro x1 hx1
    have KBx := Kept.mk (KBW.out.trans (Below.mono hx1 KBW.out.size))
    obtain ⟨x2, hx2⟩ : ∃ x2, x1.alloc (.cells #[.int .i64 r1, .int .i64 r2, .int .i64 r3] 28) = x2 := ⟨_, rfl⟩
    have hh2 : x2.heap[x1.heap.size]? = some (.cells (cellsK .i64 [r1, r2, r3]).toArray 28) := by rw [← hx2]; exact heap_alloc_new x1 _
    have hBx2 : Below x1.heap.size x1 x2 := by rw [← hx2]; exact (Below.refl _ _).alloc (Nat.le_refl _) _
    have hLs := least_any [r1, r2, r3] x1.heap.size x2 hh2 (by simp)
    rw [KLs3.out] at hLs
    have KLa : Kept (Calls Tryz.prog 43 #[.slice (some ⟨x1.heap.size, 0, none⟩) 3 3] x2 fun e w' => e = .returned (.int .i64 TE) ∧ w' = x2) := ⟨hLs⟩
    have KB2 := Kept.mk (KBx.out.trans (hBx2.mono KBx.out.size))
    clear hh2 hBx2 hLs hx1 KCx KRx KWo KI1x KMx KDx KI3x KLs3
    refine An.wpAny_one (i := 16) (by kernel_rfl) rfl rfl (fun K hK => ?_)
    go_simp
    refine hK _ _ ?_
    clear hK K
    try rw [hx2]
    clear hx2
    refine An.wpAny_one (i := 17) (by kernel_rfl) rfl rfl (fun K hK => ?_)
    go_simp
    refine Calls.mono KLa.out (fun e x3 hp => ?_)
    obtain ⟨rfl, hx3⟩ := hp
    subst x3
    refine hK _ _ ?_
    clear hK K
    refine An.wpAny_one (i := 18) (by kernel_rfl) rfl rfl (fun K hK => ?_)
    go_simp
    refine hK _ _ ?_
    clear hK K
    refine wpAny_done (by kernel_rfl) (NoPanic.normal ?_) _
    go_wp2
    go_ret
    exact ⟨by rw [KTE.out]; rfl, KB2.out⟩
  · have hq0 : (nm.toList == []) = false := by
      rw [beq_eq_false_iff_ne]
      intro h
      rw [Lib.toList_data] at h
      exact hs0 (by rw [Lib.size_eq, h]; rfl)
    by_cases hs1 : 100 < nm.size
    · have hq1 : decide ((100 : Int) < (nm.size : Int)) = true := decide_eq_true (by omega)
      have KN : Kept (tn = false) := ⟨by rw [KTn.out, decide_eq_false (show ¬ nm.size ≤ 100 by omega)]; simp⟩
      have KW1 : Kept (Below w1.heap.size w1 w1) := ⟨Below.refl _ _⟩
      have KBW := KB1
      clear hs0 hs1 KTn KH KH10
      go_enter Tryz.func41, Tryz.ntmps41
      go_upto_region 2 with fail
      try rw [hw1]
      clear hw1 hq0 hq1 c33
      have KCx : Kept (∀ X, CC w1 X → X.cell? ⟨w.heap.size, 32, none⟩ = some (.int .i64 k) ∧ X.cell? ⟨w.heap.size, 38, none⟩ = some (.string ms)) := ⟨fun X hX => by have h := KC.out X (KW1.out.trans (Below.mono hX KW1.out.size)); exact ⟨h.1, h.2.2.2.2.2.2⟩⟩
      have KRx : Kept (∀ X, CC w1 X → X.rangeAt w.heap.size 34 IG) := ⟨fun X hX => KRi.out X (KW1.out.trans (Below.mono hX KW1.out.size))⟩
      have KWo : Kept (∀ X, CC w1 X → Calls Tryz.prog 45 #[.int .i64 k] X fun e w' => e = .returned (.string WD) ∧ CC w1 w') := ⟨fun X hX => (KW.out X).mono fun e w' hp => ⟨hp.1, by rw [hp.2]; exact hX⟩⟩
      have KI1x : Kept (∀ X, CC w1 X → Calls Tryz.prog 44 #[.bool qe, .int .i64 9] X fun e w' => e = .returned (.int .i64 r1) ∧ CC w1 w') := ⟨fun X hX => (KI1.out X).mono fun e w' hp => ⟨hp.1, by rw [hp.2]; exact hX⟩⟩
      have KMx : Kept (∀ X, CC w1 X → Calls Tryz.prog 70 #[.string ms] X fun e w' => e = .returned (.int .i64 r2) ∧ CC w1 w') := ⟨fun X hX => (KM.out X).mono fun e w' hp => ⟨hp.1, hX.on hp.2⟩⟩
      have KDx : Kept (∀ X, CC w1 X → Calls Tryz.prog 68 #[.agg IG.toArray] X fun e w' => e = .returned (.bool qi) ∧ CC w1 w') := ⟨fun X hX => (KD.out X).mono fun e w' hp => ⟨hp.1, hX.on hp.2⟩⟩
      obtain ⟨r3, hr3⟩ : ∃ r3 : Int, r3 = 3 := ⟨_, rfl⟩
      obtain ⟨qn, hqn⟩ : ∃ qn, qn = true := ⟨_, rfl⟩
      have KI3x : Kept (∀ X, CC w1 X → Calls Tryz.prog 44 #[.bool true, .int .i64 3] X fun e w' => e = .returned (.int .i64 r3) ∧ CC w1 w') := ⟨fun X hX => (KIf.out _ 3 X).mono fun e w' hp => ⟨by rw [hp.1, hr3]; rfl, by rw [hp.2]; exact hX⟩⟩
      have KLs3 : Kept ([r1, r2, r3].foldl lsF 0 = TE) := ⟨by rw [hr3, ← KLs.out, KN.out]; rfl⟩
      clear hr3 hqn KC KRi KW KI1 KM KD KIf KLs KN
      refine wp_region_part (C := CC w1) 15 3 #[true, true, true, true, true, true, true, true, true, true, true, true, true, true, true, true, false, false, false] (by kernel_rfl) (by kernel_rfl) (Below.refl _ _).drew ?_
      simp only [List.take_succ_cons, List.take_zero]
      refine BigFrame.wpQuiet_want rfl (fun K hK => quiet_run (v := .pointer (some ⟨w.heap.size, 32, none⟩)) (fun W hW => by go_simp; all_goals first | rfl | (intro hneg; exfalso; omega)) (hK _ ?_))
      clear hK K
      simp only [Act.put, List.setIfInBounds_toArray, List.set_cons_zero, List.set_cons_succ]
      refine BigFrame.wpQuiet_want rfl (fun K hK => quiet_run (v := .int .i64 k) (fun W hW => by have := (KCx.out W hW).1; go_simp; all_goals first | rfl | (intro hneg; exfalso; omega)) (hK _ ?_))
      clear hK K
      simp only [Act.put, List.setIfInBounds_toArray, List.set_cons_zero, List.set_cons_succ]
      go_big_quiet_step ((intro hCw; exact KWo.out _ hCw))
      refine BigFrame.wpQuiet_want rfl (fun K hK => quiet_run (v := .bool qe) (fun W hW => by have := Kqe.out; go_simp; all_goals first | rfl | (intro hneg; exfalso; omega)) (hK _ ?_))
      clear hK K
      simp only [Act.put, List.setIfInBounds_toArray, List.set_cons_zero, List.set_cons_succ]
      go_big_quiet_step ((intro hCw; exact KI1x.out _ hCw))
      refine BigFrame.wpQuiet_want rfl (fun K hK => quiet_run (v := .pointer (some ⟨w.heap.size, 38, none⟩)) (fun W hW => by go_simp; all_goals first | rfl | (intro hneg; exfalso; omega)) (hK _ ?_))
      clear hK K
      simp only [Act.put, List.setIfInBounds_toArray, List.set_cons_zero, List.set_cons_succ]
      refine BigFrame.wpQuiet_want rfl (fun K hK => quiet_run (v := .string ms) (fun W hW => by have := (KCx.out W hW).2; go_simp; all_goals first | rfl | (intro hneg; exfalso; omega)) (hK _ ?_))
      clear hK K
      simp only [Act.put, List.setIfInBounds_toArray, List.set_cons_zero, List.set_cons_succ]
      go_big_quiet_step ((intro hCw; exact KMx.out _ hCw))
      go_big_quiet_step ((intro _; rfl))
      go_big_quiet_step ((intro _; rfl))
      go_big_quiet_step ((intro _; rfl))
      go_big_quiet_step ((intro _; rfl))
      go_big_quiet_step ((intro _; rfl))
      go_big_quiet_step ((intro _; rfl))
      go_big_quiet_step ((intro _; rfl))
      go_big_quiet_step ((intro hCw; exact KI3x.out _ hCw))
      refine wpQuiet_nil ?_
      intro x1 hx1
      have KBx := Kept.mk (KBW.out.trans (Below.mono hx1 KBW.out.size))
      obtain ⟨x2, hx2⟩ : ∃ x2, x1.alloc (.cells #[.int .i64 r1, .int .i64 r2, .int .i64 r3] 28) = x2 := ⟨_, rfl⟩
      have hh2 : x2.heap[x1.heap.size]? = some (.cells (cellsK .i64 [r1, r2, r3]).toArray 28) := by rw [← hx2]; exact heap_alloc_new x1 _
      have hBx2 : Below x1.heap.size x1 x2 := by rw [← hx2]; exact (Below.refl _ _).alloc (Nat.le_refl _) _
      have hLs := least_any [r1, r2, r3] x1.heap.size x2 hh2 (by simp)
      rw [KLs3.out] at hLs
      have KLa : Kept (Calls Tryz.prog 43 #[.slice (some ⟨x1.heap.size, 0, none⟩) 3 3] x2 fun e w' => e = .returned (.int .i64 TE) ∧ w' = x2) := ⟨hLs⟩
      have KB2 := Kept.mk (KBx.out.trans (hBx2.mono KBx.out.size))
      clear hh2 hBx2 hLs hx1 KCx KRx KWo KI1x KMx KDx KI3x KLs3
      refine An.wpAny_one (i := 16) (by kernel_rfl) rfl rfl (fun K hK => ?_)
      go_simp
      refine hK _ _ ?_
      clear hK K
      try rw [hx2]
      clear hx2
      refine An.wpAny_one (i := 17) (by kernel_rfl) rfl rfl (fun K hK => ?_)
      go_simp
      refine Calls.mono KLa.out (fun e x3 hp => ?_)
      obtain ⟨rfl, hx3⟩ := hp
      subst x3
      refine hK _ _ ?_
      clear hK K
      refine An.wpAny_one (i := 18) (by kernel_rfl) rfl rfl (fun K hK => ?_)
      go_simp
      refine hK _ _ ?_
      clear hK K
      refine wpAny_done (by kernel_rfl) (NoPanic.normal ?_) _
      go_wp2
      go_ret
      exact ⟨by rw [KTE.out]; rfl, KB2.out⟩
    · have hq1 : decide ((100 : Int) < (nm.size : Int)) = false := decide_eq_false (by omega)
      have KTn2 : Kept (tn = !(h0 || h10)) := ⟨by rw [KTn.out, decide_eq_true (show 1 ≤ nm.size by omega), decide_eq_true (show nm.size ≤ 100 by omega)]; simp⟩
      clear hs0 hs1 KTn
      go_enter Tryz.func41, Tryz.ntmps41
      go_wp2_with fail
      try rw [hw1]
      clear hw1
      refine Calls.mono (KH.out w1) (fun e w2 hp => ?_)
      obtain ⟨rfl, hb2⟩ := hp
      have KW2 := Kept.mk hb2
      have KBW2 := Kept.mk (KB1.out.trans (hb2.mono KB1.out.size))
      clear c33 hb2 KH
      cases h0 with
      | true =>
        have KN : Kept (tn = false) := ⟨by rw [KTn2.out]; rfl⟩
        have KW1 := KW2
        have KBW := KBW2
        clear KTn2 KH10
        go_upto_region 2 with fail
        clear hq0 hq1
        have KCx : Kept (∀ X, CC w2 X → X.cell? ⟨w.heap.size, 32, none⟩ = some (.int .i64 k) ∧ X.cell? ⟨w.heap.size, 38, none⟩ = some (.string ms)) := ⟨fun X hX => by have h := KC.out X (KW1.out.trans (Below.mono hX KW1.out.size)); exact ⟨h.1, h.2.2.2.2.2.2⟩⟩
        have KRx : Kept (∀ X, CC w2 X → X.rangeAt w.heap.size 34 IG) := ⟨fun X hX => KRi.out X (KW1.out.trans (Below.mono hX KW1.out.size))⟩
        have KWo : Kept (∀ X, CC w2 X → Calls Tryz.prog 45 #[.int .i64 k] X fun e w' => e = .returned (.string WD) ∧ CC w2 w') := ⟨fun X hX => (KW.out X).mono fun e w' hp => ⟨hp.1, by rw [hp.2]; exact hX⟩⟩
        have KI1x : Kept (∀ X, CC w2 X → Calls Tryz.prog 44 #[.bool qe, .int .i64 9] X fun e w' => e = .returned (.int .i64 r1) ∧ CC w2 w') := ⟨fun X hX => (KI1.out X).mono fun e w' hp => ⟨hp.1, by rw [hp.2]; exact hX⟩⟩
        have KMx : Kept (∀ X, CC w2 X → Calls Tryz.prog 70 #[.string ms] X fun e w' => e = .returned (.int .i64 r2) ∧ CC w2 w') := ⟨fun X hX => (KM.out X).mono fun e w' hp => ⟨hp.1, hX.on hp.2⟩⟩
        have KDx : Kept (∀ X, CC w2 X → Calls Tryz.prog 68 #[.agg IG.toArray] X fun e w' => e = .returned (.bool qi) ∧ CC w2 w') := ⟨fun X hX => (KD.out X).mono fun e w' hp => ⟨hp.1, hX.on hp.2⟩⟩
        obtain ⟨r3, hr3⟩ : ∃ r3 : Int, r3 = 3 := ⟨_, rfl⟩
        obtain ⟨qn, hqn⟩ : ∃ qn, qn = true := ⟨_, rfl⟩
        have KI3x : Kept (∀ X, CC w2 X → Calls Tryz.prog 44 #[.bool true, .int .i64 3] X fun e w' => e = .returned (.int .i64 r3) ∧ CC w2 w') := ⟨fun X hX => (KIf.out _ 3 X).mono fun e w' hp => ⟨by rw [hp.1, hr3]; rfl, by rw [hp.2]; exact hX⟩⟩
        have KLs3 : Kept ([r1, r2, r3].foldl lsF 0 = TE) := ⟨by rw [hr3, ← KLs.out, KN.out]; rfl⟩
        clear hr3 hqn KC KRi KW KI1 KM KD KIf KLs KN
        refine wp_region_part (C := CC w2) 15 3 #[true, true, true, true, true, true, true, true, true, true, true, true, true, true, true, true, false, false, false] (by kernel_rfl) (by kernel_rfl) (Below.refl _ _).drew ?_
        simp only [List.take_succ_cons, List.take_zero]
        refine BigFrame.wpQuiet_want rfl (fun K hK => quiet_run (v := .pointer (some ⟨w.heap.size, 32, none⟩)) (fun W hW => by go_simp; all_goals first | rfl | (intro hneg; exfalso; omega)) (hK _ ?_))
        clear hK K
        simp only [Act.put, List.setIfInBounds_toArray, List.set_cons_zero, List.set_cons_succ]
        refine BigFrame.wpQuiet_want rfl (fun K hK => quiet_run (v := .int .i64 k) (fun W hW => by have := (KCx.out W hW).1; go_simp; all_goals first | rfl | (intro hneg; exfalso; omega)) (hK _ ?_))
        clear hK K
        simp only [Act.put, List.setIfInBounds_toArray, List.set_cons_zero, List.set_cons_succ]
        go_big_quiet_step ((intro hCw; exact KWo.out _ hCw))
        refine BigFrame.wpQuiet_want rfl (fun K hK => quiet_run (v := .bool qe) (fun W hW => by have := Kqe.out; go_simp; all_goals first | rfl | (intro hneg; exfalso; omega)) (hK _ ?_))
        clear hK K
        simp only [Act.put, List.setIfInBounds_toArray, List.set_cons_zero, List.set_cons_succ]
        go_big_quiet_step ((intro hCw; exact KI1x.out _ hCw))
        refine BigFrame.wpQuiet_want rfl (fun K hK => quiet_run (v := .pointer (some ⟨w.heap.size, 38, none⟩)) (fun W hW => by go_simp; all_goals first | rfl | (intro hneg; exfalso; omega)) (hK _ ?_))
        clear hK K
        simp only [Act.put, List.setIfInBounds_toArray, List.set_cons_zero, List.set_cons_succ]
        refine BigFrame.wpQuiet_want rfl (fun K hK => quiet_run (v := .string ms) (fun W hW => by have := (KCx.out W hW).2; go_simp; all_goals first | rfl | (intro hneg; exfalso; omega)) (hK _ ?_))
        clear hK K
        simp only [Act.put, List.setIfInBounds_toArray, List.set_cons_zero, List.set_cons_succ]
        go_big_quiet_step ((intro hCw; exact KMx.out _ hCw))
        go_big_quiet_step ((intro _; rfl))
        go_big_quiet_step ((intro _; rfl))
        go_big_quiet_step ((intro _; rfl))
        go_big_quiet_step ((intro _; rfl))
        go_big_quiet_step ((intro _; rfl))
        go_big_quiet_step ((intro _; rfl))
        go_big_quiet_step ((intro _; rfl))
        go_big_quiet_step ((intro hCw; exact KI3x.out _ hCw))
        refine wpQuiet_nil ?_
        intro x1 hx1
        have KBx := Kept.mk (KBW.out.trans (Below.mono hx1 KBW.out.size))
        obtain ⟨x2, hx2⟩ : ∃ x2, x1.alloc (.cells #[.int .i64 r1, .int .i64 r2, .int .i64 r3] 28) = x2 := ⟨_, rfl⟩
        have hh2 : x2.heap[x1.heap.size]? = some (.cells (cellsK .i64 [r1, r2, r3]).toArray 28) := by rw [← hx2]; exact heap_alloc_new x1 _
        have hBx2 : Below x1.heap.size x1 x2 := by rw [← hx2]; exact (Below.refl _ _).alloc (Nat.le_refl _) _
        have hLs := least_any [r1, r2, r3] x1.heap.size x2 hh2 (by simp)
        rw [KLs3.out] at hLs
        have KLa : Kept (Calls Tryz.prog 43 #[.slice (some ⟨x1.heap.size, 0, none⟩) 3 3] x2 fun e w' => e = .returned (.int .i64 TE) ∧ w' = x2) := ⟨hLs⟩
        have KB2 := Kept.mk (KBx.out.trans (hBx2.mono KBx.out.size))
        clear hh2 hBx2 hLs hx1 KCx KRx KWo KI1x KMx KDx KI3x KLs3
        refine An.wpAny_one (i := 16) (by kernel_rfl) rfl rfl (fun K hK => ?_)
        go_simp
        refine hK _ _ ?_
        clear hK K
        try rw [hx2]
        clear hx2
        refine An.wpAny_one (i := 17) (by kernel_rfl) rfl rfl (fun K hK => ?_)
        go_simp
        refine Calls.mono KLa.out (fun e x3 hp => ?_)
        obtain ⟨rfl, hx3⟩ := hp
        subst x3
        refine hK _ _ ?_
        clear hK K
        refine An.wpAny_one (i := 18) (by kernel_rfl) rfl rfl (fun K hK => ?_)
        go_simp
        refine hK _ _ ?_
        clear hK K
        refine wpAny_done (by kernel_rfl) (NoPanic.normal ?_) _
        go_wp2
        go_ret
        exact ⟨by rw [KTE.out]; rfl, KB2.out⟩
      | false =>
        have c33 := (KC.out w2 KW2.out).2.1
        go_wp2_with fail
        refine Calls.mono (KH10.out w2) (fun e w3 hp => ?_)
        obtain ⟨rfl, hb3⟩ := hp
        have KW1 := Kept.mk (KW2.out.trans (hb3.mono KW2.out.size))
        have KBW := Kept.mk (KBW2.out.trans (hb3.mono KBW2.out.size))
        clear c33 hb3 KH10
        cases h10 with
        | true =>
          have KN : Kept (tn = false) := ⟨by rw [KTn2.out]; rfl⟩
          clear KTn2
          go_upto_region 2 with fail
          clear hq0 hq1
          have KCx : Kept (∀ X, CC w3 X → X.cell? ⟨w.heap.size, 32, none⟩ = some (.int .i64 k) ∧ X.cell? ⟨w.heap.size, 38, none⟩ = some (.string ms)) := ⟨fun X hX => by have h := KC.out X (KW1.out.trans (Below.mono hX KW1.out.size)); exact ⟨h.1, h.2.2.2.2.2.2⟩⟩
          have KRx : Kept (∀ X, CC w3 X → X.rangeAt w.heap.size 34 IG) := ⟨fun X hX => KRi.out X (KW1.out.trans (Below.mono hX KW1.out.size))⟩
          have KWo : Kept (∀ X, CC w3 X → Calls Tryz.prog 45 #[.int .i64 k] X fun e w' => e = .returned (.string WD) ∧ CC w3 w') := ⟨fun X hX => (KW.out X).mono fun e w' hp => ⟨hp.1, by rw [hp.2]; exact hX⟩⟩
          have KI1x : Kept (∀ X, CC w3 X → Calls Tryz.prog 44 #[.bool qe, .int .i64 9] X fun e w' => e = .returned (.int .i64 r1) ∧ CC w3 w') := ⟨fun X hX => (KI1.out X).mono fun e w' hp => ⟨hp.1, by rw [hp.2]; exact hX⟩⟩
          have KMx : Kept (∀ X, CC w3 X → Calls Tryz.prog 70 #[.string ms] X fun e w' => e = .returned (.int .i64 r2) ∧ CC w3 w') := ⟨fun X hX => (KM.out X).mono fun e w' hp => ⟨hp.1, hX.on hp.2⟩⟩
          have KDx : Kept (∀ X, CC w3 X → Calls Tryz.prog 68 #[.agg IG.toArray] X fun e w' => e = .returned (.bool qi) ∧ CC w3 w') := ⟨fun X hX => (KD.out X).mono fun e w' hp => ⟨hp.1, hX.on hp.2⟩⟩
          obtain ⟨r3, hr3⟩ : ∃ r3 : Int, r3 = 3 := ⟨_, rfl⟩
          obtain ⟨qn, hqn⟩ : ∃ qn, qn = true := ⟨_, rfl⟩
          have KI3x : Kept (∀ X, CC w3 X → Calls Tryz.prog 44 #[.bool true, .int .i64 3] X fun e w' => e = .returned (.int .i64 r3) ∧ CC w3 w') := ⟨fun X hX => (KIf.out _ 3 X).mono fun e w' hp => ⟨by rw [hp.1, hr3]; rfl, by rw [hp.2]; exact hX⟩⟩
          have KLs3 : Kept ([r1, r2, r3].foldl lsF 0 = TE) := ⟨by rw [hr3, ← KLs.out, KN.out]; rfl⟩
          clear hr3 hqn KC KRi KW KI1 KM KD KIf KLs KN
          refine wp_region_part (C := CC w3) 15 3 #[true, true, true, true, true, true, true, true, true, true, true, true, true, true, true, true, false, false, false] (by kernel_rfl) (by kernel_rfl) (Below.refl _ _).drew ?_
          simp only [List.take_succ_cons, List.take_zero]
          refine BigFrame.wpQuiet_want rfl (fun K hK => quiet_run (v := .pointer (some ⟨w.heap.size, 32, none⟩)) (fun W hW => by go_simp; all_goals first | rfl | (intro hneg; exfalso; omega)) (hK _ ?_))
          clear hK K
          simp only [Act.put, List.setIfInBounds_toArray, List.set_cons_zero, List.set_cons_succ]
          refine BigFrame.wpQuiet_want rfl (fun K hK => quiet_run (v := .int .i64 k) (fun W hW => by have := (KCx.out W hW).1; go_simp; all_goals first | rfl | (intro hneg; exfalso; omega)) (hK _ ?_))
          clear hK K
          simp only [Act.put, List.setIfInBounds_toArray, List.set_cons_zero, List.set_cons_succ]
          go_big_quiet_step ((intro hCw; exact KWo.out _ hCw))
          refine BigFrame.wpQuiet_want rfl (fun K hK => quiet_run (v := .bool qe) (fun W hW => by have := Kqe.out; go_simp; all_goals first | rfl | (intro hneg; exfalso; omega)) (hK _ ?_))
          clear hK K
          simp only [Act.put, List.setIfInBounds_toArray, List.set_cons_zero, List.set_cons_succ]
          go_big_quiet_step ((intro hCw; exact KI1x.out _ hCw))
          refine BigFrame.wpQuiet_want rfl (fun K hK => quiet_run (v := .pointer (some ⟨w.heap.size, 38, none⟩)) (fun W hW => by go_simp; all_goals first | rfl | (intro hneg; exfalso; omega)) (hK _ ?_))
          clear hK K
          simp only [Act.put, List.setIfInBounds_toArray, List.set_cons_zero, List.set_cons_succ]
          refine BigFrame.wpQuiet_want rfl (fun K hK => quiet_run (v := .string ms) (fun W hW => by have := (KCx.out W hW).2; go_simp; all_goals first | rfl | (intro hneg; exfalso; omega)) (hK _ ?_))
          clear hK K
          simp only [Act.put, List.setIfInBounds_toArray, List.set_cons_zero, List.set_cons_succ]
          go_big_quiet_step ((intro hCw; exact KMx.out _ hCw))
          go_big_quiet_step ((intro _; rfl))
          go_big_quiet_step ((intro _; rfl))
          go_big_quiet_step ((intro _; rfl))
          go_big_quiet_step ((intro _; rfl))
          go_big_quiet_step ((intro _; rfl))
          go_big_quiet_step ((intro _; rfl))
          go_big_quiet_step ((intro _; rfl))
          go_big_quiet_step ((intro hCw; exact KI3x.out _ hCw))
          refine wpQuiet_nil ?_
          intro x1 hx1
          have KBx := Kept.mk (KBW.out.trans (Below.mono hx1 KBW.out.size))
          obtain ⟨x2, hx2⟩ : ∃ x2, x1.alloc (.cells #[.int .i64 r1, .int .i64 r2, .int .i64 r3] 28) = x2 := ⟨_, rfl⟩
          have hh2 : x2.heap[x1.heap.size]? = some (.cells (cellsK .i64 [r1, r2, r3]).toArray 28) := by rw [← hx2]; exact heap_alloc_new x1 _
          have hBx2 : Below x1.heap.size x1 x2 := by rw [← hx2]; exact (Below.refl _ _).alloc (Nat.le_refl _) _
          have hLs := least_any [r1, r2, r3] x1.heap.size x2 hh2 (by simp)
          rw [KLs3.out] at hLs
          have KLa : Kept (Calls Tryz.prog 43 #[.slice (some ⟨x1.heap.size, 0, none⟩) 3 3] x2 fun e w' => e = .returned (.int .i64 TE) ∧ w' = x2) := ⟨hLs⟩
          have KB2 := Kept.mk (KBx.out.trans (hBx2.mono KBx.out.size))
          clear hh2 hBx2 hLs hx1 KCx KRx KWo KI1x KMx KDx KI3x KLs3
          refine An.wpAny_one (i := 16) (by kernel_rfl) rfl rfl (fun K hK => ?_)
          go_simp
          refine hK _ _ ?_
          clear hK K
          try rw [hx2]
          clear hx2
          refine An.wpAny_one (i := 17) (by kernel_rfl) rfl rfl (fun K hK => ?_)
          go_simp
          refine Calls.mono KLa.out (fun e x3 hp => ?_)
          obtain ⟨rfl, hx3⟩ := hp
          subst x3
          refine hK _ _ ?_
          clear hK K
          refine An.wpAny_one (i := 18) (by kernel_rfl) rfl rfl (fun K hK => ?_)
          go_simp
          refine hK _ _ ?_
          clear hK K
          refine wpAny_done (by kernel_rfl) (NoPanic.normal ?_) _
          go_wp2
          go_ret
          exact ⟨by rw [KTE.out]; rfl, KB2.out⟩
        | false =>
          have KN : Kept (tn = true) := ⟨by rw [KTn2.out]; rfl⟩
          clear KTn2
          go_upto_region 2 with fail
          clear hq0 hq1
          have KCx : Kept (∀ X, CC w3 X → X.cell? ⟨w.heap.size, 32, none⟩ = some (.int .i64 k) ∧ X.cell? ⟨w.heap.size, 38, none⟩ = some (.string ms)) := ⟨fun X hX => by have h := KC.out X (KW1.out.trans (Below.mono hX KW1.out.size)); exact ⟨h.1, h.2.2.2.2.2.2⟩⟩
          have KRx : Kept (∀ X, CC w3 X → X.rangeAt w.heap.size 34 IG) := ⟨fun X hX => KRi.out X (KW1.out.trans (Below.mono hX KW1.out.size))⟩
          have KWo : Kept (∀ X, CC w3 X → Calls Tryz.prog 45 #[.int .i64 k] X fun e w' => e = .returned (.string WD) ∧ CC w3 w') := ⟨fun X hX => (KW.out X).mono fun e w' hp => ⟨hp.1, by rw [hp.2]; exact hX⟩⟩
          have KI1x : Kept (∀ X, CC w3 X → Calls Tryz.prog 44 #[.bool qe, .int .i64 9] X fun e w' => e = .returned (.int .i64 r1) ∧ CC w3 w') := ⟨fun X hX => (KI1.out X).mono fun e w' hp => ⟨hp.1, by rw [hp.2]; exact hX⟩⟩
          have KMx : Kept (∀ X, CC w3 X → Calls Tryz.prog 70 #[.string ms] X fun e w' => e = .returned (.int .i64 r2) ∧ CC w3 w') := ⟨fun X hX => (KM.out X).mono fun e w' hp => ⟨hp.1, hX.on hp.2⟩⟩
          have KDx : Kept (∀ X, CC w3 X → Calls Tryz.prog 68 #[.agg IG.toArray] X fun e w' => e = .returned (.bool qi) ∧ CC w3 w') := ⟨fun X hX => (KD.out X).mono fun e w' hp => ⟨hp.1, hX.on hp.2⟩⟩
          obtain ⟨qn, hqn⟩ : ∃ qn, qn = !qi := ⟨_, rfl⟩
          obtain ⟨r3, hr3⟩ : ∃ r3 : Int, r3 = if qn = true then 3 else 0 := ⟨_, rfl⟩
          have KI3x : Kept (∀ X, CC w3 X → Calls Tryz.prog 44 #[.bool (!qi), .int .i64 3] X fun e w' => e = .returned (.int .i64 r3) ∧ CC w3 w') := ⟨fun X hX => (KIf.out _ 3 X).mono fun e w' hp => ⟨by rw [hp.1, hr3, hqn], by rw [hp.2]; exact hX⟩⟩
          have KLs3 : Kept ([r1, r2, r3].foldl lsF 0 = TE) := ⟨by rw [hr3, hqn, ← KLs.out, KN.out]; rfl⟩
          clear hr3 hqn KC KRi KW KI1 KM KD KIf KLs KN
          refine wp_region_part (C := CC w3) 15 3 #[true, true, true, true, true, true, true, true, true, true, true, true, true, true, true, true, false, false, false] (by kernel_rfl) (by kernel_rfl) (Below.refl _ _).drew ?_
          simp only [List.take_succ_cons, List.take_zero]
          refine BigFrame.wpQuiet_want rfl (fun K hK => quiet_run (v := .pointer (some ⟨w.heap.size, 32, none⟩)) (fun W hW => by go_simp; all_goals first | rfl | (intro hneg; exfalso; omega)) (hK _ ?_))
          clear hK K
          simp only [Act.put, List.setIfInBounds_toArray, List.set_cons_zero, List.set_cons_succ]
          refine BigFrame.wpQuiet_want rfl (fun K hK => quiet_run (v := .int .i64 k) (fun W hW => by have := (KCx.out W hW).1; go_simp; all_goals first | rfl | (intro hneg; exfalso; omega)) (hK _ ?_))
          clear hK K
          simp only [Act.put, List.setIfInBounds_toArray, List.set_cons_zero, List.set_cons_succ]
          go_big_quiet_step ((intro hCw; exact KWo.out _ hCw))
          refine BigFrame.wpQuiet_want rfl (fun K hK => quiet_run (v := .bool qe) (fun W hW => by have := Kqe.out; go_simp; all_goals first | rfl | (intro hneg; exfalso; omega)) (hK _ ?_))
          clear hK K
          simp only [Act.put, List.setIfInBounds_toArray, List.set_cons_zero, List.set_cons_succ]
          go_big_quiet_step ((intro hCw; exact KI1x.out _ hCw))
          refine BigFrame.wpQuiet_want rfl (fun K hK => quiet_run (v := .pointer (some ⟨w.heap.size, 38, none⟩)) (fun W hW => by go_simp; all_goals first | rfl | (intro hneg; exfalso; omega)) (hK _ ?_))
          clear hK K
          simp only [Act.put, List.setIfInBounds_toArray, List.set_cons_zero, List.set_cons_succ]
          refine BigFrame.wpQuiet_want rfl (fun K hK => quiet_run (v := .string ms) (fun W hW => by have := (KCx.out W hW).2; go_simp; all_goals first | rfl | (intro hneg; exfalso; omega)) (hK _ ?_))
          clear hK K
          simp only [Act.put, List.setIfInBounds_toArray, List.set_cons_zero, List.set_cons_succ]
          go_big_quiet_step ((intro hCw; exact KMx.out _ hCw))
          go_big_quiet_step ((intro _; rfl))
          go_big_quiet_step ((intro _; rfl))
          refine BigFrame.wpQuiet_want rfl (fun K hK => quiet_run (v := .pointer (some ⟨w.heap.size, 34, none⟩)) (fun W hW => by go_simp; all_goals first | rfl | (intro hneg; exfalso; omega)) (hK _ ?_))
          clear hK K
          simp only [Act.put, List.setIfInBounds_toArray, List.set_cons_zero, List.set_cons_succ]
          refine BigFrame.wpQuiet_want rfl (fun K hK => quiet_load_mid 51 _ rfl w.heap.size 34 rfl IG _ KRx.out Tryz.underlying51 rfl KIi.out (hK _ ?_))
          clear hK K
          simp only [Act.put, List.setIfInBounds_toArray, List.set_cons_zero, List.set_cons_succ]
          go_big_quiet_step ((intro hCw; exact KDx.out _ hCw))
          refine BigFrame.wpQuiet_want rfl (fun K hK => quiet_run (v := .bool (!qi)) (fun W hW => by go_simp; all_goals first | rfl | (intro hneg; exfalso; omega)) (hK _ ?_))
          clear hK K
          simp only [Act.put, List.setIfInBounds_toArray, List.set_cons_zero, List.set_cons_succ]
          refine BigFrame.wpQuiet_want rfl (fun K hK => quiet_run (v := .bool (!qi)) (fun W hW => by go_simp; all_goals first | rfl | (intro hneg; exfalso; omega)) (hK _ ?_))
          clear hK K
          simp only [Act.put, List.setIfInBounds_toArray, List.set_cons_zero, List.set_cons_succ]
          go_big_quiet_step ((intro hCw; exact KI3x.out _ hCw))
          refine wpQuiet_nil ?_
          intro x1 hx1
          have KBx := Kept.mk (KBW.out.trans (Below.mono hx1 KBW.out.size))
          obtain ⟨x2, hx2⟩ : ∃ x2, x1.alloc (.cells #[.int .i64 r1, .int .i64 r2, .int .i64 r3] 28) = x2 := ⟨_, rfl⟩
          have hh2 : x2.heap[x1.heap.size]? = some (.cells (cellsK .i64 [r1, r2, r3]).toArray 28) := by rw [← hx2]; exact heap_alloc_new x1 _
          have hBx2 : Below x1.heap.size x1 x2 := by rw [← hx2]; exact (Below.refl _ _).alloc (Nat.le_refl _) _
          have hLs := least_any [r1, r2, r3] x1.heap.size x2 hh2 (by simp)
          rw [KLs3.out] at hLs
          have KLa : Kept (Calls Tryz.prog 43 #[.slice (some ⟨x1.heap.size, 0, none⟩) 3 3] x2 fun e w' => e = .returned (.int .i64 TE) ∧ w' = x2) := ⟨hLs⟩
          have KB2 := Kept.mk (KBx.out.trans (hBx2.mono KBx.out.size))
          clear hh2 hBx2 hLs hx1 KCx KRx KWo KI1x KMx KDx KI3x KLs3
          refine An.wpAny_one (i := 16) (by kernel_rfl) rfl rfl (fun K hK => ?_)
          go_simp
          refine hK _ _ ?_
          clear hK K
          try rw [hx2]
          clear hx2
          refine An.wpAny_one (i := 17) (by kernel_rfl) rfl rfl (fun K hK => ?_)
          go_simp
          refine Calls.mono KLa.out (fun e x3 hp => ?_)
          obtain ⟨rfl, hx3⟩ := hp
          subst x3
          refine hK _ _ ?_
          clear hK K
          refine An.wpAny_one (i := 18) (by kernel_rfl) rfl rfl (fun K hK => ?_)
          go_simp
          refine hK _ _ ?_
          clear hK K
          refine wpAny_done (by kernel_rfl) (NoPanic.normal ?_) _
          go_wp2
          go_ret
          exact ⟨by rw [KTE.out]; rfl, KB2.out⟩


theorem strL_cat (a b : ByteArray) : strL (a ++ b) = strL a ++ strL b := by
  unfold strL
  rw [ByteArray.data_append, Array.toList_append, List.map_append]
theorem text_rd (w : World) (s : ByteArray) (hs : s.size ≤ 1000000) : ∃ W v, (convert 9 22 (.string s)).run Tryz.prog w = .ok v W ∧ Rd .u8 anyB W v (strL s) ∧ Below w.heap.size w W := by
  obtain ⟨W, cap, cur, fz, hrun, hrow, hcs, hfz, hsc, hcm, htk, hB⟩ := bytes_text w s hs
  refine ⟨W, _, hrun, ⟨some ⟨w.heap.size, 0, none⟩, cap, by rw [strL_length], by rw [strL_length]; exact hsc, hcm, (fun h => by cases h), fun _ => ⟨w.heap.size, 0, rfl, ?_, trivial, fun i hi => ?_⟩⟩, hB⟩
  · rcases Nat.lt_or_ge w.heap.size W.heap.size with h | h
    · exact h
    · rw [Array.getElem?_eq_none h] at hrow; cases hrow
  · rw [Nat.zero_add, cell_of_row W w.heap.size i _ _ _ hrow]
    have h1 := congrArg (fun l : List Value => l[i]?) htk
    rw [strL_length] at hi
    rw [List.getElem?_take_of_lt hi, Array.getElem?_toList] at h1
    rw [h1]
    unfold cellsK
    rw [List.getElem?_map, List.getElem?_eq_getElem (by rw [strL_length]; exact hi)]
    simp [List.getD, List.getElem?_eq_getElem (show i < (strL s).length by rw [strL_length]; exact hi)]
theorem tg_str (c : LbC) (hok : c.ok) : strL ((((((((⟨#[111, 98, 106, 101, 99, 116, 32]⟩ ++ strOfNums (Sh.hexF c.tg)) ++ ⟨#[10, 116, 121, 112, 101, 32]⟩) ++ wdF c.k) ++ ⟨#[10, 116, 97, 103, 32]⟩) ++ c.nm) ++ ⟨#[10, 116, 97, 103, 103, 101, 114, 32]⟩) ++ putB c.ig) ++ ⟨#[10, 10]⟩ ++ c.ms) = tgL c := by
  unfold tgL
  simp only [strL_cat, strL_back (fun x hx => Sh.hexF_allB (fun y hy => hok.2.1 y hy) x hx), List.append_assoc]
  rfl
set_option maxHeartbeats 4000000 in
set_option maxRecDepth 100000 in
theorem dTag_any (c : LbC) (w : World) (hg : Gl w) (hok : c.ok) (h0 : teF c = 0) : Calls Tryz.prog 42 #[.agg c.l.toArray] w fun e w' => ∃ v', e = .returned v' ∧ Rd .u8 anyB w' v' (tgL c) ∧ Below w.heap.size w w' := by
  obtain ⟨w1, hw1, hB1, hL1⟩ := LbC.box w c
  obtain ⟨hms, htn, hid, -, -⟩ := teF_ok h0
  have hns := tnF_size htn
  have hps := putB_small hid
  have hws := wd_size c.k
  have hxs : (strOfNums (Sh.hexF c.tg)).size = 64 := by rw [strOfNums_size, Sh.hexF_length, hok.1]
  have KB1 := Kept.mk hB1
  have KCx : Kept (∀ X, CC w1 X → X.cell? ⟨w.heap.size, 32, none⟩ = some (.int .i64 c.k) ∧ X.cell? ⟨w.heap.size, 33, none⟩ = some (.string c.nm) ∧ X.cell? ⟨w.heap.size, 38, none⟩ = some (.string c.ms)) := ⟨fun X hX => by
    have h := hL1.far hX hL1.lt
    exact ⟨h.cell hok 0 _ rfl, h.cell hok 1 _ rfl, h.cell hok 6 _ rfl⟩⟩
  have KRx : Kept (∀ X, CC w1 X → X.rangeAt w.heap.size 34 (igL c.ig)) := ⟨fun X hX => (hL1.far hX hL1.lt).rangeIg hok⟩
  have KTx : Kept (∀ X, CC w1 X → X.rangeAt w.heap.size 0 (cellsK .u8 c.tg)) := ⟨fun X hX j u hu => (hL1.far hX hL1.lt).range j u (by
    unfold LbC.l
    rw [List.getElem?_append_left (by
      rcases Nat.lt_or_ge j (cellsK .u8 c.tg).length with h' | h'
      · exact h'
      · rw [List.getElem?_eq_none h'] at hu; cases hu)]
    exact hu)⟩
  have KIi : Kept ((Tryz.prog.info? 51).map (·.size) = some (igL c.ig).length) := ⟨by kernel_rfl⟩
  have KIt : Kept ((Tryz.prog.info? 39).map (·.size) = some (cellsK .u8 c.tg).length) := ⟨by rw [cellsK_length, hok.1]; kernel_rfl⟩
  have KHx : Kept (∀ X, CC w1 X → Calls Tryz.prog 71 #[.agg (cellsK .u8 c.tg).toArray] X fun e w' => e = .returned (.string (strOfNums (Sh.hexF c.tg))) ∧ CC w1 w') := ⟨fun X hX => (Sh.rhex_any c.tg X hok.1 (fun x hx => hok.2.1 x hx)).mono fun e w' hp => ⟨hp.1, hX.on hp.2⟩⟩
  have KWx : Kept (∀ X, CC w1 X → Calls Tryz.prog 45 #[.int .i64 c.k] X fun e w' => e = .returned (.string (wdF c.k)) ∧ CC w1 w') := ⟨fun X hX => (rword_any c.k X).mono fun e w' hp => ⟨hp.1, by rw [hp.2]; exact hX⟩⟩
  have KPx : Kept (∀ X, CC w1 X → Calls Tryz.prog 69 #[.agg (igL c.ig).toArray] X fun e w' => e = .returned (.string (putB c.ig)) ∧ CC w1 w') := ⟨fun X hX => (rput_any c.ig hid X ((hg.later hB1).later hX)).mono fun e w' hp => ⟨hp.1, hX.on hp.2⟩⟩
  have KTS := tg_str c hok
  obtain ⟨tg, k, nm, ig, ms⟩ := c
  simp only at *
  generalize hTL : tgL ⟨tg, k, nm, ig, ms⟩ = TL at *
  generalize (LbC.mk tg k nm ig ms).l = CL at *
  generalize igL ig = IG at *
  generalize cellsK .u8 tg = TG at *
  generalize strOfNums (Sh.hexF tg) = HX at *
  generalize wdF k = WD at *
  generalize putB ig = PB at *
  clear hB1 hL1 hok hg h0 htn hid hTL
  obtain ⟨S1, hS1⟩ : ∃ S : ByteArray, (⟨#[111, 98, 106, 101, 99, 116, 32]⟩ ++ HX : ByteArray) = S := ⟨_, rfl⟩
  have z1 : S1.size ≤ 71 := by rw [← hS1, size_cat, show (⟨#[111, 98, 106, 101, 99, 116, 32]⟩ : ByteArray).size = 7 from rfl]; omega
  rw [hS1] at KTS
  have KS1 := Kept.mk hS1
  clear hS1
  obtain ⟨S2, hS2⟩ : ∃ S : ByteArray, (S1 ++ ⟨#[10, 116, 121, 112, 101, 32]⟩ : ByteArray) = S := ⟨_, rfl⟩
  have z2 : S2.size ≤ 77 := by rw [← hS2, size_cat, show (⟨#[10, 116, 121, 112, 101, 32]⟩ : ByteArray).size = 6 from rfl]; omega
  rw [hS2] at KTS
  have KS2 := Kept.mk hS2
  clear hS2
  obtain ⟨S3, hS3⟩ : ∃ S : ByteArray, (S2 ++ WD : ByteArray) = S := ⟨_, rfl⟩
  have z3 : S3.size ≤ 83 := by rw [← hS3, size_cat]; omega
  rw [hS3] at KTS
  have KS3 := Kept.mk hS3
  clear hS3
  obtain ⟨S4, hS4⟩ : ∃ S : ByteArray, (S3 ++ ⟨#[10, 116, 97, 103, 32]⟩ : ByteArray) = S := ⟨_, rfl⟩
  have z4 : S4.size ≤ 88 := by rw [← hS4, size_cat, show (⟨#[10, 116, 97, 103, 32]⟩ : ByteArray).size = 5 from rfl]; omega
  rw [hS4] at KTS
  have KS4 := Kept.mk hS4
  clear hS4
  obtain ⟨S5, hS5⟩ : ∃ S : ByteArray, (S4 ++ nm : ByteArray) = S := ⟨_, rfl⟩
  have z5 : S5.size ≤ 188 := by rw [← hS5, size_cat]; omega
  rw [hS5] at KTS
  have KS5 := Kept.mk hS5
  clear hS5
  obtain ⟨S6, hS6⟩ : ∃ S : ByteArray, (S5 ++ ⟨#[10, 116, 97, 103, 103, 101, 114, 32]⟩ : ByteArray) = S := ⟨_, rfl⟩
  have z6 : S6.size ≤ 196 := by rw [← hS6, size_cat, show (⟨#[10, 116, 97, 103, 103, 101, 114, 32]⟩ : ByteArray).size = 8 from rfl]; omega
  rw [hS6] at KTS
  have KS6 := Kept.mk hS6
  clear hS6
  obtain ⟨S7, hS7⟩ : ∃ S : ByteArray, (S6 ++ PB : ByteArray) = S := ⟨_, rfl⟩
  have z7 : S7.size ≤ 496 := by rw [← hS7, size_cat]; omega
  rw [hS7] at KTS
  have KS7 := Kept.mk hS7
  clear hS7
  obtain ⟨S8, hS8⟩ : ∃ S : ByteArray, (S7 ++ ⟨#[10, 10]⟩ : ByteArray) = S := ⟨_, rfl⟩
  have z8 : S8.size ≤ 498 := by rw [← hS8, size_cat, show (⟨#[10, 10]⟩ : ByteArray).size = 2 from rfl]; omega
  rw [hS8] at KTS
  have KS8 := Kept.mk hS8
  clear hS8
  obtain ⟨S9, hS9⟩ : ∃ S : ByteArray, (S8 ++ ms : ByteArray) = S := ⟨_, rfl⟩
  have z9 : S9.size ≤ 66034 := by rw [← hS9, size_cat]; omega
  rw [hS9] at KTS
  have KS9 := Kept.mk hS9
  clear hS9
  have KTS := Kept.mk KTS
  go_enter Tryz.func42, Tryz.ntmps42
  go_upto_region 1 with fail
  try rw [hw1]
  clear hw1
  refine wp_region_part (C := CC w1) 21 2 #[true, true, true, true, true, true, true, true, true, true, true, true, true, true, true, true, true, true, true, true, true, true, false, false] (by kernel_rfl) (by kernel_rfl) (Below.refl _ _).drew ?_
  simp only [List.take_succ_cons, List.take_zero]
  refine BigFrame.wpQuiet_want rfl (fun K hK => quiet_run (v := .pointer (some ⟨w.heap.size, 0, none⟩)) (fun W hW => by go_simp; all_goals first | rfl | (intro hneg; exfalso; omega)) (hK _ ?_))
  clear hK K
  simp only [Act.put, List.setIfInBounds_toArray, List.set_cons_zero, List.set_cons_succ]
  refine BigFrame.wpQuiet_want rfl (fun K hK => quiet_load_mid 39 _ rfl w.heap.size 0 rfl TG _ KTx.out Tryz.underlying39 rfl KIt.out (hK _ ?_))
  clear hK K
  simp only [Act.put, List.setIfInBounds_toArray, List.set_cons_zero, List.set_cons_succ]
  go_big_quiet_step ((intro hCw; exact KHx.out _ hCw))
  refine BigFrame.wpQuiet_want rfl (fun K hK => quiet_cat _ _ rfl _ _ rfl rfl (by rw [show (⟨#[111, 98, 106, 101, 99, 116, 32]⟩ : ByteArray).size = 7 from rfl]; omega) (hK _ ?_))
  clear hK K
  simp only [Act.put, List.setIfInBounds_toArray, List.set_cons_zero, List.set_cons_succ]
  rw [KS1.out]
  refine BigFrame.wpQuiet_want rfl (fun K hK => quiet_cat _ _ rfl _ _ rfl rfl (by rw [show (⟨#[10, 116, 121, 112, 101, 32]⟩ : ByteArray).size = 6 from rfl]; omega) (hK _ ?_))
  clear hK K
  simp only [Act.put, List.setIfInBounds_toArray, List.set_cons_zero, List.set_cons_succ]
  rw [KS2.out]
  refine BigFrame.wpQuiet_want rfl (fun K hK => quiet_run (v := .pointer (some ⟨w.heap.size, 32, none⟩)) (fun W hW => by go_simp; all_goals first | rfl | (intro hneg; exfalso; omega)) (hK _ ?_))
  clear hK K
  simp only [Act.put, List.setIfInBounds_toArray, List.set_cons_zero, List.set_cons_succ]
  refine BigFrame.wpQuiet_want rfl (fun K hK => quiet_run (v := .int .i64 k) (fun W hW => by have := (KCx.out W hW).1; go_simp; all_goals first | rfl | (intro hneg; exfalso; omega)) (hK _ ?_))
  clear hK K
  simp only [Act.put, List.setIfInBounds_toArray, List.set_cons_zero, List.set_cons_succ]
  go_big_quiet_step ((intro hCw; exact KWx.out _ hCw))
  refine BigFrame.wpQuiet_want rfl (fun K hK => quiet_cat _ _ rfl _ _ rfl rfl (by omega) (hK _ ?_))
  clear hK K
  simp only [Act.put, List.setIfInBounds_toArray, List.set_cons_zero, List.set_cons_succ]
  rw [KS3.out]
  refine BigFrame.wpQuiet_want rfl (fun K hK => quiet_cat _ _ rfl _ _ rfl rfl (by rw [show (⟨#[10, 116, 97, 103, 32]⟩ : ByteArray).size = 5 from rfl]; omega) (hK _ ?_))
  clear hK K
  simp only [Act.put, List.setIfInBounds_toArray, List.set_cons_zero, List.set_cons_succ]
  rw [KS4.out]
  refine BigFrame.wpQuiet_want rfl (fun K hK => quiet_run (v := .pointer (some ⟨w.heap.size, 33, none⟩)) (fun W hW => by go_simp; all_goals first | rfl | (intro hneg; exfalso; omega)) (hK _ ?_))
  clear hK K
  simp only [Act.put, List.setIfInBounds_toArray, List.set_cons_zero, List.set_cons_succ]
  refine BigFrame.wpQuiet_want rfl (fun K hK => quiet_run (v := .string nm) (fun W hW => by have := (KCx.out W hW).2.1; go_simp; all_goals first | rfl | (intro hneg; exfalso; omega)) (hK _ ?_))
  clear hK K
  simp only [Act.put, List.setIfInBounds_toArray, List.set_cons_zero, List.set_cons_succ]
  refine BigFrame.wpQuiet_want rfl (fun K hK => quiet_cat _ _ rfl _ _ rfl rfl (by omega) (hK _ ?_))
  clear hK K
  simp only [Act.put, List.setIfInBounds_toArray, List.set_cons_zero, List.set_cons_succ]
  rw [KS5.out]
  refine BigFrame.wpQuiet_want rfl (fun K hK => quiet_cat _ _ rfl _ _ rfl rfl (by rw [show (⟨#[10, 116, 97, 103, 103, 101, 114, 32]⟩ : ByteArray).size = 8 from rfl]; omega) (hK _ ?_))
  clear hK K
  simp only [Act.put, List.setIfInBounds_toArray, List.set_cons_zero, List.set_cons_succ]
  rw [KS6.out]
  refine BigFrame.wpQuiet_want rfl (fun K hK => quiet_run (v := .pointer (some ⟨w.heap.size, 34, none⟩)) (fun W hW => by go_simp; all_goals first | rfl | (intro hneg; exfalso; omega)) (hK _ ?_))
  clear hK K
  simp only [Act.put, List.setIfInBounds_toArray, List.set_cons_zero, List.set_cons_succ]
  refine BigFrame.wpQuiet_want rfl (fun K hK => quiet_load_mid 51 _ rfl w.heap.size 34 rfl IG _ KRx.out Tryz.underlying51 rfl KIi.out (hK _ ?_))
  clear hK K
  simp only [Act.put, List.setIfInBounds_toArray, List.set_cons_zero, List.set_cons_succ]
  go_big_quiet_step ((intro hCw; exact KPx.out _ hCw))
  refine BigFrame.wpQuiet_want rfl (fun K hK => quiet_cat _ _ rfl _ _ rfl rfl (by omega) (hK _ ?_))
  clear hK K
  simp only [Act.put, List.setIfInBounds_toArray, List.set_cons_zero, List.set_cons_succ]
  rw [KS7.out]
  refine BigFrame.wpQuiet_want rfl (fun K hK => quiet_cat _ _ rfl _ _ rfl rfl (by rw [show (⟨#[10, 10]⟩ : ByteArray).size = 2 from rfl]; omega) (hK _ ?_))
  clear hK K
  simp only [Act.put, List.setIfInBounds_toArray, List.set_cons_zero, List.set_cons_succ]
  rw [KS8.out]
  refine BigFrame.wpQuiet_want rfl (fun K hK => quiet_run (v := .pointer (some ⟨w.heap.size, 38, none⟩)) (fun W hW => by go_simp; all_goals first | rfl | (intro hneg; exfalso; omega)) (hK _ ?_))
  clear hK K
  simp only [Act.put, List.setIfInBounds_toArray, List.set_cons_zero, List.set_cons_succ]
  refine BigFrame.wpQuiet_want rfl (fun K hK => quiet_run (v := .string ms) (fun W hW => by have := (KCx.out W hW).2.2; go_simp; all_goals first | rfl | (intro hneg; exfalso; omega)) (hK _ ?_))
  clear hK K
  simp only [Act.put, List.setIfInBounds_toArray, List.set_cons_zero, List.set_cons_succ]
  refine BigFrame.wpQuiet_want rfl (fun K hK => quiet_cat _ _ rfl _ _ rfl rfl (by omega) (hK _ ?_))
  clear hK K
  simp only [Act.put, List.setIfInBounds_toArray, List.set_cons_zero, List.set_cons_succ]
  rw [KS9.out]
  refine wpQuiet_nil ?_
  intro x1 hx1
  have KBx := Kept.mk (KB1.out.trans (Below.mono hx1 KB1.out.size))
  obtain ⟨x2, v, hcv, hrd, hB2⟩ := text_rd x1 S9 (by omega)
  have KRd := Kept.mk hrd
  have KB2 := Kept.mk (KBx.out.trans (hB2.mono KBx.out.size))
  clear hrd hB2 hx1 KCx KRx KTx KHx KWx KPx
  refine An.wpAny_one (i := 22) (by kernel_rfl) rfl rfl (fun K hK => ?_)
  go_simp
  refine hK _ _ ?_
  clear hK K
  refine An.wpAny_one (i := 23) (by kernel_rfl) rfl rfl (fun K hK => ?_)
  go_simp
  refine hK _ _ ?_
  clear hK K
  refine wpAny_done (by kernel_rfl) (NoPanic.normal ?_) _
  go_wp2
  go_ret
  exact ⟨_, rfl, by rw [← KTS.out]; exact KRd.out, KB2.out⟩
end Go.Proofs.YtkdlhcegimnocaaGreatDoor
