/-
  The document's commit. (By tools/gen_c7.py.)
-/
import Derived.Test.YtkbalngddlhlpaaGreatDoorC2
import Derived.Test.YtkbalngddlhlpaaGreatDoorL8
import Derived.Test.YtkbalngddlhlpaaGreatDoorC4
import Derived.Test.YtkbalngddlhlpaaGreatDoorN21
import Derived.Test.YtkbalngddlhlpaaGreatDoorShH2
namespace Go.Proofs.YtkbalngddlhlpaaGreatDoor
open Go.RowKit

theorem hz_hasC (s : ByteArray) : hzF s = hasF s 0 := (Lib.contains_iff_indexByte _ _).symm
theorem commit_least (c : CmC) : [if decide ((16 : Int) < (c.ps.length : Int)) = true then 2 else 0, msF c.ms, if (!idF c.ia || !idF c.ic) = true then 3 else 0].foldl lsF 0 = ceF c := by
  unfold ceF msF
  rw [hz_hasC]
  have e1 : (idF c.ia = false ∨ idF c.ic = false) ↔ (!idF c.ia || !idF c.ic) = true := by simp
  have e2 : decide ((16 : Int) < (c.ps.length : Int)) = decide (16 < c.ps.length) := by rw [decide_eq_decide]; omega
  rw [e2]
  by_cases h2 : 16 < c.ps.length
  · simp only [decide_eq_true h2, if_pos (show 16 < c.ps.length ∨ 65536 < c.ms.size from .inl h2)]
    by_cases h3 : 65536 < c.ms.size
    · simp only [if_pos h3]
      generalize (!idF c.ia || !idF c.ic) = p2
      revert p2
      decide
    · simp only [if_neg h3]
      generalize (!idF c.ia || !idF c.ic) = p2
      generalize hasF c.ms 0 = p3
      revert p2 p3
      decide
  · simp only [decide_eq_false h2]
    by_cases h3 : 65536 < c.ms.size
    · simp only [if_pos h3, if_pos (show 16 < c.ps.length ∨ 65536 < c.ms.size from .inr h3)]
      generalize (!idF c.ia || !idF c.ic) = p2
      revert p2
      decide
    · simp only [if_neg h3, if_neg (show ¬ (16 < c.ps.length ∨ 65536 < c.ms.size) by omega), e1]
      generalize (!idF c.ia || !idF c.ic) = p2
      generalize hasF c.ms 0 = p3
      revert p2 p3
      decide
set_option maxHeartbeats 4000000 in
set_option maxRecDepth 100000 in
theorem dcommit_any (c : CmC) (pa : Option Addr) (pc : Nat) (w : World) (hok : c.ok) : Calls Tryz.prog 45 #[.agg (c.l (.slice pa c.ps.length pc)).toArray] w fun e w' => e = .returned (.int .i64 (ceF c)) ∧ Below w.heap.size w w' := by
  obtain ⟨w1, hw1, hB1, hL1⟩ := CmC.box w c (.slice pa c.ps.length pc)
  have KB1 := Kept.mk hB1
  have KCx : Kept (∀ W, CC w1 W → W.cell? ⟨w.heap.size, 32, none⟩ = some (.slice pa c.ps.length pc) ∧ W.cell? ⟨w.heap.size, 41, none⟩ = some (.string c.ms)) := ⟨fun W hW => by
    have h := hL1.far hW hL1.lt
    exact ⟨h.cell hok 0 _ rfl, h.cell hok 9 _ rfl⟩⟩
  have KRa : Kept (∀ W, CC w1 W → W.rangeAt w.heap.size 33 (igL c.ia)) := ⟨fun W hW => (hL1.far hW hL1.lt).rangeIa hok⟩
  have KRc : Kept (∀ W, CC w1 W → W.rangeAt w.heap.size 37 (igL c.ic)) := ⟨fun W hW => (hL1.far hW hL1.lt).rangeIc hok⟩
  have KIa := Kept.mk (igL_info c.ia)
  have KIc := Kept.mk (igL_info c.ic)
  have KLs := Kept.mk (commit_least c)
  have KIf : Kept (∀ (so : Bool) (e : Int) W, Calls Tryz.prog 80 #[.bool so, .int .i64 e] W fun x w' => x = .returned (.int .i64 (if so then e else 0)) ∧ w' = W) := ⟨fun so e W => if_any so e W⟩
  have KMx : Kept (∀ X, CC w1 X → Calls Tryz.prog 86 #[.string c.ms] X fun e w' => e = .returned (.int .i64 (msF c.ms)) ∧ CC w1 w') := ⟨fun X hX => (message_any c.ms X (by have := hok.2.2; omega)).mono fun e w' hp => ⟨hp.1, hX.on hp.2⟩⟩
  have KAx : Kept (∀ X, CC w1 X → Calls Tryz.prog 84 #[.agg (igL c.ia).toArray] X fun e w' => e = .returned (.bool (idF c.ia)) ∧ CC w1 w') := ⟨fun X hX => (rident_any c.ia X).mono fun e w' hp => ⟨hp.1, hX.on hp.2⟩⟩
  have KDx : Kept (∀ X, CC w1 X → Calls Tryz.prog 84 #[.agg (igL c.ic).toArray] X fun e w' => e = .returned (.bool (idF c.ic)) ∧ CC w1 w') := ⟨fun X hX => (rident_any c.ic X).mono fun e w' hp => ⟨hp.1, hX.on hp.2⟩⟩
  obtain ⟨TE, hTE⟩ : ∃ TE, ceF c = TE := ⟨_, rfl⟩
  have KTE := Kept.mk hTE
  rw [hTE] at KLs
  clear hTE
  obtain ⟨tg, ps, ia, ic, ms⟩ := c
  simp only at *
  generalize (CmC.mk tg ps ia ic ms).l (.slice pa ps.length pc) = CL at *
  generalize ps.length = np at *
  generalize igL ia = IA at *
  generalize igL ic = IC at *
  generalize idF ia = qa at *
  generalize idF ic = qc at *
  generalize msF ms = r2 at *
  obtain ⟨qp, hqp⟩ : ∃ qp, decide ((16 : Int) < (np : Int)) = qp := ⟨_, rfl⟩
  have Kqp := Kept.mk hqp
  rw [hqp] at KLs
  obtain ⟨r1, hr1⟩ : ∃ r1 : Int, (if qp = true then 2 else 0) = r1 := ⟨_, rfl⟩
  rw [hr1] at KLs
  have KI1x : Kept (∀ X, CC w1 X → Calls Tryz.prog 80 #[.bool qp, .int .i64 2] X fun e w' => e = .returned (.int .i64 r1) ∧ CC w1 w') := ⟨fun X hX => (KIf.out qp 2 X).mono fun e w' hp => ⟨by rw [hp.1, ← hr1], by rw [hp.2]; exact hX⟩⟩
  clear hB1 hL1 hok hr1 hqp
  go_enter Tryz.func45, Tryz.ntmps45
  go_upto_region 1 with fail
  try rw [hw1]
  clear hw1
  cases qa with
  | false =>
    obtain ⟨r3, hr3⟩ : ∃ r3 : Int, (if true = true then 3 else 0) = r3 := ⟨_, rfl⟩
    have KI3x : Kept (∀ X, CC w1 X → Calls Tryz.prog 80 #[.bool true, .int .i64 3] X fun e w' => e = .returned (.int .i64 r3) ∧ CC w1 w') := ⟨fun X hX => (KIf.out _ 3 X).mono fun e w' hp => ⟨by rw [hp.1, ← hr3], by rw [hp.2]; exact hX⟩⟩
    have KLs3 : Kept ([r1, r2, r3].foldl lsF 0 = TE) := ⟨by rw [← hr3, ← KLs.out]; rfl⟩
    clear hr3 KIf KLs
    refine wp_region_part (C := CC w1) 18 3 #[true, true, true, true, true, true, true, true, true, true, true, true, true, true, true, true, true, true, true, false, false, false] (by kernel_rfl) (by kernel_rfl) (Below.refl _ _).drew ?_
    simp only [List.take_succ_cons, List.take_zero]
    refine BigFrame.wpQuiet_want rfl (fun K hK => quiet_run (v := .pointer (some ⟨w.heap.size, 32, none⟩)) (fun W hW => by go_simp; all_goals first | rfl | (intro hneg; exfalso; omega)) (hK _ ?_))
    clear hK K
    simp only [Act.put, List.setIfInBounds_toArray, List.set_cons_zero, List.set_cons_succ]
    refine BigFrame.wpQuiet_want rfl (fun K hK => quiet_run (v := .slice pa np pc) (fun W hW => by have := (KCx.out W hW).1; go_simp; all_goals first | rfl | (intro hneg; exfalso; omega)) (hK _ ?_))
    clear hK K
    simp only [Act.put, List.setIfInBounds_toArray, List.set_cons_zero, List.set_cons_succ]
    refine BigFrame.wpQuiet_want rfl (fun K hK => quiet_run (v := .int .i64 np) (fun W hW => by go_simp; all_goals first | rfl | (intro hneg; exfalso; omega)) (hK _ ?_))
    clear hK K
    simp only [Act.put, List.setIfInBounds_toArray, List.set_cons_zero, List.set_cons_succ]
    refine BigFrame.wpQuiet_want rfl (fun K hK => quiet_run (v := .bool qp) (fun W hW => by have := Kqp.out; go_simp; all_goals first | rfl | (intro hneg; exfalso; omega)) (hK _ ?_))
    clear hK K
    simp only [Act.put, List.setIfInBounds_toArray, List.set_cons_zero, List.set_cons_succ]
    go_big_quiet_step ((intro hCw; exact KI1x.out _ hCw))
    refine BigFrame.wpQuiet_want rfl (fun K hK => quiet_run (v := .pointer (some ⟨w.heap.size, 41, none⟩)) (fun W hW => by go_simp; all_goals first | rfl | (intro hneg; exfalso; omega)) (hK _ ?_))
    clear hK K
    simp only [Act.put, List.setIfInBounds_toArray, List.set_cons_zero, List.set_cons_succ]
    refine BigFrame.wpQuiet_want rfl (fun K hK => quiet_run (v := .string ms) (fun W hW => by have := (KCx.out W hW).2; go_simp; all_goals first | rfl | (intro hneg; exfalso; omega)) (hK _ ?_))
    clear hK K
    simp only [Act.put, List.setIfInBounds_toArray, List.set_cons_zero, List.set_cons_succ]
    go_big_quiet_step ((intro hCw; exact KMx.out _ hCw))
    refine BigFrame.wpQuiet_want rfl (fun K hK => quiet_run (v := .pointer (some ⟨w.heap.size, 33, none⟩)) (fun W hW => by go_simp; all_goals first | rfl | (intro hneg; exfalso; omega)) (hK _ ?_))
    clear hK K
    simp only [Act.put, List.setIfInBounds_toArray, List.set_cons_zero, List.set_cons_succ]
    refine BigFrame.wpQuiet_want rfl (fun K hK => quiet_load_mid 38 _ rfl w.heap.size 33 rfl IA _ KRa.out Tryz.underlying38 rfl KIa.out (hK _ ?_))
    clear hK K
    simp only [Act.put, List.setIfInBounds_toArray, List.set_cons_zero, List.set_cons_succ]
    go_big_quiet_step ((intro hCw; exact KAx.out _ hCw))
    refine BigFrame.wpQuiet_want rfl (fun K hK => quiet_run (v := .bool true) (fun W hW => by go_simp; all_goals first | rfl | (intro hneg; exfalso; omega)) (hK _ ?_))
    clear hK K
    simp only [Act.put, List.setIfInBounds_toArray, List.set_cons_zero, List.set_cons_succ]
    go_big_quiet_step ((intro _; rfl))
    go_big_quiet_step ((intro _; rfl))
    go_big_quiet_step ((intro _; rfl))
    go_big_quiet_step ((intro _; rfl))
    go_big_quiet_step ((intro _; rfl))
    go_big_quiet_step ((intro _; rfl))
    go_big_quiet_step ((intro hCw; exact KI3x.out _ hCw))
    refine wpQuiet_nil ?_
    intro x1 hx1
    have KBx := Kept.mk (KB1.out.trans (Below.mono hx1 KB1.out.size))
    obtain ⟨x2, hx2⟩ : ∃ x2, x1.alloc (.cells #[.int .i64 r1, .int .i64 r2, .int .i64 r3] 23) = x2 := ⟨_, rfl⟩
    have hh2 : x2.heap[x1.heap.size]? = some (.cells (cellsK .i64 [r1, r2, r3]).toArray 23) := by rw [← hx2]; exact heap_alloc_new x1 _
    have hBx2 : Below x1.heap.size x1 x2 := by rw [← hx2]; exact (Below.refl _ _).alloc (Nat.le_refl _) _
    have hLs := least_any [r1, r2, r3] x1.heap.size x2 hh2 (by simp)
    rw [KLs3.out] at hLs
    have KLa : Kept (Calls Tryz.prog 79 #[.slice (some ⟨x1.heap.size, 0, none⟩) 3 3] x2 fun e w' => e = .returned (.int .i64 TE) ∧ w' = x2) := ⟨hLs⟩
    have KB2 := Kept.mk (KBx.out.trans (hBx2.mono KBx.out.size))
    clear hh2 hBx2 hLs hx1 KCx KRa KRc KI1x KMx KAx KDx KI3x KLs3
    refine An.wpAny_one (i := 19) (by kernel_rfl) rfl rfl (fun K hK => ?_)
    go_simp
    refine hK _ _ ?_
    clear hK K
    try rw [hx2]
    clear hx2
    refine An.wpAny_one (i := 20) (by kernel_rfl) rfl rfl (fun K hK => ?_)
    go_simp
    refine Calls.mono KLa.out (fun e x3 hp => ?_)
    obtain ⟨rfl, hx3⟩ := hp
    subst x3
    refine hK _ _ ?_
    clear hK K
    refine An.wpAny_one (i := 21) (by kernel_rfl) rfl rfl (fun K hK => ?_)
    go_simp
    refine hK _ _ ?_
    clear hK K
    refine wpAny_done (by kernel_rfl) (NoPanic.normal ?_) _
    go_wp2
    go_ret
    exact ⟨by rw [KTE.out]; rfl, KB2.out⟩
  | true =>
    obtain ⟨r3, hr3⟩ : ∃ r3 : Int, (if (!qc) = true then 3 else 0) = r3 := ⟨_, rfl⟩
    have KI3x : Kept (∀ X, CC w1 X → Calls Tryz.prog 80 #[.bool (!qc), .int .i64 3] X fun e w' => e = .returned (.int .i64 r3) ∧ CC w1 w') := ⟨fun X hX => (KIf.out _ 3 X).mono fun e w' hp => ⟨by rw [hp.1, ← hr3], by rw [hp.2]; exact hX⟩⟩
    have KLs3 : Kept ([r1, r2, r3].foldl lsF 0 = TE) := ⟨by rw [← hr3, ← KLs.out]; rfl⟩
    clear hr3 KIf KLs
    refine wp_region_part (C := CC w1) 18 3 #[true, true, true, true, true, true, true, true, true, true, true, true, true, true, true, true, true, true, true, false, false, false] (by kernel_rfl) (by kernel_rfl) (Below.refl _ _).drew ?_
    simp only [List.take_succ_cons, List.take_zero]
    refine BigFrame.wpQuiet_want rfl (fun K hK => quiet_run (v := .pointer (some ⟨w.heap.size, 32, none⟩)) (fun W hW => by go_simp; all_goals first | rfl | (intro hneg; exfalso; omega)) (hK _ ?_))
    clear hK K
    simp only [Act.put, List.setIfInBounds_toArray, List.set_cons_zero, List.set_cons_succ]
    refine BigFrame.wpQuiet_want rfl (fun K hK => quiet_run (v := .slice pa np pc) (fun W hW => by have := (KCx.out W hW).1; go_simp; all_goals first | rfl | (intro hneg; exfalso; omega)) (hK _ ?_))
    clear hK K
    simp only [Act.put, List.setIfInBounds_toArray, List.set_cons_zero, List.set_cons_succ]
    refine BigFrame.wpQuiet_want rfl (fun K hK => quiet_run (v := .int .i64 np) (fun W hW => by go_simp; all_goals first | rfl | (intro hneg; exfalso; omega)) (hK _ ?_))
    clear hK K
    simp only [Act.put, List.setIfInBounds_toArray, List.set_cons_zero, List.set_cons_succ]
    refine BigFrame.wpQuiet_want rfl (fun K hK => quiet_run (v := .bool qp) (fun W hW => by have := Kqp.out; go_simp; all_goals first | rfl | (intro hneg; exfalso; omega)) (hK _ ?_))
    clear hK K
    simp only [Act.put, List.setIfInBounds_toArray, List.set_cons_zero, List.set_cons_succ]
    go_big_quiet_step ((intro hCw; exact KI1x.out _ hCw))
    refine BigFrame.wpQuiet_want rfl (fun K hK => quiet_run (v := .pointer (some ⟨w.heap.size, 41, none⟩)) (fun W hW => by go_simp; all_goals first | rfl | (intro hneg; exfalso; omega)) (hK _ ?_))
    clear hK K
    simp only [Act.put, List.setIfInBounds_toArray, List.set_cons_zero, List.set_cons_succ]
    refine BigFrame.wpQuiet_want rfl (fun K hK => quiet_run (v := .string ms) (fun W hW => by have := (KCx.out W hW).2; go_simp; all_goals first | rfl | (intro hneg; exfalso; omega)) (hK _ ?_))
    clear hK K
    simp only [Act.put, List.setIfInBounds_toArray, List.set_cons_zero, List.set_cons_succ]
    go_big_quiet_step ((intro hCw; exact KMx.out _ hCw))
    refine BigFrame.wpQuiet_want rfl (fun K hK => quiet_run (v := .pointer (some ⟨w.heap.size, 33, none⟩)) (fun W hW => by go_simp; all_goals first | rfl | (intro hneg; exfalso; omega)) (hK _ ?_))
    clear hK K
    simp only [Act.put, List.setIfInBounds_toArray, List.set_cons_zero, List.set_cons_succ]
    refine BigFrame.wpQuiet_want rfl (fun K hK => quiet_load_mid 38 _ rfl w.heap.size 33 rfl IA _ KRa.out Tryz.underlying38 rfl KIa.out (hK _ ?_))
    clear hK K
    simp only [Act.put, List.setIfInBounds_toArray, List.set_cons_zero, List.set_cons_succ]
    go_big_quiet_step ((intro hCw; exact KAx.out _ hCw))
    refine BigFrame.wpQuiet_want rfl (fun K hK => quiet_run (v := .bool false) (fun W hW => by go_simp; all_goals first | rfl | (intro hneg; exfalso; omega)) (hK _ ?_))
    clear hK K
    simp only [Act.put, List.setIfInBounds_toArray, List.set_cons_zero, List.set_cons_succ]
    go_big_quiet_step ((intro _; rfl))
    refine BigFrame.wpQuiet_want rfl (fun K hK => quiet_run (v := .pointer (some ⟨w.heap.size, 37, none⟩)) (fun W hW => by go_simp; all_goals first | rfl | (intro hneg; exfalso; omega)) (hK _ ?_))
    clear hK K
    simp only [Act.put, List.setIfInBounds_toArray, List.set_cons_zero, List.set_cons_succ]
    refine BigFrame.wpQuiet_want rfl (fun K hK => quiet_load_mid 38 _ rfl w.heap.size 37 rfl IC _ KRc.out Tryz.underlying38 rfl KIc.out (hK _ ?_))
    clear hK K
    simp only [Act.put, List.setIfInBounds_toArray, List.set_cons_zero, List.set_cons_succ]
    go_big_quiet_step ((intro hCw; exact KDx.out _ hCw))
    refine BigFrame.wpQuiet_want rfl (fun K hK => quiet_run (v := .bool (!qc)) (fun W hW => by go_simp; all_goals first | rfl | (intro hneg; exfalso; omega)) (hK _ ?_))
    clear hK K
    simp only [Act.put, List.setIfInBounds_toArray, List.set_cons_zero, List.set_cons_succ]
    refine BigFrame.wpQuiet_want rfl (fun K hK => quiet_run (v := .bool (!qc)) (fun W hW => by go_simp; all_goals first | rfl | (intro hneg; exfalso; omega)) (hK _ ?_))
    clear hK K
    simp only [Act.put, List.setIfInBounds_toArray, List.set_cons_zero, List.set_cons_succ]
    go_big_quiet_step ((intro hCw; exact KI3x.out _ hCw))
    refine wpQuiet_nil ?_
    intro x1 hx1
    have KBx := Kept.mk (KB1.out.trans (Below.mono hx1 KB1.out.size))
    obtain ⟨x2, hx2⟩ : ∃ x2, x1.alloc (.cells #[.int .i64 r1, .int .i64 r2, .int .i64 r3] 23) = x2 := ⟨_, rfl⟩
    have hh2 : x2.heap[x1.heap.size]? = some (.cells (cellsK .i64 [r1, r2, r3]).toArray 23) := by rw [← hx2]; exact heap_alloc_new x1 _
    have hBx2 : Below x1.heap.size x1 x2 := by rw [← hx2]; exact (Below.refl _ _).alloc (Nat.le_refl _) _
    have hLs := least_any [r1, r2, r3] x1.heap.size x2 hh2 (by simp)
    rw [KLs3.out] at hLs
    have KLa : Kept (Calls Tryz.prog 79 #[.slice (some ⟨x1.heap.size, 0, none⟩) 3 3] x2 fun e w' => e = .returned (.int .i64 TE) ∧ w' = x2) := ⟨hLs⟩
    have KB2 := Kept.mk (KBx.out.trans (hBx2.mono KBx.out.size))
    clear hh2 hBx2 hLs hx1 KCx KRa KRc KI1x KMx KAx KDx KI3x KLs3
    refine An.wpAny_one (i := 19) (by kernel_rfl) rfl rfl (fun K hK => ?_)
    go_simp
    refine hK _ _ ?_
    clear hK K
    try rw [hx2]
    clear hx2
    refine An.wpAny_one (i := 20) (by kernel_rfl) rfl rfl (fun K hK => ?_)
    go_simp
    refine Calls.mono KLa.out (fun e x3 hp => ?_)
    obtain ⟨rfl, hx3⟩ := hp
    subst x3
    refine hK _ _ ?_
    clear hK K
    refine An.wpAny_one (i := 21) (by kernel_rfl) rfl rfl (fun K hK => ?_)
    go_simp
    refine hK _ _ ?_
    clear hK K
    refine wpAny_done (by kernel_rfl) (NoPanic.normal ?_) _
    go_wp2
    go_ret
    exact ⟨by rw [KTE.out]; rfl, KB2.out⟩


theorem strL_catC (a b : ByteArray) : strL (a ++ b) = strL a ++ strL b := by
  unfold strL
  rw [ByteArray.data_append, Array.toList_append, List.map_append]
theorem text_rdC (w : World) (s : ByteArray) (hs : s.size ≤ 1000000) : ∃ W v, (convert 9 27 (.string s)).run Tryz.prog w = .ok v W ∧ Rd .u8 anyB W v (strL s) ∧ Below w.heap.size w W := by
  obtain ⟨W, cap, cur, fz, hrun, hrow, hcs, hfz, hsc, hcm, htk, hB⟩ := bytes_text w s hs
  refine ⟨W, _, hrun, ⟨some ⟨w.heap.size, 0, none⟩, cap, by rw [strL_length], by rw [strL_length]; exact hsc, hcm, (fun h => by cases h), fun _ => ⟨w.heap.size, 0, rfl, ?_, trivial, fun i hi => ?_⟩⟩, hB⟩
  · rcases Nat.lt_or_ge w.heap.size W.heap.size with h | h
    · exact h
    · rw [Array.getElem?_eq_none h] at hrow; cases hrow
  · rw [Nat.zero_add, cell_of_row W w.heap.size i _ _ _ hrow]
    have h1 := congrArg (fun l : List Value => l[i]?) htk
    rw [strL_length] at hi
    rw [List.getElem?_take_of_lt hi, Array.getElem?_toList] at h1
    rw [h1]
    unfold cellsK
    rw [List.getElem?_map, List.getElem?_eq_getElem (by rw [strL_length]; exact hi)]
    simp [List.getD, List.getElem?_eq_getElem (show i < (strL s).length by rw [strL_length]; exact hi)]
def hdC (c : CmC) : List Int := [116, 114, 101, 101] ++ [32] ++ Sh.hexF c.tg ++ [10]
set_option maxHeartbeats 4000000 in
set_option maxRecDepth 100000 in
theorem dCommit_any (c : CmC) (pv : Value) (w : World) (hg : Gl w) (hok : c.ok) (hpv : RdP w pv c.ps) (h0 : ceF c = 0) : Calls Tryz.prog 46 #[.agg (c.l pv).toArray] w fun e w' => ∃ v', e = .returned v' ∧ Rd .u8 anyB w' v' (cmL c) ∧ Below w.heap.size w w' := by
  obtain ⟨w1, hw1, hB1, hL1⟩ := CmC.box w c pv
  obtain ⟨hnp, hms, hia, hic, -⟩ := ceF_ok h0
  have KB1 := Kept.mk hB1
  have KG : Kept (∀ W, Below w1.heap.size w1 W → Gl W) := ⟨fun W hW => (hg.later hB1).later hW⟩
  have KBl : Kept (∀ W, Below w1.heap.size w1 W → CmB W w.heap.size c pv) := ⟨fun W hW => hL1.far hW hL1.lt⟩
  have KPv : Kept (∀ W, Below w1.heap.size w1 W → RdP W pv c.ps) := ⟨fun W hW => (hpv.later hB1 (Nat.le_refl _)).later hW (Nat.le_refl _)⟩
  have Kok := Kept.mk hok
  obtain ⟨pa, pc, rfl, hpc, hpo, hpr⟩ := hpv
  have KH : Kept (∀ p, IdOk p → ∀ W, Calls Tryz.prog 87 #[.agg (cellsK .u8 p).toArray] W fun e w' => e = .returned (.string (strOfNums (Sh.hexF p))) ∧ Below W.heap.size W w') := ⟨fun p hp W => Sh.rhex_any p W hp.1 (fun x hx => hp.2 x hx)⟩
  have Ksz : Kept (c.ps.length ≤ 16 ∧ c.ms.size ≤ 65536 ∧ (putB c.ia).size ≤ 300 ∧ (putB c.ic).size ≤ 300) := ⟨hnp, hms, putB_small hia, putB_small hic⟩
  have KPu : Kept (∀ W, Gl W → Calls Tryz.prog 85 #[.agg (igL c.ia).toArray] W fun e w' => e = .returned (.string (putB c.ia)) ∧ Below W.heap.size W w') := ⟨fun W hW => rput_any c.ia hia W hW⟩
  have KPv2 : Kept (∀ W, Gl W → Calls Tryz.prog 85 #[.agg (igL c.ic).toArray] W fun e w' => e = .returned (.string (putB c.ic)) ∧ Below W.heap.size W w') := ⟨fun W hW => rput_any c.ic hic W hW⟩
  have KR1 := Kept.mk hL1.rangeTg
  have KIT := Kept.mk (id_infoL hok.1)
  have K2 := Kept.mk (KH.out c.tg hok.1 w1)
  have Khx := Kept.mk (hex_str hok.1)
  have KHl : Kept ((Sh.hexF c.tg).length = 64) := ⟨by rw [Sh.hexF_length, hok.1.1]⟩
  obtain ⟨CL, hCL⟩ : ∃ CL, c.l (.slice pa c.ps.length pc) = CL := ⟨_, rfl⟩
  rw [hCL] at hw1
  rw [hCL]
  obtain ⟨TG, hTG⟩ : ∃ TG, cellsK .u8 c.tg = TG := ⟨_, rfl⟩
  rw [hTG] at KR1 KIT K2
  obtain ⟨HX, hHX⟩ : ∃ HX, strOfNums (Sh.hexF c.tg) = HX := ⟨_, rfl⟩
  rw [hHX] at K2 Khx
  have ha1 : ∀ W, (Op.stringOp .add ⟨#[116, 114, 101, 101, 32]⟩ HX).run Tryz.prog W = .ok (.string (⟨#[116, 114, 101, 101, 32]⟩ ++ HX)) W := fun W => run_string_add_sum (P := Tryz.prog) W _ _ (by rw [Khx.out.2, show (⟨#[116, 114, 101, 101, 32]⟩ : ByteArray).size = 5 from rfl]; omega)
  obtain ⟨S1, hS1⟩ : ∃ S1 : ByteArray, (⟨#[116, 114, 101, 101, 32]⟩ ++ HX : ByteArray) = S1 := ⟨_, rfl⟩
  have Kz1 : Kept (S1.size = 69) := ⟨by rw [← hS1, size_cat, Khx.out.2]; rfl⟩
  rw [hS1] at ha1
  have ha2 : ∀ W, (Op.stringOp .add S1 ⟨#[10]⟩).run Tryz.prog W = .ok (.string (S1 ++ ⟨#[10]⟩)) W := fun W => run_string_add_sum (P := Tryz.prog) W _ _ (by rw [Kz1.out, show (⟨#[10]⟩ : ByteArray).size = 1 from rfl]; omega)
  obtain ⟨S2, hS2⟩ : ∃ S2 : ByteArray, (S1 ++ ⟨#[10]⟩ : ByteArray) = S2 := ⟨_, rfl⟩
  rw [hS2] at ha2
  have KS2 : Kept (strL S2 = hdC c) := ⟨by
    rw [← hS2, ← hS1, strL_catC, strL_catC, Khx.out.1]
    rfl⟩
  have KS20 : Kept (strL S2 = hdC c ++ pasL (c.ps.take 0)) := ⟨by rw [KS2.out, show pasL (c.ps.take 0) = [] from rfl, List.append_nil]⟩
  have KPo := Kept.mk hok.2.1
  clear hB1 hL1 hok hg hpc hpo hpr hnp hms hia hic h0 hCL hTG hHX hS1 hS2
  go_enter Tryz.func46, Tryz.ntmps46
  go_upto_region 1 with fail
  try rw [hw1]
  clear hw1
  go_wp2_with (first | (refine wpList_load_mid rfl 31 _ rfl w.heap.size 0 rfl TG _ KR1.out Tryz.underlying31 rfl KIT.out ?_))
  refine Calls.mono K2.out (fun e w2 hp => ?_)
  obtain ⟨rfl, hb⟩ := hp
  have KB2 := Kept.mk hb
  have c32 := (KBl.out w2 hb).cell Kok.out 0 _ rfl
  clear hb K2 KR1 KIT
  have hnp : (c.ps.length : Int) ≤ 16 := by have := Ksz.out; omega
  obtain ⟨np, hnpe⟩ : ∃ np, c.ps.length = np := ⟨_, rfl⟩
  have Knp := Kept.mk hnpe
  rw [hnpe] at c32 hnp Ksz
  have ha1' := ha1 w2
  have ha2' := ha2 w2
  clear ha1 ha2
  go_upto_region 3 with fail
  clear c32 ha1' ha2'
  go_loopw [3, 14] (fun tv iv wr => ∃ (k : Nat) (s : ByteArray), k ≤ np ∧ iv = .int .i64 k ∧ tv = .string s ∧ strL s = hdC c ++ pasL (c.ps.take k) ∧ Below w1.heap.size w1 wr) (fun _ iv _ => np - (intOf iv).toNat)
  case atStart => exact ⟨0, S2, Nat.zero_le _, rfl, rfl, KS20.out, KB2.out⟩
  case round =>
    obtain ⟨k, s, hk, rfl, rfl, hsk, hbr⟩ := hrel
    have KBr := Kept.mk hbr
    have Ksk := Kept.mk hsk
    have Kpl : Kept ((pasL (c.ps.take k)).length ≤ 1152) := ⟨by rw [pas_len (fun p hp => KPo.out p (List.mem_of_mem_take hp)), List.length_take]; omega⟩
    have Kss : Kept (s.size ≤ 1300) := ⟨by rw [← strL_length, hsk]; unfold hdC; have := KHl.out; have := Kpl.out; simp only [List.length_append, List.length_cons, List.length_nil]; omega⟩
    clear KS20 KB2 hsk KS2
    by_cases hlt : k < np
    · have hki : (k : Int) < (np : Int) := by omega
      have hkp : k < c.ps.length := by omega
      have e1 : IntKind.i64.wrap ((k : Int) + 1) = (k : Int) + 1 := by rw [IntKind.wrap_i64]; omega
      obtain ⟨pa', pc', hpe, -, -, hpr⟩ := KPv.out wr hbr
      obtain ⟨b, off, hpb, hblt, hrg⟩ := hpr (by omega)
      have hpae : pa = some ⟨b, off, none⟩ := by injection hpe with h1 h2 h3; rw [h1, hpb]
      subst hpae
      have KRk := Kept.mk (hrg k hkp)
      have hidk := KPo.out _ (List.getElem_mem hkp)
      have KIk := Kept.mk (id_infoL hidk)
      have KIk2 : Kept ((Tryz.prog.info? 31).map (·.size) = some (cellsK .u8 (c.ps[k]'hkp)).toArray.size) := ⟨by rw [List.size_toArray]; exact KIk.out⟩
      have KOk2 : Kept ((cellsK .u8 (c.ps[k]'hkp)).toArray.all (·.oneCell') = true) := ⟨all_oneCell_toArray (cellsK_one _ _)⟩
      have KSk : Kept ((cellsK .u8 (c.ps[k]'hkp)).toArray.size = 32) := ⟨by rw [List.size_toArray, cellsK_length]; exact hidk.1⟩
      obtain ⟨x2, hx2, hBx, hrx⟩ : ∃ x2, wr.alloc (.cells (cellsK .u8 (c.ps[k]'hkp)).toArray 31) = x2 ∧ Below wr.heap.size wr x2 ∧ x2.rangeAt wr.heap.size 0 (cellsK .u8 (c.ps[k]'hkp)) := ⟨_, rfl, (Below.refl _ _).alloc (Nat.le_refl _) _, fun j u hu => by
        rw [Nat.zero_add, cell_of_row _ _ j _ 31 (0, 0) (heap_alloc_new wr _)]
        simpa using hu⟩
      have KBx := Kept.mk (hbr.trans (hBx.mono hbr.size))
      have KRx := Kept.mk hrx
      have KHk := Kept.mk (KH.out _ hidk x2)
      have Khk := Kept.mk (hex_str hidk)
      have Kpk := Kept.mk (pas_snoc c.ps hkp)
      clear hpr hrg hidk hbr hBx hrx hpe
      obtain ⟨PK, hPK⟩ : ∃ PK, cellsK .u8 (c.ps[k]'hkp) = PK := ⟨_, rfl⟩
      rw [hPK] at KRk KIk KIk2 KOk2 KSk hx2 KRx KHk
      clear hPK
      obtain ⟨HK, hHK⟩ : ∃ HK, strOfNums (Sh.hexF (c.ps[k]'hkp)) = HK := ⟨_, rfl⟩
      rw [hHK] at KHk Khk
      clear hHK
      obtain ⟨P1, hP1⟩ : ∃ P1 : ByteArray, (⟨#[112, 97, 114, 101, 110, 116, 32]⟩ ++ HK : ByteArray) = P1 := ⟨_, rfl⟩
      have Kz1 : Kept (P1.size = 71) := ⟨by rw [← hP1, size_cat, Khk.out.2]; rfl⟩
      obtain ⟨P2, hP2⟩ : ∃ P2 : ByteArray, (P1 ++ ⟨#[10]⟩ : ByteArray) = P2 := ⟨_, rfl⟩
      have Kz2 : Kept (P2.size = 72) := ⟨by rw [← hP2, size_cat, Kz1.out]; rfl⟩
      obtain ⟨P3, hP3⟩ : ∃ P3 : ByteArray, (s ++ P2 : ByteArray) = P3 := ⟨_, rfl⟩
      have ha1 : ∀ W, (Op.stringOp .add ⟨#[112, 97, 114, 101, 110, 116, 32]⟩ HK).run Tryz.prog W = .ok (.string P1) W := fun W => by rw [← hP1]; exact run_string_add_sum (P := Tryz.prog) W _ _ (by rw [Khk.out.2, show (⟨#[112, 97, 114, 101, 110, 116, 32]⟩ : ByteArray).size = 7 from rfl]; omega)
      have ha2 : ∀ W, (Op.stringOp .add P1 ⟨#[10]⟩).run Tryz.prog W = .ok (.string P2) W := fun W => by rw [← hP2]; exact run_string_add_sum (P := Tryz.prog) W _ _ (by rw [Kz1.out, show (⟨#[10]⟩ : ByteArray).size = 1 from rfl]; omega)
      have ha3 : ∀ W, (Op.stringOp .add s P2).run Tryz.prog W = .ok (.string P3) W := fun W => by rw [← hP3]; exact run_string_add_sum (P := Tryz.prog) W _ _ (by rw [Kz2.out]; have := Kss.out; omega)
      have KP3 : Kept (strL P3 = hdC c ++ pasL (c.ps.take (k + 1))) := ⟨by
        rw [← hP3, ← hP2, ← hP1, strL_catC, strL_catC, strL_catC, Khk.out.1, Ksk.out, Kpk.out]
        simp only [List.append_assoc]
        rfl⟩
      clear hP1 hP2 hP3
      go_upto_region 5 with (first | (refine wpList_load_mid rfl 31 _ rfl b (off + k * 32) rfl PK _ KRk.out Tryz.underlying31 rfl KIk.out ?_) | (refine BigFrame.wpList_want rfl (fun K hK => wp_store_row 31 _ _ rfl wr.heap.size PK.toArray rfl rfl 31 _ (heap_alloc_new wr _) KIk2.out (by rw [KSk.out]; rfl) KOk2.out (hK _ _ ?_)); rw [World.setRow_alloc_new]))
      try rw [hx2]
      clear hx2
      go_wp2_with (first | (refine wpList_load_mid rfl 31 _ rfl wr.heap.size 0 rfl PK _ KRx.out Tryz.underlying31 rfl KIk.out ?_))
      refine Calls.mono KHk.out (fun e x3 hp => ?_)
      obtain ⟨rfl, hb⟩ := hp
      have KBx3 := Kept.mk (KBx.out.trans (hb.mono KBx.out.size))
      have hb1 := ha1 x3
      have hb2 := ha2 x3
      have hb3 := ha3 x3
      clear hb KHk ha1 ha2 ha3
      go_wp2
      go_roundw
      case rel => exact ⟨k + 1, P3, by omega, by go_num, rfl, KP3.out, KBx3.out⟩
      case measure => simp [intOf]; omega
    · have hki : ¬ (k : Int) < (np : Int) := by omega
      obtain rfl : k = np := by omega
      have Ksa : Kept (strL s = hdC c ++ pasL c.ps) := ⟨by rw [Ksk.out, List.take_of_length_le (by omega)]⟩
      have KCx : Kept (∀ X, CC wr X → Below w1.heap.size w1 X) := ⟨fun X hX => hbr.trans (Below.mono hX hbr.size)⟩
      have KRa : Kept (∀ X, CC wr X → X.rangeAt w.heap.size 33 (igL c.ia)) := ⟨fun X hX => (KBl.out X (KCx.out X hX)).rangeIa Kok.out⟩
      have KRc : Kept (∀ X, CC wr X → X.rangeAt w.heap.size 37 (igL c.ic)) := ⟨fun X hX => (KBl.out X (KCx.out X hX)).rangeIc Kok.out⟩
      have KCm : Kept (∀ X, CC wr X → X.cell? ⟨w.heap.size, 41, none⟩ = some (.string c.ms)) := ⟨fun X hX => (KBl.out X (KCx.out X hX)).cell Kok.out 9 _ rfl⟩
      have KPa : Kept (∀ X, CC wr X → Calls Tryz.prog 85 #[.agg (igL c.ia).toArray] X fun e w' => e = .returned (.string (putB c.ia)) ∧ CC wr w') := ⟨fun X hX => (KPu.out X (KG.out X (KCx.out X hX))).mono fun e w' hp => ⟨hp.1, hX.on hp.2⟩⟩
      have KPc : Kept (∀ X, CC wr X → Calls Tryz.prog 85 #[.agg (igL c.ic).toArray] X fun e w' => e = .returned (.string (putB c.ic)) ∧ CC wr w') := ⟨fun X hX => (KPv2.out X (KG.out X (KCx.out X hX))).mono fun e w' hp => ⟨hp.1, hX.on hp.2⟩⟩
      have KIa := Kept.mk (igL_info c.ia)
      have KIc := Kept.mk (igL_info c.ic)
      have KE : Kept (cmL c = hdC c ++ pasL c.ps ++ strL ((((⟨#[97, 117, 116, 104, 111, 114, 32]⟩ ++ putB c.ia) ++ ⟨#[10, 99, 111, 109, 109, 105, 116, 116, 101, 114, 32]⟩) ++ putB c.ic) ++ ⟨#[10, 10]⟩ ++ c.ms)) := ⟨by
        simp only [strL_catC]
        unfold cmL hdC
        simp only [List.append_assoc]
        rfl⟩
      have hz := Ksz.out
      have hzs := Kss.out
      obtain ⟨b1, b2, b3, b4⟩ := hz
      generalize hCM : cmL c = CM at *
      have KCM := Kept.mk hCM
      clear hCM
      obtain ⟨PA, hPA⟩ : ∃ PA, putB c.ia = PA := ⟨_, rfl⟩
      obtain ⟨PC, hPC⟩ : ∃ PC, putB c.ic = PC := ⟨_, rfl⟩
      obtain ⟨IA, hIA⟩ : ∃ IA, igL c.ia = IA := ⟨_, rfl⟩
      obtain ⟨IC, hIC⟩ : ∃ IC, igL c.ic = IC := ⟨_, rfl⟩
      obtain ⟨ms, hms⟩ : ∃ ms, c.ms = ms := ⟨_, rfl⟩
      rw [hPA] at KPa KE b3
      rw [hPC] at KPc KE b4
      rw [hIA] at KRa KIa KPa
      rw [hIC] at KRc KIc KPc
      rw [hms] at KCm KE b2
      clear hPA hPC hIA hIC hms hbr KPu KPv2 KH KPv Ksk hk hlt
      obtain ⟨Q1, hQ1⟩ : ∃ S : ByteArray, (⟨#[97, 117, 116, 104, 111, 114, 32]⟩ ++ PA : ByteArray) = S := ⟨_, rfl⟩
      have z1 : Q1.size ≤ 307 := by rw [← hQ1, size_cat, show (⟨#[97, 117, 116, 104, 111, 114, 32]⟩ : ByteArray).size = 7 from rfl]; omega
      have KQ1 := Kept.mk hQ1
      clear hQ1
      obtain ⟨Q2, hQ2⟩ : ∃ S : ByteArray, (Q1 ++ ⟨#[10, 99, 111, 109, 109, 105, 116, 116, 101, 114, 32]⟩ : ByteArray) = S := ⟨_, rfl⟩
      have z2 : Q2.size ≤ 318 := by rw [← hQ2, size_cat, show (⟨#[10, 99, 111, 109, 109, 105, 116, 116, 101, 114, 32]⟩ : ByteArray).size = 11 from rfl]; omega
      have KQ2 := Kept.mk hQ2
      clear hQ2
      obtain ⟨Q3, hQ3⟩ : ∃ S : ByteArray, (Q2 ++ PC : ByteArray) = S := ⟨_, rfl⟩
      have z3 : Q3.size ≤ 618 := by rw [← hQ3, size_cat]; omega
      have KQ3 := Kept.mk hQ3
      clear hQ3
      obtain ⟨Q4, hQ4⟩ : ∃ S : ByteArray, (Q3 ++ ⟨#[10, 10]⟩ : ByteArray) = S := ⟨_, rfl⟩
      have z4 : Q4.size ≤ 620 := by rw [← hQ4, size_cat, show (⟨#[10, 10]⟩ : ByteArray).size = 2 from rfl]; omega
      have KQ4 := Kept.mk hQ4
      clear hQ4
      obtain ⟨Q5, hQ5⟩ : ∃ S : ByteArray, (Q4 ++ ms : ByteArray) = S := ⟨_, rfl⟩
      have z5 : Q5.size ≤ 66156 := by rw [← hQ5, size_cat]; omega
      have KQ5 := Kept.mk hQ5
      clear hQ5
      obtain ⟨Q6, hQ6⟩ : ∃ S : ByteArray, (s ++ Q5 : ByteArray) = S := ⟨_, rfl⟩
      have z6 : Q6.size ≤ 70000 := by rw [← hQ6, size_cat]; omega
      have KQ6 := Kept.mk hQ6
      clear hQ6
      go_upto_region 7 with fail
      refine wp_region_quietC (C := CC wr) (by kernel_rfl) (by kernel_rfl) (Below.refl _ _).drew ?_
      go_big_quiet_step ((intro _; rfl))
      refine BigFrame.wpQuiet_want rfl (fun K hK => quiet_run (v := .pointer (some ⟨w.heap.size, 33, none⟩)) (fun W hW => by go_simp; all_goals first | rfl | (intro hneg; exfalso; omega)) (hK _ ?_))
      clear hK K
      simp only [Act.put, List.setIfInBounds_toArray, List.set_cons_zero, List.set_cons_succ]
      refine BigFrame.wpQuiet_want rfl (fun K hK => quiet_load_mid 38 _ rfl w.heap.size 33 rfl IA _ KRa.out Tryz.underlying38 rfl KIa.out (hK _ ?_))
      clear hK K
      simp only [Act.put, List.setIfInBounds_toArray, List.set_cons_zero, List.set_cons_succ]
      go_big_quiet_step ((intro hCw; exact KPa.out _ hCw))
      refine BigFrame.wpQuiet_want rfl (fun K hK => quiet_cat _ _ rfl _ _ rfl rfl (by rw [show (⟨#[97, 117, 116, 104, 111, 114, 32]⟩ : ByteArray).size = 7 from rfl]; omega) (hK _ ?_))
      clear hK K
      simp only [Act.put, List.setIfInBounds_toArray, List.set_cons_zero, List.set_cons_succ]
      rw [KQ1.out]
      refine BigFrame.wpQuiet_want rfl (fun K hK => quiet_cat _ _ rfl _ _ rfl rfl (by rw [show (⟨#[10, 99, 111, 109, 109, 105, 116, 116, 101, 114, 32]⟩ : ByteArray).size = 11 from rfl]; omega) (hK _ ?_))
      clear hK K
      simp only [Act.put, List.setIfInBounds_toArray, List.set_cons_zero, List.set_cons_succ]
      rw [KQ2.out]
      refine BigFrame.wpQuiet_want rfl (fun K hK => quiet_run (v := .pointer (some ⟨w.heap.size, 37, none⟩)) (fun W hW => by go_simp; all_goals first | rfl | (intro hneg; exfalso; omega)) (hK _ ?_))
      clear hK K
      simp only [Act.put, List.setIfInBounds_toArray, List.set_cons_zero, List.set_cons_succ]
      refine BigFrame.wpQuiet_want rfl (fun K hK => quiet_load_mid 38 _ rfl w.heap.size 37 rfl IC _ KRc.out Tryz.underlying38 rfl KIc.out (hK _ ?_))
      clear hK K
      simp only [Act.put, List.setIfInBounds_toArray, List.set_cons_zero, List.set_cons_succ]
      go_big_quiet_step ((intro hCw; exact KPc.out _ hCw))
      refine BigFrame.wpQuiet_want rfl (fun K hK => quiet_cat _ _ rfl _ _ rfl rfl (by omega) (hK _ ?_))
      clear hK K
      simp only [Act.put, List.setIfInBounds_toArray, List.set_cons_zero, List.set_cons_succ]
      rw [KQ3.out]
      refine BigFrame.wpQuiet_want rfl (fun K hK => quiet_cat _ _ rfl _ _ rfl rfl (by rw [show (⟨#[10, 10]⟩ : ByteArray).size = 2 from rfl]; omega) (hK _ ?_))
      clear hK K
      simp only [Act.put, List.setIfInBounds_toArray, List.set_cons_zero, List.set_cons_succ]
      rw [KQ4.out]
      refine BigFrame.wpQuiet_want rfl (fun K hK => quiet_run (v := .pointer (some ⟨w.heap.size, 41, none⟩)) (fun W hW => by go_simp; all_goals first | rfl | (intro hneg; exfalso; omega)) (hK _ ?_))
      clear hK K
      simp only [Act.put, List.setIfInBounds_toArray, List.set_cons_zero, List.set_cons_succ]
      refine BigFrame.wpQuiet_want rfl (fun K hK => quiet_run (v := .string ms) (fun W hW => by have := KCm.out W hW; go_simp; all_goals first | rfl | (intro hneg; exfalso; omega)) (hK _ ?_))
      clear hK K
      simp only [Act.put, List.setIfInBounds_toArray, List.set_cons_zero, List.set_cons_succ]
      refine BigFrame.wpQuiet_want rfl (fun K hK => quiet_cat _ _ rfl _ _ rfl rfl (by omega) (hK _ ?_))
      clear hK K
      simp only [Act.put, List.setIfInBounds_toArray, List.set_cons_zero, List.set_cons_succ]
      rw [KQ5.out]
      refine BigFrame.wpQuiet_want rfl (fun K hK => quiet_cat _ _ rfl _ _ rfl rfl (by omega) (hK _ ?_))
      clear hK K
      simp only [Act.put, List.setIfInBounds_toArray, List.set_cons_zero, List.set_cons_succ]
      rw [KQ6.out]
      go_big_quiet_step ((intro _; rfl))
      refine wpQuiet_nil ?_
      intro x1 hx1
      have KBx := Kept.mk (KCx.out x1 hx1)
      obtain ⟨x2, v, hcv, hrd, hB2⟩ := text_rdC x1 Q6 (by omega)
      have KRd : Kept (Rd .u8 anyB x2 v CM) := ⟨by
        rw [KE.out, KQ1.out, KQ2.out, KQ3.out, KQ4.out, KQ5.out, ← Ksa.out, ← strL_catC, KQ6.out]
        exact hrd⟩
      have KB2 := Kept.mk (KB1.out.trans ((KBx.out.trans (hB2.mono KBx.out.size)).mono KB1.out.size))
      clear hrd hB2 hx1 KCx KRa KRc KCm KPa KPc
      go_wp2
      go_ret
      exact ⟨_, rfl, by rw [KCM.out]; exact KRd.out, KB2.out⟩
end Go.Proofs.YtkbalngddlhlpaaGreatDoor
