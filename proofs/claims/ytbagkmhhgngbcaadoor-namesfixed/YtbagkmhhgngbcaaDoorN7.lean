/-
  Walks: ParseIdent.
-/
import Derived.Test.YtbagkmhhgngbcaaDoorN6
namespace Go.Proofs.YtbagkmhhgngbcaaDoor
open Go.RowKit

/-- What a text is read as: an ident and an error's number. -/
def prsF (s : ByteArray) : Idt × Int := if idF (rfF s) = true ∧ putB (rfF s) = s then (rfF s, 0) else (idt0, 4)
theorem str_eq (s t : ByteArray) : (s.toList == t.toList) = decide (s = t) := by
  rw [Lib.toList_data, Lib.toList_data]
  by_cases h : s = t
  · subst h
    simp
  · have hd : ¬ s.data = t.data := fun e => h (by cases s; cases t; simp only at e; subst e; rfl)
    simp [h, hd]

set_option maxHeartbeats 2000000 in
set_option maxRecDepth 100000 in
theorem parseIdent_any (s : ByteArray) (w : World) (hg : Gl w) (hs : s.size < 4294967281) : Calls Tryd.prog 20 #[.string s] w fun e w' => e = .returned (.tuple #[(prsF s).1.v, .int .i64 (prsF s).2]) ∧ Below w.heap.size w w' := by
  obtain ⟨w1, hw1, hB1, hR1⟩ : ∃ w1, w.alloc (.cells #[.string ⟨#[]⟩, .string ⟨#[]⟩, .int .i64 0, .int .i64 0] 27) = w1 ∧ Below w.heap.size w w1 ∧ IB w1 w.heap.size idt0 := ⟨_, rfl, (Below.refl _ _).alloc (Nat.le_refl _) _, heap_alloc_new w _⟩
  have K1 := Kept.mk (readFields_any s w1 (hg.later hB1) hs)
  have KG : Kept (∀ w', Below w.heap.size w w' → Gl w') := ⟨fun w' h => hg.later h⟩
  obtain ⟨i, hi⟩ : ∃ i, rfF s = i := ⟨_, rfl⟩
  rw [hi] at K1
  have KP : Kept (∀ w', Gl w' → Calls Tryd.prog 18 #[i.v] w' fun e w2 => e = .returned (.tuple #[.string (putS i), .int .i64 (putE i)]) ∧ Below w'.heap.size w' w2) := ⟨fun w' h => putIdent_any i w' h⟩
  have KB1 := Kept.mk hB1
  have KR1 := Kept.mk hR1
  have hse := str_eq (putS i) s
  have KE : Kept (prsF s = if idF i = true ∧ putB i = s then (i, 0) else (idt0, 4)) := ⟨by unfold prsF; rw [hi]⟩
  have KPS : Kept (putE i = (if idF i = true then 0 else 3) ∧ putS i = (if idF i = true then putB i else .empty)) := ⟨rfl, rfl⟩
  clear hg hB1 hR1 hi
  by_cases hok : idF i = true
  · by_cases heq : putB i = s
    · have e1 : putE i = 0 := by rw [KPS.out.1, if_pos hok]
      have e2 : putS i = s := by rw [KPS.out.2, if_pos hok, heq]
      have KE2 : Kept (prsF s = (i, 0)) := ⟨by rw [KE.out, if_pos ⟨hok, heq⟩]⟩
      rw [e1, e2] at KP
      clear hse e1 e2 KPS hok heq
      obtain ⟨nm, em, tm, zn⟩ := i
      unfold Idt.v at K1 KP
      simp only at K1 KP
      go_enter Tryd.func20, Tryd.ntmps20
      go_wp2_with fail
      refine Calls.mono K1.out (fun e w2 hp => ?_)
      obtain ⟨rfl, hb2⟩ := hp
      have hbz := (Below.refl w2.heap.size w2).alloc (Nat.le_refl _) (.cells #[.string ⟨#[]⟩, .string ⟨#[]⟩, .int .i64 0, .int .i64 0] 27)
      obtain ⟨w3, hw3, hI3, hb3⟩ : ∃ w3, w2.alloc (.cells #[.string ⟨#[]⟩, .string ⟨#[]⟩, .int .i64 0, .int .i64 0] 27) = w3 ∧ IB w3 w2.heap.size idt0 ∧ Below w2.heap.size w2 w3 := ⟨_, rfl, heap_alloc_new w2 _, hbz⟩
      have c0 := hI3.c0
      have c1 := hI3.c1
      have c2 := hI3.c2
      have c3 := hI3.c3
      have f0 := hI3.fz 0
      have f1 := hI3.fz 1
      have f2 := hI3.fz 2
      have f3 := hI3.fz 3
      have hB2 := KB1.out.trans (hb2.mono KB1.out.size)
      have hR3 := (KR1.out.far (hb2.block _ KR1.out.lt)).far (hb3.block _ (Nat.lt_of_lt_of_le KR1.out.lt hb2.size))
      have hlt2 : w.heap.size < w2.heap.size := Nat.lt_of_lt_of_le KR1.out.lt hb2.size
      have KI3 := Kept.mk hI3
      have KR3 := Kept.mk hR3
      have KB3 := Kept.mk (hB2.trans (hb3.mono hB2.size))
      clear hb2 hbz hI3 hb3 hB2 hR3
      go_upto_region 2 with fail
      obtain ⟨w4, hw4, hI4, hR4, hB4⟩ : ∃ w4, (((w3.setCell ⟨w2.heap.size, 0, none⟩ (.string nm)).setCell ⟨w2.heap.size, 1, none⟩ (.string em)).setCell ⟨w2.heap.size, 2, none⟩ (.int .i64 tm)).setCell ⟨w2.heap.size, 3, none⟩ (.int .i64 zn) = w4 ∧ IB w4 w2.heap.size ⟨nm, em, tm, zn⟩ ∧ IB w4 w.heap.size idt0 ∧ Below w.heap.size w w4 := by
        have hne : ∀ k v (u : World), (u.setCell ⟨w2.heap.size, k, none⟩ v).heap[w.heap.size]? = u.heap[w.heap.size]? := fun k v u => Below.heap_setCell _ _ _ _ (by simp only; omega)
        have hle : w.heap.size ≤ w2.heap.size := by omega
        exact ⟨_, rfl, ((((KI3.out).s0 nm).s1 em).s2 tm).s3 zn, KR3.out.far (by rw [hne, hne, hne, hne]), (((KB3.out.setCell hle _).setCell hle _).setCell hle _).setCell hle _⟩
      rw [hw4]
      have d0 : w4.cell? ⟨w2.heap.size, 0, none⟩ = some (.string nm) := hI4.c0
      have d1 : w4.cell? ⟨w2.heap.size, 1, none⟩ = some (.string em) := hI4.c1
      have d2 : w4.cell? ⟨w2.heap.size, 2, none⟩ = some (.int .i64 tm) := hI4.c2
      have d3 : w4.cell? ⟨w2.heap.size, 3, none⟩ = some (.int .i64 zn) := hI4.c3
      have KI4 := Kept.mk hI4
      have KR4 := Kept.mk hR4
      have KB4 := Kept.mk hB4
      clear hw4 hw3 c0 c1 c2 c3 f0 f1 f2 f3 hI4 hR4 hB4 KI3 KR3 KB3
      go_wp2_with fail
      refine Calls.mono (KP.out w4 (KG.out _ KB4.out)) (fun e w5 hp => ?_)
      obtain ⟨rfl, hb5⟩ := hp
      have hI5 := KI4.out.far (hb5.block _ KI4.out.lt)
      have hR5 := KR4.out.far (hb5.block _ KR4.out.lt)
      have KB5 := Kept.mk (KB4.out.trans (hb5.mono KB4.out.size))
      have KR5 := Kept.mk hR5
      have d0 : w5.cell? ⟨w2.heap.size, 0, none⟩ = some (.string nm) := hI5.c0
      have d1 : w5.cell? ⟨w2.heap.size, 1, none⟩ = some (.string em) := hI5.c1
      have d2 : w5.cell? ⟨w2.heap.size, 2, none⟩ = some (.int .i64 tm) := hI5.c2
      have d3 : w5.cell? ⟨w2.heap.size, 3, none⟩ = some (.int .i64 zn) := hI5.c3
      have c0 := hR5.c0
      have c1 := hR5.c1
      have c2 := hR5.c2
      have c3 := hR5.c3
      have f0 := hR5.fz 0
      have f1 := hR5.fz 1
      have f2 := hR5.fz 2
      have f3 := hR5.fz 3
      clear hb5 hI5 hR5 KI4 KR4 KB4
      go_wp2
      obtain ⟨w6, hw6, hI6, hB6⟩ : ∃ w6, (((w5.setCell ⟨w.heap.size, 0, none⟩ (.string nm)).setCell ⟨w.heap.size, 1, none⟩ (.string em)).setCell ⟨w.heap.size, 2, none⟩ (.int .i64 tm)).setCell ⟨w.heap.size, 3, none⟩ (.int .i64 zn) = w6 ∧ IB w6 w.heap.size ⟨nm, em, tm, zn⟩ ∧ Below w.heap.size w w6 :=
        ⟨_, rfl, ((((KR5.out).s0 nm).s1 em).s2 tm).s3 zn, (((KB5.out.setCell (Nat.le_refl _) _).setCell (Nat.le_refl _) _).setCell (Nat.le_refl _) _).setCell (Nat.le_refl _) _⟩
      rw [hw6]
      have g0 : w6.cell? ⟨w.heap.size, 0, none⟩ = some (.string nm) := hI6.c0
      have g1 : w6.cell? ⟨w.heap.size, 1, none⟩ = some (.string em) := hI6.c1
      have g2 : w6.cell? ⟨w.heap.size, 2, none⟩ = some (.int .i64 tm) := hI6.c2
      have g3 : w6.cell? ⟨w.heap.size, 3, none⟩ = some (.int .i64 zn) := hI6.c3
      have KB6 := Kept.mk hB6
      clear hw6 hI6 hB6 c0 c1 c2 c3 f0 f1 f2 f3 d0 d1 d2 d3
      refine bodyPost_ret (v := .tuple #[.agg #[.string nm, .string em, .int .i64 tm, .int .i64 zn], .int .i64 0]) (by simp [results, Tryd.results20, go_sem, g0, g1, g2, g3]) rfl ?_
      rw [KE2.out]
      exact ⟨rfl, KB6.out⟩
    · have e1 : putE i = 0 := by rw [KPS.out.1, if_pos hok]
      have e2 : putS i = putB i := by rw [KPS.out.2, if_pos hok]
      have KE2 : Kept (prsF s = (idt0, 4)) := ⟨by rw [KE.out, if_neg (fun h => heq h.2)]⟩
      rw [e1] at KP
      have hne : ¬ putS i = s := by rw [e2]; exact heq
      rw [decide_eq_false hne] at hse
      generalize putS i = P at *
      clear e1 e2 KPS hok heq hne
      obtain ⟨nm, em, tm, zn⟩ := i
      unfold Idt.v at K1 KP
      simp only at K1 KP
      go_enter Tryd.func20, Tryd.ntmps20
      go_wp2_with fail
      refine Calls.mono K1.out (fun e w2 hp => ?_)
      obtain ⟨rfl, hb2⟩ := hp
      have hbz := (Below.refl w2.heap.size w2).alloc (Nat.le_refl _) (.cells #[.string ⟨#[]⟩, .string ⟨#[]⟩, .int .i64 0, .int .i64 0] 27)
      obtain ⟨w3, hw3, hI3, hb3⟩ : ∃ w3, w2.alloc (.cells #[.string ⟨#[]⟩, .string ⟨#[]⟩, .int .i64 0, .int .i64 0] 27) = w3 ∧ IB w3 w2.heap.size idt0 ∧ Below w2.heap.size w2 w3 := ⟨_, rfl, heap_alloc_new w2 _, hbz⟩
      have c0 := hI3.c0
      have c1 := hI3.c1
      have c2 := hI3.c2
      have c3 := hI3.c3
      have f0 := hI3.fz 0
      have f1 := hI3.fz 1
      have f2 := hI3.fz 2
      have f3 := hI3.fz 3
      have hB2 := KB1.out.trans (hb2.mono KB1.out.size)
      have hR3 := (KR1.out.far (hb2.block _ KR1.out.lt)).far (hb3.block _ (Nat.lt_of_lt_of_le KR1.out.lt hb2.size))
      have hlt2 : w.heap.size < w2.heap.size := Nat.lt_of_lt_of_le KR1.out.lt hb2.size
      have KI3 := Kept.mk hI3
      have KR3 := Kept.mk hR3
      have KB3 := Kept.mk (hB2.trans (hb3.mono hB2.size))
      clear hb2 hbz hI3 hb3 hB2 hR3
      go_upto_region 2 with fail
      obtain ⟨w4, hw4, hI4, hR4, hB4⟩ : ∃ w4, (((w3.setCell ⟨w2.heap.size, 0, none⟩ (.string nm)).setCell ⟨w2.heap.size, 1, none⟩ (.string em)).setCell ⟨w2.heap.size, 2, none⟩ (.int .i64 tm)).setCell ⟨w2.heap.size, 3, none⟩ (.int .i64 zn) = w4 ∧ IB w4 w2.heap.size ⟨nm, em, tm, zn⟩ ∧ IB w4 w.heap.size idt0 ∧ Below w.heap.size w w4 := by
        have hne : ∀ k v (u : World), (u.setCell ⟨w2.heap.size, k, none⟩ v).heap[w.heap.size]? = u.heap[w.heap.size]? := fun k v u => Below.heap_setCell _ _ _ _ (by simp only; omega)
        have hle : w.heap.size ≤ w2.heap.size := by omega
        exact ⟨_, rfl, ((((KI3.out).s0 nm).s1 em).s2 tm).s3 zn, KR3.out.far (by rw [hne, hne, hne, hne]), (((KB3.out.setCell hle _).setCell hle _).setCell hle _).setCell hle _⟩
      rw [hw4]
      have d0 : w4.cell? ⟨w2.heap.size, 0, none⟩ = some (.string nm) := hI4.c0
      have d1 : w4.cell? ⟨w2.heap.size, 1, none⟩ = some (.string em) := hI4.c1
      have d2 : w4.cell? ⟨w2.heap.size, 2, none⟩ = some (.int .i64 tm) := hI4.c2
      have d3 : w4.cell? ⟨w2.heap.size, 3, none⟩ = some (.int .i64 zn) := hI4.c3
      have KI4 := Kept.mk hI4
      have KR4 := Kept.mk hR4
      have KB4 := Kept.mk hB4
      clear hw4 hw3 c0 c1 c2 c3 f0 f1 f2 f3 hI4 hR4 hB4 KI3 KR3 KB3
      go_wp2_with fail
      refine Calls.mono (KP.out w4 (KG.out _ KB4.out)) (fun e w5 hp => ?_)
      obtain ⟨rfl, hb5⟩ := hp
      have hI5 := KI4.out.far (hb5.block _ KI4.out.lt)
      have hR5 := KR4.out.far (hb5.block _ KR4.out.lt)
      have KB5 := Kept.mk (KB4.out.trans (hb5.mono KB4.out.size))
      have KR5 := Kept.mk hR5
      have d0 : w5.cell? ⟨w2.heap.size, 0, none⟩ = some (.string nm) := hI5.c0
      have d1 : w5.cell? ⟨w2.heap.size, 1, none⟩ = some (.string em) := hI5.c1
      have d2 : w5.cell? ⟨w2.heap.size, 2, none⟩ = some (.int .i64 tm) := hI5.c2
      have d3 : w5.cell? ⟨w2.heap.size, 3, none⟩ = some (.int .i64 zn) := hI5.c3
      have c0 := hR5.c0
      have c1 := hR5.c1
      have c2 := hR5.c2
      have c3 := hR5.c3
      have f0 := hR5.fz 0
      have f1 := hR5.fz 1
      have f2 := hR5.fz 2
      have f3 := hR5.fz 3
      clear hb5 hI5 hR5 KI4 KR4 KB4
      go_wp2
      obtain ⟨w6, hw6, hI6, hB6⟩ : ∃ w6, (((w5.setCell ⟨w.heap.size, 0, none⟩ (.string ⟨#[]⟩)).setCell ⟨w.heap.size, 1, none⟩ (.string ⟨#[]⟩)).setCell ⟨w.heap.size, 2, none⟩ (.int .i64 0)).setCell ⟨w.heap.size, 3, none⟩ (.int .i64 0) = w6 ∧ IB w6 w.heap.size ⟨⟨#[]⟩, ⟨#[]⟩, 0, 0⟩ ∧ Below w.heap.size w w6 :=
        ⟨_, rfl, ((((KR5.out).s0 ⟨#[]⟩).s1 ⟨#[]⟩).s2 0).s3 0, (((KB5.out.setCell (Nat.le_refl _) _).setCell (Nat.le_refl _) _).setCell (Nat.le_refl _) _).setCell (Nat.le_refl _) _⟩
      rw [hw6]
      have g0 : w6.cell? ⟨w.heap.size, 0, none⟩ = some (.string ⟨#[]⟩) := hI6.c0
      have g1 : w6.cell? ⟨w.heap.size, 1, none⟩ = some (.string ⟨#[]⟩) := hI6.c1
      have g2 : w6.cell? ⟨w.heap.size, 2, none⟩ = some (.int .i64 0) := hI6.c2
      have g3 : w6.cell? ⟨w.heap.size, 3, none⟩ = some (.int .i64 0) := hI6.c3
      have KB6 := Kept.mk hB6
      clear hw6 hI6 hB6 c0 c1 c2 c3 f0 f1 f2 f3 d0 d1 d2 d3
      refine bodyPost_ret (v := .tuple #[.agg #[.string ⟨#[]⟩, .string ⟨#[]⟩, .int .i64 0, .int .i64 0], .int .i64 4]) (by simp [results, Tryd.results20, go_sem, g0, g1, g2, g3]) rfl ?_
      rw [KE2.out]
      exact ⟨rfl, KB6.out⟩
  · have e1 : putE i = 3 := by rw [KPS.out.1, if_neg hok]
    have KE2 : Kept (prsF s = (idt0, 4)) := ⟨by rw [KE.out, if_neg (fun h => hok h.1)]⟩
    rw [e1] at KP
    generalize putS i = P at *
    clear e1 KPS hok hse
    obtain ⟨nm, em, tm, zn⟩ := i
    unfold Idt.v at K1 KP
    simp only at K1 KP
    go_enter Tryd.func20, Tryd.ntmps20
    go_wp2_with fail
    refine Calls.mono K1.out (fun e w2 hp => ?_)
    obtain ⟨rfl, hb2⟩ := hp
    have hbz := (Below.refl w2.heap.size w2).alloc (Nat.le_refl _) (.cells #[.string ⟨#[]⟩, .string ⟨#[]⟩, .int .i64 0, .int .i64 0] 27)
    obtain ⟨w3, hw3, hI3, hb3⟩ : ∃ w3, w2.alloc (.cells #[.string ⟨#[]⟩, .string ⟨#[]⟩, .int .i64 0, .int .i64 0] 27) = w3 ∧ IB w3 w2.heap.size idt0 ∧ Below w2.heap.size w2 w3 := ⟨_, rfl, heap_alloc_new w2 _, hbz⟩
    have c0 := hI3.c0
    have c1 := hI3.c1
    have c2 := hI3.c2
    have c3 := hI3.c3
    have f0 := hI3.fz 0
    have f1 := hI3.fz 1
    have f2 := hI3.fz 2
    have f3 := hI3.fz 3
    have hB2 := KB1.out.trans (hb2.mono KB1.out.size)
    have hR3 := (KR1.out.far (hb2.block _ KR1.out.lt)).far (hb3.block _ (Nat.lt_of_lt_of_le KR1.out.lt hb2.size))
    have hlt2 : w.heap.size < w2.heap.size := Nat.lt_of_lt_of_le KR1.out.lt hb2.size
    have KI3 := Kept.mk hI3
    have KR3 := Kept.mk hR3
    have KB3 := Kept.mk (hB2.trans (hb3.mono hB2.size))
    clear hb2 hbz hI3 hb3 hB2 hR3
    go_upto_region 2 with fail
    obtain ⟨w4, hw4, hI4, hR4, hB4⟩ : ∃ w4, (((w3.setCell ⟨w2.heap.size, 0, none⟩ (.string nm)).setCell ⟨w2.heap.size, 1, none⟩ (.string em)).setCell ⟨w2.heap.size, 2, none⟩ (.int .i64 tm)).setCell ⟨w2.heap.size, 3, none⟩ (.int .i64 zn) = w4 ∧ IB w4 w2.heap.size ⟨nm, em, tm, zn⟩ ∧ IB w4 w.heap.size idt0 ∧ Below w.heap.size w w4 := by
      have hne : ∀ k v (u : World), (u.setCell ⟨w2.heap.size, k, none⟩ v).heap[w.heap.size]? = u.heap[w.heap.size]? := fun k v u => Below.heap_setCell _ _ _ _ (by simp only; omega)
      have hle : w.heap.size ≤ w2.heap.size := by omega
      exact ⟨_, rfl, ((((KI3.out).s0 nm).s1 em).s2 tm).s3 zn, KR3.out.far (by rw [hne, hne, hne, hne]), (((KB3.out.setCell hle _).setCell hle _).setCell hle _).setCell hle _⟩
    rw [hw4]
    have d0 : w4.cell? ⟨w2.heap.size, 0, none⟩ = some (.string nm) := hI4.c0
    have d1 : w4.cell? ⟨w2.heap.size, 1, none⟩ = some (.string em) := hI4.c1
    have d2 : w4.cell? ⟨w2.heap.size, 2, none⟩ = some (.int .i64 tm) := hI4.c2
    have d3 : w4.cell? ⟨w2.heap.size, 3, none⟩ = some (.int .i64 zn) := hI4.c3
    have KI4 := Kept.mk hI4
    have KR4 := Kept.mk hR4
    have KB4 := Kept.mk hB4
    clear hw4 hw3 c0 c1 c2 c3 f0 f1 f2 f3 hI4 hR4 hB4 KI3 KR3 KB3
    go_wp2_with fail
    refine Calls.mono (KP.out w4 (KG.out _ KB4.out)) (fun e w5 hp => ?_)
    obtain ⟨rfl, hb5⟩ := hp
    have hI5 := KI4.out.far (hb5.block _ KI4.out.lt)
    have hR5 := KR4.out.far (hb5.block _ KR4.out.lt)
    have KB5 := Kept.mk (KB4.out.trans (hb5.mono KB4.out.size))
    have KR5 := Kept.mk hR5
    have d0 : w5.cell? ⟨w2.heap.size, 0, none⟩ = some (.string nm) := hI5.c0
    have d1 : w5.cell? ⟨w2.heap.size, 1, none⟩ = some (.string em) := hI5.c1
    have d2 : w5.cell? ⟨w2.heap.size, 2, none⟩ = some (.int .i64 tm) := hI5.c2
    have d3 : w5.cell? ⟨w2.heap.size, 3, none⟩ = some (.int .i64 zn) := hI5.c3
    have c0 := hR5.c0
    have c1 := hR5.c1
    have c2 := hR5.c2
    have c3 := hR5.c3
    have f0 := hR5.fz 0
    have f1 := hR5.fz 1
    have f2 := hR5.fz 2
    have f3 := hR5.fz 3
    clear hb5 hI5 hR5 KI4 KR4 KB4
    go_wp2
    obtain ⟨w6, hw6, hI6, hB6⟩ : ∃ w6, (((w5.setCell ⟨w.heap.size, 0, none⟩ (.string ⟨#[]⟩)).setCell ⟨w.heap.size, 1, none⟩ (.string ⟨#[]⟩)).setCell ⟨w.heap.size, 2, none⟩ (.int .i64 0)).setCell ⟨w.heap.size, 3, none⟩ (.int .i64 0) = w6 ∧ IB w6 w.heap.size ⟨⟨#[]⟩, ⟨#[]⟩, 0, 0⟩ ∧ Below w.heap.size w w6 :=
      ⟨_, rfl, ((((KR5.out).s0 ⟨#[]⟩).s1 ⟨#[]⟩).s2 0).s3 0, (((KB5.out.setCell (Nat.le_refl _) _).setCell (Nat.le_refl _) _).setCell (Nat.le_refl _) _).setCell (Nat.le_refl _) _⟩
    rw [hw6]
    have g0 : w6.cell? ⟨w.heap.size, 0, none⟩ = some (.string ⟨#[]⟩) := hI6.c0
    have g1 : w6.cell? ⟨w.heap.size, 1, none⟩ = some (.string ⟨#[]⟩) := hI6.c1
    have g2 : w6.cell? ⟨w.heap.size, 2, none⟩ = some (.int .i64 0) := hI6.c2
    have g3 : w6.cell? ⟨w.heap.size, 3, none⟩ = some (.int .i64 0) := hI6.c3
    have KB6 := Kept.mk hB6
    clear hw6 hI6 hB6 c0 c1 c2 c3 f0 f1 f2 f3 d0 d1 d2 d3
    refine bodyPost_ret (v := .tuple #[.agg #[.string ⟨#[]⟩, .string ⟨#[]⟩, .int .i64 0, .int .i64 0], .int .i64 4]) (by simp [results, Tryd.results20, go_sem, g0, g1, g2, g3]) rfl ?_
    rw [KE2.out]
    exact ⟨rfl, KB6.out⟩
end Go.Proofs.YtbagkmhhgngbcaaDoor
