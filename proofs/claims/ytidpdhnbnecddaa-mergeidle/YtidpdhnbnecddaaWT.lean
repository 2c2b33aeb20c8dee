/-
  Walks: the document's Way.
-/
import Derived.Test.YtidpdhnbnecddaaWS
namespace Go.Proofs.Ytidpdhnbnecddaa
open Go.RowKit

theorem TbSt.get {w w1 : World} {tb : Nat} {a b : List ByteArray} (h : TbSt w w1 tb a b 0) : ∀ x, x ≤ a.length → ∃ nb, ∀ wr, Below w1.heap.size w1 wr → wr.cell? ⟨tb, x, none⟩ = some (.slice (some ⟨nb, 0, none⟩) (b.length + 1) (b.length + 1)) ∧ ∀ j, j ≤ b.length → wr.cell? ⟨nb, j, none⟩ = some (.int .i64 ((rst (a.drop x) (b.drop j) : Nat) : Int)) := by
  intro x hx
  obtain ⟨C, r, h1, h2, h3⟩ := h.st
  obtain ⟨g1, g2, -⟩ := h3 x (Nat.zero_le _) hx
  refine ⟨r x, fun wr hb => ⟨?_, fun j hj => ?_⟩⟩
  · rw [hb.cell (p := ⟨tb, x, none⟩) h2.lt]
    exact h2.cell x _ g1
  · rw [hb.cell (p := ⟨r x, j, none⟩) g2.lt]
    exact g2.cell j _ (intV_get (rowG_get _ _ hj))
theorem WySt.drewN {w1 wr : World} {a b : List ByteArray} {wv : Value} {x y : Nat} {pre : List (Nat × Nat)} (h : WySt w1 wr a b wv x y pre) (m : Nat) : WySt w1 (wr.drewN m) a b wv x y pre :=
  ⟨h.own, h.eq, h.xl, h.yl, h.pl, ⟨h.bel.os, h.bel.tape, h.bel.output, h.bel.size, h.bel.block⟩⟩
set_option maxHeartbeats 4000000 in
set_option maxRecDepth 100000 in
theorem docWay_any (v u : Value) (a b : List ByteArray) (w : World) (hv : RdS w v a) (hu : RdS w u b) (hal : a.length ≤ 1000) (hbl : b.length ≤ 1000) :
    Calls Try.prog 43 #[v, u] w fun e w' => Below w.heap.size w w' ∧ ∃ v', e = .returned v' ∧ OwnW w' w.heap.size v' (wayP a b 0 0) := by
  have K1 := Kept.mk (rests_any v u a b w hv hu hal hbl)
  have KA := Kept.mk hv
  have KBB := Kept.mk hu
  obtain ⟨pa, ca, rfl⟩ := hv.form
  obtain ⟨pb, cb, rfl⟩ := hu.form
  obtain ⟨i0, z0, hi, hz, hsz, hbt, hzc⟩ := info_c
  unfold slV at K1
  clear hv hu
  go_enter Try.func43, Try.ntmps43
  go_wp2_with fail
  refine Calls.mono K1.out (fun e w1 hp => ?_)
  obtain ⟨rfl, hS⟩ := hp
  have KB := Kept.mk hS.bel
  have KG := Kept.mk hS.get
  have KRa := Kept.mk (KA.out.later hS.bel (Nat.le_refl _))
  have KRb := Kept.mk (KBB.out.later hS.bel (Nat.le_refl _))
  have K0 : Kept (WySt w1 (w1.alloc (.cells #[.complex .f64 0 0] 74)) a b (.slice (some ⟨w1.heap.size, 0, none⟩) 1 1) 0 0 []) := ⟨⟨by
      refine ⟨by simp [ptsV], Or.inr ⟨w1.heap.size, 1, #[.complex .f64 0 0], rfl, Nat.le_refl _, heap_alloc_new w1 _, Nat.le_refl _, by decide, rfl, ?_⟩⟩
      show [Value.complex .f64 0 0] = [pt 0 0]
      unfold pt
      rw [fl_zero], rfl, Nat.zero_le _, Nat.zero_le _, Nat.zero_le _, (Below.refl _ _).alloc (Nat.le_refl _) _⟩⟩
  have Kp0 : Kept (Value.complex .f64 0 0 = pt 0 0) := ⟨by unfold pt; rw [fl_zero]⟩
  clear hS K1 KA KBB
  go_upto_region 4 with fail
  go_loopw [6, 7] (fun av wv wr => ∃ x y pre, av = pt x y ∧ WySt w1 wr a b wv x y pre) (fun _ wv _ => a.length + b.length + 2 - slN wv)
  case atStart => exact ⟨0, 0, [], Kp0.out, K0.out⟩
  case round =>
    obtain ⟨x, y, pre, rfl, hst⟩ := hrel
    have KSt := Kept.mk hst
    have hxl := hst.xl
    have hyl := hst.yl
    have hpl := hst.pl
    have hbel := hst.bel
    have hcx := c_int (x := x) (by omega) wr
    have hcy := c_int (x := y) (by omega) wr
    have hca := fun W => c_add (x := x) (y := y) (by omega) (by omega) W
    have x0 : (0 : Int) ≤ (x : Int) := by omega
    have y0 : (0 : Int) ≤ (y : Int) := by omega
    have x6 : IntKind.i64.wrap ((x : Int) + 1) = (x : Int) + 1 := wr64 (by omega) (by omega)
    have y6 : IntKind.i64.wrap ((y : Int) + 1) = (y : Int) + 1 := wr64 (by omega) (by omega)
    clear K0 hst
    by_cases hxa : x = a.length
    · by_cases hyb : y = b.length
      · have q1 : ((x : Int) == (a.length : Int)) = true := by simp [hxa]
        have q2 : ((y : Int) == (b.length : Int)) = true := by simp [hyb]
        have KO : Kept (OwnW wr w1.heap.size u7 (wayP a b 0 0)) := ⟨by
          have h1 := KSt.out.own
          have h2 := KSt.out.eq
          rw [hxa, hyb, List.drop_length, List.drop_length, wayP_end] at h2
          rw [h2, ← hxa, ← hyb]
          exact h1⟩
        have KBf := Kept.mk (KB.out.trans (KSt.out.bel.mono KB.out.size))
        have Kb1 := Kept.mk KB.out.size
        unfold pt
        clear hca
        generalize fl x = X1 at *
        generalize fl y = Y1 at *
        go_wp2
        go_ret
        exact ⟨KBf.out, _, rfl, KO.out.mono Kb1.out⟩
      · have q1 : ((x : Int) == (a.length : Int)) = true := by simp [hxa]
        have q2 : ((y : Int) == (b.length : Int)) = false := by simp; omega
        have r1 : ¬ (x : Int) < (a.length : Int) := by omega
        obtain ⟨t, ht⟩ : ∃ t, b[y]? = some t := ⟨_, List.getElem?_eq_getElem (by omega)⟩
        have hdb := dropB_cons ht
        have hda : a.drop x = [] := by rw [hxa, List.drop_length]
        have hne : a.drop x ≠ [] ∨ b.drop y ≠ [] := .inr (by rw [hdb]; simp)
        have hstp : stp (a.drop x) (b.drop y) = (0, 1) := by rw [hda, hdb]; rfl
        have hyb2 : y < b.length := by omega
        clear ht hdb hda hyb
        have hne2 : a.drop x ≠ [] ∨ b.drop y ≠ [] := hne
        have hws := wayP_step (a.drop x) (b.drop y) x y hne2
        rw [List.drop_drop, List.drop_drop, hstp] at hws
        simp only at hws
        have KEq : Kept (wayP a b 0 0 = (pre ++ [(x, y)]) ++ wayP (a.drop (x + 0)) (b.drop (y + 1)) (x + 0) (y + 1)) := ⟨by rw [KSt.out.eq, hws]; simp⟩
        have had : ∀ W, _ := fun W => (hca W).2.1
        obtain ⟨X, Y, hXY⟩ : ∃ X Y, pt (x + 0) (y + 1) = .complex .f64 X Y := ⟨_, _, rfl⟩
        have KXY := Kept.mk hXY
        try simp only [Nat.add_zero] at hXY
        simp only [hXY] at had
        have hsl := KSt.out.own.len
        rw [List.length_append, List.length_singleton] at hsl
        clear hca hne hne2 hws hstp hXY
        unfold pt at had ⊢
        generalize fl x = X1 at *
        generalize fl y = Y1 at *
        go_upto_region 8 with fail
        go_quiet (fail)
        generalize hwq : World.drewN wr _ = wq
        have KSq : Kept (WySt w1 wq a b u7 x y pre) := ⟨by rw [← hwq]; exact KSt.out.drewN _⟩
        clear hwq hcx hcy
        go_upto_region 10 with fail
        go_quiet (fail)
        generalize hwr : World.drewN wq _ = wp
        have KSp : Kept (WySt w1 wp a b u7 x y pre) := ⟨by rw [← hwr]; exact KSq.out.drewN _⟩
        clear hwr
        have had1 := had wp
        have KOa : Kept ((wp.alloc (.cells #[.complex .f64 X Y] 74)).ownsRow w1.heap.size 74 1 u7 (pre ++ [(x, y)]).length (ptsV (pre ++ [(x, y)]))) := ⟨World.ownsRow.alloc KSp.out.own _⟩
        have KBa := Kept.mk (KSp.out.bel.alloc KSp.out.bel.size (.cells #[.complex .f64 X Y] 74))
        have KO := Kept.mk KSp.out.own
        have Kpl : Kept ((pre ++ [(x, y)]).length ≤ 2001) := ⟨by rw [List.length_append, List.length_singleton]; omega⟩
        clear had hbel
        go_wp2_with (at_builtin; refine wpList_append_own_at _ rfl _ _ 71 rfl w1.heap.size 74 i0 z0 1 16 Try.underlying71 hi hz hsz hbt hzc (by decide) u7 (pre ++ [(x, y)]).length (ptsV (pre ++ [(x, y)])) rfl KOa.out ⟨wp.heap.size, 0, none⟩ 1 1 [.complex .f64 X Y] rfl rfl (cell_one_new _ _ _) (by simp [Value.oneCell']) (by have := Kpl.out; unfold maxLen; omega) (by have := Kpl.out; omega) KBa.out.size ?_; intro v5 w5 hown5 hgrow5 _ hat5; have KB5 := Kept.mk (KBa.out.grown hgrow5 KBa.out.size (fun k hk => (KO.out.lt k hk).1)); have KO5 := Kept.mk hown5; clear hown5 hgrow5 hat5)
        go_roundw
        case rel =>
          refine ⟨x + 0, y + 1, pre ++ [(x, y)], KXY.out.symm, ?_, KEq.out, by omega, by omega, ?_, KB5.out⟩
          · have h := KO5.out
            unfold OwnW
            rw [List.length_append, List.length_singleton]
            have e : ptsV (pre ++ [(x, y)] ++ [(x + 0, y + 1)]) = ptsV (pre ++ [(x, y)]) ++ [.complex .f64 X Y] := by unfold ptsV; rw [List.map_append]; simp only [List.map_cons, List.map_nil]; rw [KXY.out]
            rw [e]
            exact h
          · rw [List.length_append, List.length_singleton]; omega
        case measure =>
          have h5 : slN v5 = pre.length + 2 := by
            rcases KO5.out.2 with ⟨rfl, hn⟩ | ⟨g, cap, cur, rfl, -⟩
            · simp at hn
            · show (pre ++ [(x, y)]).length + 1 = _
              simp
          show a.length + b.length + 2 - slN v5 < a.length + b.length + 2 - slN u7
          omega
    · by_cases hyb : y = b.length
      · have q1 : ((x : Int) == (a.length : Int)) = false := by simp; omega
        have q2 : ((y : Int) == (b.length : Int)) = true := by simp [hyb]
        have r1 : (x : Int) < (a.length : Int) := by omega
        have r2 : ¬ (y : Int) < (b.length : Int) := by omega
        obtain ⟨s, hs⟩ : ∃ s, a[x]? = some s := ⟨_, List.getElem?_eq_getElem (by omega)⟩
        have hda := dropB_cons hs
        have hdb : b.drop y = [] := by rw [hyb, List.drop_length]
        have hne : a.drop x ≠ [] ∨ b.drop y ≠ [] := .inl (by rw [hda]; simp)
        have hstp : stp (a.drop x) (b.drop y) = (1, 0) := by rw [hda, hdb]; rfl
        have hxa2 : x < a.length := by omega
        clear hs hdb hda hxa
        have hne2 : a.drop x ≠ [] ∨ b.drop y ≠ [] := hne
        have hws := wayP_step (a.drop x) (b.drop y) x y hne2
        rw [List.drop_drop, List.drop_drop, hstp] at hws
        simp only at hws
        have KEq : Kept (wayP a b 0 0 = (pre ++ [(x, y)]) ++ wayP (a.drop (x + 1)) (b.drop (y + 0)) (x + 1) (y + 0)) := ⟨by rw [KSt.out.eq, hws]; simp⟩
        have had : ∀ W, _ := fun W => (hca W).1
        obtain ⟨X, Y, hXY⟩ : ∃ X Y, pt (x + 1) (y + 0) = .complex .f64 X Y := ⟨_, _, rfl⟩
        have KXY := Kept.mk hXY
        try simp only [Nat.add_zero] at hXY
        simp only [hXY] at had
        have hsl := KSt.out.own.len
        rw [List.length_append, List.length_singleton] at hsl
        clear hca hne hne2 hws hstp hXY
        unfold pt at had ⊢
        generalize fl x = X1 at *
        generalize fl y = Y1 at *
        go_upto_region 8 with fail
        go_quiet (fail)
        generalize hwq : World.drewN wr _ = wq
        have KSq : Kept (WySt w1 wq a b u7 x y pre) := ⟨by rw [← hwq]; exact KSt.out.drewN _⟩
        clear hwq hcx hcy
        go_upto_region 10 with fail
        go_quiet (fail)
        generalize hwr : World.drewN wq _ = wp
        have KSp : Kept (WySt w1 wp a b u7 x y pre) := ⟨by rw [← hwr]; exact KSq.out.drewN _⟩
        clear hwr
        have had1 := had wp
        have KOa : Kept ((wp.alloc (.cells #[.complex .f64 X Y] 74)).ownsRow w1.heap.size 74 1 u7 (pre ++ [(x, y)]).length (ptsV (pre ++ [(x, y)]))) := ⟨World.ownsRow.alloc KSp.out.own _⟩
        have KBa := Kept.mk (KSp.out.bel.alloc KSp.out.bel.size (.cells #[.complex .f64 X Y] 74))
        have KO := Kept.mk KSp.out.own
        have Kpl : Kept ((pre ++ [(x, y)]).length ≤ 2001) := ⟨by rw [List.length_append, List.length_singleton]; omega⟩
        clear had hbel
        go_wp2_with (at_builtin; refine wpList_append_own_at _ rfl _ _ 71 rfl w1.heap.size 74 i0 z0 1 16 Try.underlying71 hi hz hsz hbt hzc (by decide) u7 (pre ++ [(x, y)]).length (ptsV (pre ++ [(x, y)])) rfl KOa.out ⟨wp.heap.size, 0, none⟩ 1 1 [.complex .f64 X Y] rfl rfl (cell_one_new _ _ _) (by simp [Value.oneCell']) (by have := Kpl.out; unfold maxLen; omega) (by have := Kpl.out; omega) KBa.out.size ?_; intro v5 w5 hown5 hgrow5 _ hat5; have KB5 := Kept.mk (KBa.out.grown hgrow5 KBa.out.size (fun k hk => (KO.out.lt k hk).1)); have KO5 := Kept.mk hown5; clear hown5 hgrow5 hat5)
        go_roundw
        case rel =>
          refine ⟨x + 1, y + 0, pre ++ [(x, y)], KXY.out.symm, ?_, KEq.out, by omega, by omega, ?_, KB5.out⟩
          · have h := KO5.out
            unfold OwnW
            rw [List.length_append, List.length_singleton]
            have e : ptsV (pre ++ [(x, y)] ++ [(x + 1, y + 0)]) = ptsV (pre ++ [(x, y)]) ++ [.complex .f64 X Y] := by unfold ptsV; rw [List.map_append]; simp only [List.map_cons, List.map_nil]; rw [KXY.out]
            rw [e]
            exact h
          · rw [List.length_append, List.length_singleton]; omega
        case measure =>
          have h5 : slN v5 = pre.length + 2 := by
            rcases KO5.out.2 with ⟨rfl, hn⟩ | ⟨g, cap, cur, rfl, -⟩
            · simp at hn
            · show (pre ++ [(x, y)]).length + 1 = _
              simp
          show a.length + b.length + 2 - slN v5 < a.length + b.length + 2 - slN u7
          omega
      · have q1 : ((x : Int) == (a.length : Int)) = false := by simp; omega
        have q2 : ((y : Int) == (b.length : Int)) = false := by simp; omega
        have r1 : (x : Int) < (a.length : Int) := by omega
        have r2 : (y : Int) < (b.length : Int) := by omega
        have hxa2 : x < a.length := by omega
        have hyb2 : y < b.length := by omega
        obtain ⟨s, hs⟩ : ∃ s, a[x]? = some s := ⟨_, List.getElem?_eq_getElem hxa2⟩
        obtain ⟨t, ht⟩ : ∃ t, b[y]? = some t := ⟨_, List.getElem?_eq_getElem hyb2⟩
        obtain ⟨pa', ca', hea, -, hra⟩ := KRa.out.later hbel (Nat.le_refl _)
        obtain ⟨pb', cb', heb, -, hrb⟩ := KRb.out.later hbel (Nat.le_refl _)
        rw [List.length_map] at hea hra heb hrb
        obtain ⟨ba, oa, hpa1, -, hra1⟩ := hra (by omega)
        obtain ⟨bb, ob, hpb1, -, hrb1⟩ := hrb (by omega)
        have hpa : pa = some ⟨ba, oa, none⟩ := by injection hea with h1 h2 h3; rw [h1, hpa1]
        have hpb : pb = some ⟨bb, ob, none⟩ := by injection heb with h1 h2 h3; rw [h1, hpb1]
        subst hpa hpb
        have cs : wr.cell? ⟨ba, oa + x, none⟩ = some (.string s) := hra1 x _ (by rw [List.getElem?_map, hs]; rfl)
        have ct : wr.cell? ⟨bb, ob + y, none⟩ = some (.string t) := hrb1 y _ (by rw [List.getElem?_map, ht]; rfl)
        have hda := dropB_cons hs
        have hdb := dropB_cons ht
        have hne : a.drop x ≠ [] ∨ b.drop y ≠ [] := .inl (by rw [hda]; simp)
        clear hea heb hra hrb hra1 hrb1 hpa1 hpb1 hs ht hxa hyb
        by_cases hst : s = t
        · have hse : (s.toList == t.toList) = true := by rw [hst]; exact beq_self_eq_true _
          have hstp : stp (a.drop x) (b.drop y) = (1, 1) := by rw [hda, hdb, stp_cons, if_pos hst]
          clear hda hdb hst
          have hne2 : a.drop x ≠ [] ∨ b.drop y ≠ [] := hne
          have hws := wayP_step (a.drop x) (b.drop y) x y hne2
          rw [List.drop_drop, List.drop_drop, hstp] at hws
          simp only at hws
          have KEq : Kept (wayP a b 0 0 = (pre ++ [(x, y)]) ++ wayP (a.drop (x + 1)) (b.drop (y + 1)) (x + 1) (y + 1)) := ⟨by rw [KSt.out.eq, hws]; simp⟩
          have had : ∀ W, _ := fun W => (hca W).2.2
          obtain ⟨X, Y, hXY⟩ : ∃ X Y, pt (x + 1) (y + 1) = .complex .f64 X Y := ⟨_, _, rfl⟩
          have KXY := Kept.mk hXY
          try simp only [Nat.add_zero] at hXY
          simp only [hXY] at had
          have hsl := KSt.out.own.len
          rw [List.length_append, List.length_singleton] at hsl
          clear hca hne hne2 hws hstp hXY
          unfold pt at had ⊢
          generalize fl x = X1 at *
          generalize fl y = Y1 at *
          go_upto_region 8 with fail
          go_quiet (fail)
          generalize hwq : World.drewN wr _ = wq
          have KSq : Kept (WySt w1 wq a b u7 x y pre) := ⟨by rw [← hwq]; exact KSt.out.drewN _⟩
          clear hwq hcx hcy
          have had1 := had wq
          have KOa : Kept ((wq.alloc (.cells #[.complex .f64 X Y] 74)).ownsRow w1.heap.size 74 1 u7 (pre ++ [(x, y)]).length (ptsV (pre ++ [(x, y)]))) := ⟨World.ownsRow.alloc KSq.out.own _⟩
          have KBa := Kept.mk (KSq.out.bel.alloc KSq.out.bel.size (.cells #[.complex .f64 X Y] 74))
          have KO := Kept.mk KSq.out.own
          have Kpl : Kept ((pre ++ [(x, y)]).length ≤ 2001) := ⟨by rw [List.length_append, List.length_singleton]; omega⟩
          clear had hbel
          go_wp2_with (at_builtin; refine wpList_append_own_at _ rfl _ _ 71 rfl w1.heap.size 74 i0 z0 1 16 Try.underlying71 hi hz hsz hbt hzc (by decide) u7 (pre ++ [(x, y)]).length (ptsV (pre ++ [(x, y)])) rfl KOa.out ⟨wq.heap.size, 0, none⟩ 1 1 [.complex .f64 X Y] rfl rfl (cell_one_new _ _ _) (by simp [Value.oneCell']) (by have := Kpl.out; unfold maxLen; omega) (by have := Kpl.out; omega) KBa.out.size ?_; intro v5 w5 hown5 hgrow5 _ hat5; have KB5 := Kept.mk (KBa.out.grown hgrow5 KBa.out.size (fun k hk => (KO.out.lt k hk).1)); have KO5 := Kept.mk hown5; clear hown5 hgrow5 hat5)
          go_roundw
          case rel =>
            refine ⟨x + 1, y + 1, pre ++ [(x, y)], KXY.out.symm, ?_, KEq.out, by omega, by omega, ?_, KB5.out⟩
            · have h := KO5.out
              unfold OwnW
              rw [List.length_append, List.length_singleton]
              have e : ptsV (pre ++ [(x, y)] ++ [(x + 1, y + 1)]) = ptsV (pre ++ [(x, y)]) ++ [.complex .f64 X Y] := by unfold ptsV; rw [List.map_append]; simp only [List.map_cons, List.map_nil]; rw [KXY.out]
              rw [e]
              exact h
            · rw [List.length_append, List.length_singleton]; omega
          case measure =>
            have h5 : slN v5 = pre.length + 2 := by
              rcases KO5.out.2 with ⟨rfl, hn⟩ | ⟨g, cap, cur, rfl, -⟩
              · simp at hn
              · show (pre ++ [(x, y)]).length + 1 = _
                simp
            show a.length + b.length + 2 - slN v5 < a.length + b.length + 2 - slN u7
            omega
        · have hsn : (s.toList == t.toList) = false := by
            rw [beq_eq_false_iff_ne]
            intro h
            apply hst
            rw [Lib.toList_data, Lib.toList_data] at h
            apply ByteArray.ext
            exact Array.ext' h
          obtain ⟨nb, hnb⟩ := KG.out (x + 1) (by omega)
          obtain ⟨mb, hmb⟩ := KG.out x (by omega)
          have x3 : (0 : Int) ≤ (x : Int) + 1 := by omega
          have x4 : (x : Int) + 1 < ((a.length : Nat) : Int) + 1 := by omega
          have x5 : ((x : Int) + 1).toNat = x + 1 := by omega
          have x7 : (x : Int) < ((a.length : Nat) : Int) + 1 := by omega
          have y3 : (0 : Int) ≤ (y : Int) + 1 := by omega
          have y4 : (y : Int) + 1 < ((b.length : Nat) : Int) + 1 := by omega
          have y5 : ((y : Int) + 1).toNat = y + 1 := by omega
          have y7 : (y : Int) < ((b.length : Nat) : Int) + 1 := by omega
          have hst3 : stp (a.drop x) (b.drop y) = if rst (a.drop (x + 1)) (b.drop y) ≤ rst (a.drop x) (b.drop (y + 1)) then (1, 0) else (0, 1) := by
            conv => lhs; rw [hda, hdb, stp_cons, if_neg hst, ← hda, ← hdb]
          clear hda hdb hst
          by_cases hle : rst (a.drop (x + 1)) (b.drop y) ≤ rst (a.drop x) (b.drop (y + 1))
          · have hstp : stp (a.drop x) (b.drop y) = (1, 0) := by rw [hst3, if_pos hle]
            have hlei : ((rst (a.drop (x + 1)) (b.drop y) : Nat) : Int) ≤ ((rst (a.drop x) (b.drop (y + 1)) : Nat) : Int) := by omega
            clear hst3 hle
            have hne2 : a.drop x ≠ [] ∨ b.drop y ≠ [] := hne
            have hws := wayP_step (a.drop x) (b.drop y) x y hne2
            rw [List.drop_drop, List.drop_drop, hstp] at hws
            simp only at hws
            have KEq : Kept (wayP a b 0 0 = (pre ++ [(x, y)]) ++ wayP (a.drop (x + 1)) (b.drop (y + 0)) (x + 1) (y + 0)) := ⟨by rw [KSt.out.eq, hws]; simp⟩
            have had : ∀ W, _ := fun W => (hca W).1
            obtain ⟨X, Y, hXY⟩ : ∃ X Y, pt (x + 1) (y + 0) = .complex .f64 X Y := ⟨_, _, rfl⟩
            have KXY := Kept.mk hXY
            try simp only [Nat.add_zero] at hXY
            simp only [hXY] at had
            have hsl := KSt.out.own.len
            rw [List.length_append, List.length_singleton] at hsl
            clear hca hne hne2 hws hstp hXY
            unfold pt at had ⊢
            generalize fl x = X1 at *
            generalize fl y = Y1 at *
            go_upto_region 8 with fail
            go_quiet (fail)
            generalize hwq : World.drewN wr _ = wq
            have KSq : Kept (WySt w1 wq a b u7 x y pre) := ⟨by rw [← hwq]; exact KSt.out.drewN _⟩
            clear hwq hcx hcy
            obtain ⟨t1, t2⟩ := hnb wq KSq.out.bel
            obtain ⟨t3, t4⟩ := hmb wq KSq.out.bel
            have t5 := t2 y (by omega)
            have t6 := t4 (y + 1) (by omega)
            generalize rst (a.drop (x + 1)) (b.drop y) = z1 at *
            generalize rst (a.drop x) (b.drop (y + 1)) = z2 at *
            clear hnb hmb t2 t4 cs ct
            go_upto_region 10 with fail
            go_quiet (fail)
            generalize hwr : World.drewN wq _ = wp
            have KSp : Kept (WySt w1 wp a b u7 x y pre) := ⟨by rw [← hwr]; exact KSq.out.drewN _⟩
            clear hwr
            have had1 := had wp
            have KOa : Kept ((wp.alloc (.cells #[.complex .f64 X Y] 74)).ownsRow w1.heap.size 74 1 u7 (pre ++ [(x, y)]).length (ptsV (pre ++ [(x, y)]))) := ⟨World.ownsRow.alloc KSp.out.own _⟩
            have KBa := Kept.mk (KSp.out.bel.alloc KSp.out.bel.size (.cells #[.complex .f64 X Y] 74))
            have KO := Kept.mk KSp.out.own
            have Kpl : Kept ((pre ++ [(x, y)]).length ≤ 2001) := ⟨by rw [List.length_append, List.length_singleton]; omega⟩
            clear had hbel
            go_wp2_with (at_builtin; refine wpList_append_own_at _ rfl _ _ 71 rfl w1.heap.size 74 i0 z0 1 16 Try.underlying71 hi hz hsz hbt hzc (by decide) u7 (pre ++ [(x, y)]).length (ptsV (pre ++ [(x, y)])) rfl KOa.out ⟨wp.heap.size, 0, none⟩ 1 1 [.complex .f64 X Y] rfl rfl (cell_one_new _ _ _) (by simp [Value.oneCell']) (by have := Kpl.out; unfold maxLen; omega) (by have := Kpl.out; omega) KBa.out.size ?_; intro v5 w5 hown5 hgrow5 _ hat5; have KB5 := Kept.mk (KBa.out.grown hgrow5 KBa.out.size (fun k hk => (KO.out.lt k hk).1)); have KO5 := Kept.mk hown5; clear hown5 hgrow5 hat5)
            go_roundw
            case rel =>
              refine ⟨x + 1, y + 0, pre ++ [(x, y)], KXY.out.symm, ?_, KEq.out, by omega, by omega, ?_, KB5.out⟩
              · have h := KO5.out
                unfold OwnW
                rw [List.length_append, List.length_singleton]
                have e : ptsV (pre ++ [(x, y)] ++ [(x + 1, y + 0)]) = ptsV (pre ++ [(x, y)]) ++ [.complex .f64 X Y] := by unfold ptsV; rw [List.map_append]; simp only [List.map_cons, List.map_nil]; rw [KXY.out]
                rw [e]
                exact h
              · rw [List.length_append, List.length_singleton]; omega
            case measure =>
              have h5 : slN v5 = pre.length + 2 := by
                rcases KO5.out.2 with ⟨rfl, hn⟩ | ⟨g, cap, cur, rfl, -⟩
                · simp at hn
                · show (pre ++ [(x, y)]).length + 1 = _
                  simp
              show a.length + b.length + 2 - slN v5 < a.length + b.length + 2 - slN u7
              omega
          · have hstp : stp (a.drop x) (b.drop y) = (0, 1) := by rw [hst3, if_neg hle]
            have hlei : ¬ ((rst (a.drop (x + 1)) (b.drop y) : Nat) : Int) ≤ ((rst (a.drop x) (b.drop (y + 1)) : Nat) : Int) := by omega
            clear hst3 hle
            have hne2 : a.drop x ≠ [] ∨ b.drop y ≠ [] := hne
            have hws := wayP_step (a.drop x) (b.drop y) x y hne2
            rw [List.drop_drop, List.drop_drop, hstp] at hws
            simp only at hws
            have KEq : Kept (wayP a b 0 0 = (pre ++ [(x, y)]) ++ wayP (a.drop (x + 0)) (b.drop (y + 1)) (x + 0) (y + 1)) := ⟨by rw [KSt.out.eq, hws]; simp⟩
            have had : ∀ W, _ := fun W => (hca W).2.1
            obtain ⟨X, Y, hXY⟩ : ∃ X Y, pt (x + 0) (y + 1) = .complex .f64 X Y := ⟨_, _, rfl⟩
            have KXY := Kept.mk hXY
            try simp only [Nat.add_zero] at hXY
            simp only [hXY] at had
            have hsl := KSt.out.own.len
            rw [List.length_append, List.length_singleton] at hsl
            clear hca hne hne2 hws hstp hXY
            unfold pt at had ⊢
            generalize fl x = X1 at *
            generalize fl y = Y1 at *
            go_upto_region 8 with fail
            go_quiet (fail)
            generalize hwq : World.drewN wr _ = wq
            have KSq : Kept (WySt w1 wq a b u7 x y pre) := ⟨by rw [← hwq]; exact KSt.out.drewN _⟩
            clear hwq hcx hcy
            obtain ⟨t1, t2⟩ := hnb wq KSq.out.bel
            obtain ⟨t3, t4⟩ := hmb wq KSq.out.bel
            have t5 := t2 y (by omega)
            have t6 := t4 (y + 1) (by omega)
            generalize rst (a.drop (x + 1)) (b.drop y) = z1 at *
            generalize rst (a.drop x) (b.drop (y + 1)) = z2 at *
            clear hnb hmb t2 t4 cs ct
            go_upto_region 10 with fail
            go_quiet (fail)
            generalize hwr : World.drewN wq _ = wp
            have KSp : Kept (WySt w1 wp a b u7 x y pre) := ⟨by rw [← hwr]; exact KSq.out.drewN _⟩
            clear hwr
            have had1 := had wp
            have KOa : Kept ((wp.alloc (.cells #[.complex .f64 X Y] 74)).ownsRow w1.heap.size 74 1 u7 (pre ++ [(x, y)]).length (ptsV (pre ++ [(x, y)]))) := ⟨World.ownsRow.alloc KSp.out.own _⟩
            have KBa := Kept.mk (KSp.out.bel.alloc KSp.out.bel.size (.cells #[.complex .f64 X Y] 74))
            have KO := Kept.mk KSp.out.own
            have Kpl : Kept ((pre ++ [(x, y)]).length ≤ 2001) := ⟨by rw [List.length_append, List.length_singleton]; omega⟩
            clear had hbel
            go_wp2_with (at_builtin; refine wpList_append_own_at _ rfl _ _ 71 rfl w1.heap.size 74 i0 z0 1 16 Try.underlying71 hi hz hsz hbt hzc (by decide) u7 (pre ++ [(x, y)]).length (ptsV (pre ++ [(x, y)])) rfl KOa.out ⟨wp.heap.size, 0, none⟩ 1 1 [.complex .f64 X Y] rfl rfl (cell_one_new _ _ _) (by simp [Value.oneCell']) (by have := Kpl.out; unfold maxLen; omega) (by have := Kpl.out; omega) KBa.out.size ?_; intro v5 w5 hown5 hgrow5 _ hat5; have KB5 := Kept.mk (KBa.out.grown hgrow5 KBa.out.size (fun k hk => (KO.out.lt k hk).1)); have KO5 := Kept.mk hown5; clear hown5 hgrow5 hat5)
            go_roundw
            case rel =>
              refine ⟨x + 0, y + 1, pre ++ [(x, y)], KXY.out.symm, ?_, KEq.out, by omega, by omega, ?_, KB5.out⟩
              · have h := KO5.out
                unfold OwnW
                rw [List.length_append, List.length_singleton]
                have e : ptsV (pre ++ [(x, y)] ++ [(x + 0, y + 1)]) = ptsV (pre ++ [(x, y)]) ++ [.complex .f64 X Y] := by unfold ptsV; rw [List.map_append]; simp only [List.map_cons, List.map_nil]; rw [KXY.out]
                rw [e]
                exact h
              · rw [List.length_append, List.length_singleton]; omega
            case measure =>
              have h5 : slN v5 = pre.length + 2 := by
                rcases KO5.out.2 with ⟨rfl, hn⟩ | ⟨g, cap, cur, rfl, -⟩
                · simp at hn
                · show (pre ++ [(x, y)]).length + 1 = _
                  simp
              show a.length + b.length + 2 - slN v5 < a.length + b.length + 2 - slN u7
              omega
end Go.Proofs.Ytidpdhnbnecddaa
