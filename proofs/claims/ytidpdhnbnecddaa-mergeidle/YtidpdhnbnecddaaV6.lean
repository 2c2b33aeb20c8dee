/-
  Walks: fillRest.
-/
import Derived.Test.YtidpdhnbnecddaaV5
namespace Go.Proofs.Ytidpdhnbnecddaa
open Go.RowKit

theorem wpAnyH_takeD {P : Program} {md : Region.Mode} {ops : Array Oper} {Q : Exit → Act → World → Prop} {S : World → Prop} {i : Nat} {oi : Oper} {d : Option Tmp} {v : Value} {fuel : Nat} {listed : Array Bool} {a : Act} {w : World} (hi : ops[i]? = some oi) (hd : oi.dst = d)
    (hs : Region.noSelect ops = true) (hf : Region.free md ops listed i = true) (hr : (Region.ready md ops listed).contains i = true)
    (hQ : ∀ c a w, Q (.panic c) (a.put oi.dst v) w → Q (.panic c) a w) (hy : YieldsIf P ops S oi v a) (hS : S w)
    (h : wpAnyH P md ops Q S fuel (listed.setIfInBounds i true) (a.put d v) w) : wpAnyH P md ops Q S (fuel + 1) listed a w := by
  subst hd
  exact wpAnyH_take hi hs hf hr hQ hy hS h
def slV (g n : Nat) : Value := .slice (some ⟨g, 0, none⟩) n n
/-- The plane, its rows from k on filled. -/
structure PlSt (w wr : World) (p tb ga gb : Nat) (ev : Value) (M N : List Nat) (k : Nat) : Prop where
  pl : Bk wr p 93 [slV ga M.length, slV gb N.length, ev, slV tb (M.length + 1)]
  st : ∃ (C : List Value) (r : Nat → Nat), C.length = M.length + 1 ∧ Bk wr tb 116 C ∧ ∀ j, k ≤ j → j ≤ M.length → C[j]? = some (slV (r j) (N.length + 1)) ∧ Bk wr (r j) 117 (u16V (rowL (M.drop j) N)) ∧ tb < r j
  tb : tb = w.heap.size
  fx : Fx (fun i => i = p) w wr
  le : k ≤ M.length + 1
theorem info_u16 : ∃ i, Try.prog.info? 117 = some i ∧ i.zero = some (.int .u16 0) ∧ i.size = 1 ∧ i.bytes = 2 := by
  have h : (Try.prog.info? 117).map (fun i => (i.zero, i.size, i.bytes)) = some (some (.int .u16 0), 1, 2) := by kernel_rfl
  cases h' : Try.prog.info? 117 with
  | none => rw [h'] at h; cases h
  | some i =>
    rw [h'] at h
    simp only [Option.map_some, Option.some.injEq, Prod.mk.injEq] at h
    exact ⟨i, rfl, h.1, h.2.1, h.2.2⟩
theorem info_row : ∃ i, Try.prog.info? 116 = some i ∧ i.zero = some (.slice none 0 0) ∧ i.size = 1 ∧ i.bytes = 24 := by
  have h : (Try.prog.info? 116).map (fun i => (i.zero, i.size, i.bytes)) = some (some (.slice none 0 0), 1, 24) := by kernel_rfl
  cases h' : Try.prog.info? 116 with
  | none => rw [h'] at h; cases h
  | some i =>
    rw [h'] at h
    simp only [Option.map_some, Option.some.injEq, Prod.mk.injEq] at h
    exact ⟨i, rfl, h.1, h.2.1, h.2.2⟩
/-- The same, with a row under way. -/
structure PlMid (w wr : World) (p tb ga gb : Nat) (ev : Value) (M N : List Nat) (k rb : Nat) (R : List Nat) : Prop where
  pl : Bk wr p 93 [slV ga M.length, slV gb N.length, ev, slV tb (M.length + 1)]
  st : ∃ (C : List Value) (r : Nat → Nat), C.length = M.length + 1 ∧ Bk wr tb 116 C ∧ C[k]? = some (slV rb (N.length + 1)) ∧ ∀ j, k + 1 ≤ j → j ≤ M.length → C[j]? = some (slV (r j) (N.length + 1)) ∧ Bk wr (r j) 117 (u16V (rowL (M.drop j) N)) ∧ tb < r j ∧ r j ≠ rb
  row : Bk wr rb 117 (u16V R)
  rl : R.length = N.length + 1
  rlt : tb < rb
  tb : tb = w.heap.size
  pw : p < w.heap.size
  fx : Fx (fun i => i = p) w wr
  le : k ≤ M.length
section
variable {w wr : World} {p tb ga gb k rb : Nat} {ev : Value} {M N R : List Nat}
theorem PlMid.set (h : PlMid w wr p tb ga gb ev M N k rb R) (j x : Nat) : PlMid w (wr.setCell ⟨rb, j, none⟩ (.int .u16 (x : Int))) p tb ga gb ev M N k rb (R.set j x) := by
  obtain ⟨C, r, h1, h2, h3, h4⟩ := h.st
  have ht := h.tb
  have hp := h.pw
  have hl := h.rlt
  refine ⟨h.pl.other (by omega) _, ⟨C, r, h1, h2.other (by omega) _, h3, fun j a b => ?_⟩, ?_, by simp [h.rl], hl, ht, hp, h.fx.trans (Fx.setCell _ _ _ _) (fun i hi e => by omega), h.le⟩
  · obtain ⟨a1, a2, a3, a4⟩ := h4 j a b
    exact ⟨a1, a2.other a4 _, a3, a4⟩
  · have := h.row.set j (.int .u16 (x : Int))
    rw [u16V_set] at this
    exact this
theorem PlMid.over {w' : World} {R' : List Nat} (h : PlMid w wr p tb ga gb ev M N k rb R) (hf : Fx (fun i => i = rb) wr w') (hb : Bk w' rb 117 (u16V R')) (hl' : R'.length = N.length + 1) : PlMid w w' p tb ga gb ev M N k rb R' := by
  obtain ⟨C, r, h1, h2, h3, h4⟩ := h.st
  have ht := h.tb
  have hp := h.pw
  have hl := h.rlt
  refine ⟨h.pl.fx hf (by omega), ⟨C, r, h1, h2.fx hf (by omega), h3, fun j a b => ?_⟩, hb, hl', hl, ht, hp, h.fx.trans hf (fun i hi e => by omega), h.le⟩
  obtain ⟨a1, a2, a3, a4⟩ := h4 j a b
  exact ⟨a1, a2.fx hf a4, a3, a4⟩
theorem PlMid.drewN (h : PlMid w wr p tb ga gb ev M N k rb R) (m : Nat) : PlMid w (wr.drewN m) p tb ga gb ev M N k rb R := ⟨h.pl, h.st, h.row, h.rl, h.rlt, h.tb, h.pw, h.fx.drewN m, h.le⟩
theorem PlMid.done (h : PlMid w wr p tb ga gb ev M N k rb R) (hR : R = rowL (M.drop k) N) : PlSt w wr p tb ga gb ev M N k := by
  obtain ⟨C, r, h1, h2, h3, h4⟩ := h.st
  refine ⟨h.pl, ⟨C, fun j => if j = k then rb else r j, h1, h2, fun j a b => ?_⟩, h.tb, h.fx, by have := h.le; omega⟩
  by_cases e : j = k
  · subst e
    simp only [if_true]
    exact ⟨h3, by rw [← hR]; exact h.row, h.rlt⟩
  · simp only [if_neg e]
    obtain ⟨a1, a2, a3, -⟩ := h4 j (by omega) b
    exact ⟨a1, a2, a3⟩
theorem PlMid.c3 (h : PlMid w wr p tb ga gb ev M N k rb R) : wr.cell? ⟨p, 3, none⟩ = some (.slice (some ⟨tb, 0, none⟩) (M.length + 1) (M.length + 1)) := h.pl.cell 3 _ rfl
theorem PlMid.ck (h : PlMid w wr p tb ga gb ev M N k rb R) : wr.cell? ⟨tb, k, none⟩ = some (.slice (some ⟨rb, 0, none⟩) (N.length + 1) (N.length + 1)) := by
  obtain ⟨C, r, h1, h2, h3, h4⟩ := h.st
  exact h2.cell k _ h3
end
/-- A new row is laid. -/
theorem PlSt.mid {w wr w5 : World} {p tb ga gb k : Nat} {ev : Value} {M N : List Nat} (h : PlSt w wr p tb ga gb ev M N (k + 1)) (hp : p < w.heap.size) (hg : wr.grownBy w5 none) (hb : Bk w5 wr.heap.size 117 (u16V (List.replicate (N.length + 1) 0))) :
    w5.cell? ⟨p, 3, none⟩ = some (.slice (some ⟨tb, 0, none⟩) (M.length + 1) (M.length + 1)) ∧ (∃ u, w5.cell? ⟨tb, k, none⟩ = some u) ∧ w5.frozen? ⟨tb, k, none⟩ = false ∧ PlMid w (w5.setCell ⟨tb, k, none⟩ (slV wr.heap.size (N.length + 1))) p tb ga gb ev M N k wr.heap.size (List.replicate (N.length + 1) 0) := by
  obtain ⟨C, r, h1, h2, h3⟩ := h.st
  have ht := h.tb
  have hle := h.le
  have htl := h2.lt
  have hF := Fx.grown hg
  have h2' := h2.fx hF (by simp)
  have hp' := h.pl.fx hF (by simp)
  obtain ⟨u, hu⟩ : ∃ u, C[k]? = some u := ⟨_, List.getElem?_eq_getElem (by omega)⟩
  refine ⟨hp'.cell 3 _ rfl, ⟨u, h2'.cell k _ hu⟩, h2'.frozen k, ⟨hp'.other (by omega) _, ⟨C.set k (slV wr.heap.size (N.length + 1)), r, by simp [h1], h2'.set k _, by rw [List.getElem?_set_self (by omega)], fun j a b => ?_⟩, hb.other (by omega) _, by simp, by omega, ht, hp, (h.fx.trans hF (fun i _ e => by cases e)).trans (Fx.setCell _ _ _ _) (fun i hi e => by omega), by omega⟩⟩
  obtain ⟨a1, a2, a3⟩ := h3 j a b
  have := a2.lt
  exact ⟨by rw [List.getElem?_set_ne (by omega)]; exact a1, (a2.fx hF (by simp)).other (by omega) _, a3, by omega⟩
set_option maxHeartbeats 2000000 in
set_option maxRecDepth 100000 in
theorem fillRest_any (p ga gb : Nat) (ev rv : Value) (M N : List Nat) (w : World) (hM : M.length ≤ 1000) (hN : N.length ≤ 1000) (hp : Bk w p 93 [slV ga M.length, slV gb N.length, ev, rv]) (ha : Bk w ga 3 (intV M)) (hb : Bk w gb 3 (intV N)) (h1 : ga ≠ p) (h2 : gb ≠ p) :
    Calls Try.prog 65 #[.pointer (some ⟨p, 0, none⟩)] w fun e w' => e = .returned (.tuple #[]) ∧ PlSt w w' p w.heap.size ga gb ev M N 0 := by
  obtain ⟨i0, hi, hz, hsz, hbt⟩ := info_row
  obtain ⟨i1, hi1, hz1, hsz1, hbt1⟩ := info_u16
  have c0 := hp.cell 0 _ rfl
  have c1 := hp.cell 1 _ rfl
  have hplt := hp.lt
  have hb1 : i0.bytes * (M.length + 1) ≤ 281474976710656 := by rw [hbt]; omega
  have hb2 : M.length + 1 ≤ maxLen := by unfold maxLen; omega
  have hb3 : i1.bytes * (N.length + 1) ≤ 281474976710656 := by rw [hbt1]; omega
  have hb4 : N.length + 1 ≤ maxLen := by unfold maxLen; omega
  have e0 : IntKind.i64.wrap ((M.length : Int) + 1) = (M.length : Int) + 1 := wr64 (by omega) (by omega)
  unfold slV at c0 c1
  have Kp := Kept.mk hp
  have Ka : Kept (∀ W, Fx (fun i => i = p) w W → Bk W ga 3 (intV M)) := ⟨fun W hW => ha.fx hW h1⟩
  have Kb : Kept (∀ W, Fx (fun i => i = p) w W → Bk W gb 3 (intV N)) := ⟨fun W hW => hb.fx hW h2⟩
  clear hp ha hb
  go_enter Try.func65, Try.ntmps65
  go_upto_region 0 with fail
  go_quiet (fail)
  generalize hw0 : World.drewN w _ = w0
  have hF0 : Fx (fun i => i = p) w w0 := by rw [← hw0]; exact (Fx.refl _ w).drewN _
  have hs0 : w0.heap.size = w.heap.size := by rw [← hw0]; rfl
  have Ks0 := Kept.mk hs0
  have K2 : Kept (∀ w2, w2.ownsRow w.heap.size 116 1 (.slice (some ⟨w0.heap.size, 0, none⟩) (M.length + 1) (M.length + 1)) (M.length + 1) (madeCells (Value.slice none 0 0).cells ((M.length + 1) * 1)).toList → w0.grownBy w2 none → w2.cell? ⟨p, 3, none⟩ = some rv ∧ w2.frozen? ⟨p, 3, none⟩ = false ∧ PlSt w (w2.setCell ⟨p, 3, none⟩ (slV w.heap.size (M.length + 1))) p w.heap.size ga gb ev M N (M.length + 1)) := ⟨fun w2 ho hg => by
    have hF := hF0.trans (Fx.grown hg) (fun i _ e => by cases e)
    have hb := bk_made ho
    rw [hs0] at hb
    have hp2 : Bk w2 p 93 [slV ga M.length, slV gb N.length, ev, rv] := (Kp.out.far (w' := w0) (by rw [← hw0]; rfl)).fx (Fx.grown hg) (by simp)
    refine ⟨hp2.cell 3 _ rfl, hp2.frozen 3, hp2.set 3 _, ⟨_, fun _ => 0, ?_, hb.other (by omega) _, fun j a b => by omega⟩, rfl, hF.trans (Fx.setCell _ _ _ _) (fun i _ e => e), Nat.le_refl _⟩
    rw [made_cells _ _ rfl]
    simp⟩
  clear hF0 hw0 c0 c1
  have hbz : w.heap.size ≤ w0.heap.size := by omega
  go_upto_region 3 with (at_make; refine wpList_make_full _ rfl _ _ 91 rfl w.heap.size 116 i0 (.slice none 0 0) 1 Try.underlying91 hi hz hsz .i64 .i64 ((M.length : Int) + 1) ((M.length : Int) + 1) (M.length + 1) rfl rfl (by omega) (by omega) hb1 hb2 hbz ?_; intro w2 hown hgrow; obtain ⟨cp, fp, hS⟩ := K2.out w2 hown hgrow; have KS := Kept.mk hS; clear hown hgrow hS)
  clear K2 hbz hs0 Ks0 cp fp Kp hi hz hsz hbt hb1 hb2 i0 e0
  go_loopw [4] (fun xv wr => ∃ k : Nat, xv = .int .i64 ((k : Int) - 1) ∧ PlSt w wr p w.heap.size ga gb ev M N k) (fun xv _ => (intOf xv + 1).toNat)
  case atStart => exact ⟨M.length + 1, by simp, KS.out⟩
  case round =>
    obtain ⟨k, rfl, hst⟩ := hrel
    have KSt := Kept.mk hst
    clear KS
    cases k with
    | zero =>
      have hge : decide (((0 : Nat) : Int) - 1 ≥ 0) = false := by decide
      clear hst
      go_wp2
      refine bodyPost_end (results_none rfl _ _ _) rfl ?_
      exact ⟨rfl, KSt.out⟩
    | succ k =>
      have hky : ((k + 1 : Nat) : Int) - 1 = (k : Int) := by omega
      rw [hky]
      have hk : k ≤ M.length := by have := hst.le; omega
      have hge : decide ((k : Int) ≥ 0) = true := decide_eq_true (by omega)
      have i0 : (0 : Int) ≤ (k : Int) := by omega
      have i1' : (k : Int) < ((M.length : Nat) : Int) + 1 := by omega
      have e2 : IntKind.i64.wrap ((k : Int) - 1) = (k : Int) - 1 := wr64 (by omega) (by omega)
      have e3 : IntKind.i64.wrap ((N.length : Int) + 1) = (N.length : Int) + 1 := wr64 (by omega) (by omega)
      have c3 : wr.cell? ⟨p, 3, none⟩ = some (.slice (some ⟨w.heap.size, 0, none⟩) (M.length + 1) (M.length + 1)) := hst.pl.cell 3 _ rfl
      clear hst
      go_upto_region 5 with fail
      have Kz := Kept.mk (show p < w.heap.size from hplt)
      refine wp_region_held_drew (S := fun W => W.cell? ⟨p, 3, none⟩ = some (.slice (some ⟨w.heap.size, 0, none⟩) (M.length + 1) (M.length + 1))) (by kernel_rfl) c3 (fun hHeld => ?_)
      refine wpAnyH_takeD (i := 0) (d := some 27) (v := .pointer (some ⟨p, 0, none⟩)) rfl rfl (by kernel_rfl) (by kernel_rfl) (by kernel_rfl) (fun _ _ _ h => h) (Or.inl ⟨by rfl, fun W hSw => by (try dsimp only at hSw); go_simp⟩) (by assumption) ?_
      simp only [Act.put, List.setIfInBounds_toArray, List.set_cons_zero, List.set_cons_succ]
      refine wpAnyH_takeD (i := 1) (d := some 28) (v := .pointer (some ⟨p, 0, none⟩)) rfl rfl (by kernel_rfl) (by kernel_rfl) (by kernel_rfl) (fun _ _ _ h => h) (Or.inl ⟨by rfl, fun W hSw => by (try dsimp only at hSw); go_simp⟩) (by assumption) ?_
      simp only [Act.put, List.setIfInBounds_toArray, List.set_cons_zero, List.set_cons_succ]
      refine wpAnyH_takeD (i := 2) (d := some 29) (v := .pointer (some ⟨p, 3, none⟩)) rfl rfl (by kernel_rfl) (by kernel_rfl) (by kernel_rfl) (fun _ _ _ h => h) (Or.inl ⟨by rfl, fun W hSw => by (try dsimp only at hSw); go_simp⟩) (by assumption) ?_
      simp only [Act.put, List.setIfInBounds_toArray, List.set_cons_zero, List.set_cons_succ]
      refine wpAnyH_takeD (i := 3) (d := some 30) (v := .slice (some ⟨w.heap.size, 0, none⟩) (M.length + 1) (M.length + 1)) rfl rfl (by kernel_rfl) (by kernel_rfl) (by kernel_rfl) (fun _ _ _ h => h) (Or.inl ⟨by rfl, fun W hSw => by (try dsimp only at hSw); go_simp⟩) (by assumption) ?_
      simp only [Act.put, List.setIfInBounds_toArray, List.set_cons_zero, List.set_cons_succ]
      refine wpAnyH_takeD (i := 4) (d := some 31) (v := .int .i64 k) rfl rfl (by kernel_rfl) (by kernel_rfl) (by kernel_rfl) (fun _ _ _ h => h) (Or.inl ⟨by rfl, fun W hSw => by (try dsimp only at hSw); go_simp⟩) (by assumption) ?_
      simp only [Act.put, List.setIfInBounds_toArray, List.set_cons_zero, List.set_cons_succ]
      refine wpAnyH_takeD (i := 5) (d := some 32) (v := .int .i64 N.length) rfl rfl (by kernel_rfl) (by kernel_rfl) (by kernel_rfl) (fun _ _ _ h => h) (Or.inl ⟨by rfl, fun W hSw => by (try dsimp only at hSw); go_simp⟩) (by assumption) ?_
      simp only [Act.put, List.setIfInBounds_toArray, List.set_cons_zero, List.set_cons_succ]
      refine wpAnyH_takeD (i := 6) (d := some 33) (v := .int .i64 ((N.length : Int) + 1)) rfl rfl (by kernel_rfl) (by kernel_rfl) (by kernel_rfl) (fun _ _ _ h => h) (Or.inl ⟨by rfl, fun W hSw => by (try dsimp only at hSw); go_simp⟩) (by assumption) ?_
      simp only [Act.put, List.setIfInBounds_toArray, List.set_cons_zero, List.set_cons_succ]
      have hst3 : PlSt w wr.drew p w.heap.size ga gb ev M N (k + 1) := ⟨KSt.out.pl, KSt.out.st, rfl, KSt.out.fx.drewN 1, KSt.out.le⟩
      generalize wr.drew = w3 at *
      obtain ⟨w5, hrun, hown, hgr⟩ := run_make_full (P := Try.prog) w3 0 116 117 i1 (.int .u16 0) 1 Try.underlying116 hi1 hz1 hsz1 .i64 .i64 (N.length + 1) hb3 hb4 (Nat.zero_le _)
      have hbk := bk_made hown
      rw [made_cells _ _ rfl, show List.replicate (N.length + 1) (Value.int .u16 0) = u16V (List.replicate (N.length + 1) 0) by unfold u16V; rw [List.map_replicate]; rfl] at hbk
      obtain ⟨d3, ⟨u, dk⟩, fk, hmid⟩ := hst3.mid Kz.out hgr hbk
      rw [show ((N.length + 1 : Nat) : Int) = (N.length : Int) + 1 by omega] at hrun
      have KMid := Kept.mk hmid
      obtain ⟨rb, hrb⟩ : ∃ rb, w3.heap.size = rb := ⟨_, rfl⟩
      rw [hrb] at hrun KMid
      clear hmid hbk hown hgr hst3 hrb c3
      refine wpAnyH_ready (rs := [7]) (by kernel_rfl) (by simp) ?_
      refine AllReadyH.cons (o := _) rfl (fun K hK => ?_) AllReadyH.nil
      go_simp
      refine hK.out _ _ d3 (fun hHeld1 => ?_)
      clear hK K hrun hHeld
      refine wpAnyH_ready (rs := [8]) (by kernel_rfl) (by simp) ?_
      refine AllReadyH.cons (o := _) rfl (fun K hK => ?_) AllReadyH.nil
      go_simp
      refine hK.out _ _ d3 (fun hHeld2 => ?_)
      clear hK K hHeld1
      refine wpAnyH_ready (rs := [9]) (by kernel_rfl) (by simp) ?_
      refine AllReadyH.cons (o := _) rfl (fun K hK => ?_) AllReadyH.nil
      go_simp
      refine hK.out _ _ KMid.out.c3 (fun hHeld3 => ?_)
      clear hK K hHeld2
      refine wpAnyH_done (by kernel_rfl) ?_ _
      clear hHeld3 d3 dk fk
      have KMid : Kept (PlMid w (w5.setCell ⟨w.heap.size, k, none⟩ (.slice (some ⟨rb, 0, none⟩) (N.length + 1) (N.length + 1))) p w.heap.size ga gb ev M N k rb (List.replicate (N.length + 1) 0)) := ⟨KMid.out⟩
      obtain ⟨w6, hw6⟩ : ∃ w6, w5.setCell ⟨w.heap.size, k, none⟩ (.slice (some ⟨rb, 0, none⟩) (N.length + 1) (N.length + 1)) = w6 := ⟨_, rfl⟩
      rw [hw6] at KMid
      rw [hw6]
      clear hw6
      obtain ⟨d, hd⟩ : ∃ d, M.length - k = d := ⟨_, rfl⟩
      have e4 : IntKind.i64.wrap ((M.length : Int) - (k : Int)) = (d : Int) := by rw [wr64 (by omega) (by omega)]; omega
      have e5 : IntKind.u16.wrap (d : Int) = (d : Int) := by rw [show IntKind.u16.wrap (d : Int) = (d : Int) % 65536 from rfl]; omega
      have j0 : (0 : Int) ≤ (N.length : Int) := by omega
      have j1 : (N.length : Int) < ((N.length : Nat) : Int) + 1 := by omega
      have c3 := KMid.out.c3
      have ck := KMid.out.ck
      have cm := KMid.out.row.cell N.length (.int .u16 ((0 : Nat) : Int)) (u16V_get (by rw [List.getElem?_replicate]; simp))
      have fm := KMid.out.row.frozen N.length
      have KM2 := Kept.mk (KMid.out.set N.length d)
      have KR2 : Kept (((List.replicate (N.length + 1) 0).set N.length d)[N.length]? = some d) := ⟨by rw [List.getElem?_set_self (by simp)]⟩
      go_upto_region 7 with fail
      obtain ⟨w7, hw7⟩ : ∃ w7, w6.setCell ⟨rb, N.length, none⟩ (.int .u16 (d : Int)) = w7 := ⟨_, rfl⟩
      rw [hw7] at KM2
      rw [hw7]
      clear hw7 c3 ck cm fm KMid e4 e5
      generalize hR0 : (List.replicate (N.length + 1) 0).set N.length d = R0 at *
      clear hR0
      by_cases hkM : k = M.length
      · have hbq : ((k : Int) == (M.length : Int)) = true := by simp [hkM]
        obtain rfl : d = 0 := by omega
        have Kdr : Kept (M.drop k = []) := ⟨by rw [hkM, List.drop_length]⟩
        have Kk := Kept.mk hkM
        clear hkM
        go_upto_region 9 with fail
        go_loopw [53] (fun iv wr => ∃ (y : Nat) (R : List Nat), y ≤ N.length ∧ iv = .int .i64 y ∧ PlMid w wr p w.heap.size ga gb ev M N k rb R ∧ R[N.length]? = some 0 ∧ ∀ j, j < y → R[j]? = some (N.length - j)) (fun iv _ => N.length - (intOf iv).toNat)
        case atStart => exact ⟨0, R0, Nat.zero_le _, rfl, KM2.out, KR2.out, fun j hj => by omega⟩
        case round =>
          obtain ⟨y, R, hyl, rfl, hmid, hR0, hRj⟩ := hrel
          have KMd := Kept.mk hmid
          have KRj := Kept.mk hRj
          have KR0 := Kept.mk hR0
          clear KM2 KR2 hRj hR0
          by_cases hyt : y < N.length
          · have hyi : (y : Int) < (N.length : Int) := by omega
            have y0 : (0 : Int) ≤ (y : Int) := by omega
            have y1 : (y : Int) < ((N.length : Nat) : Int) + 1 := by omega
            have e1 : IntKind.i64.wrap ((y : Int) + 1) = (y : Int) + 1 := wr64 (by omega) (by omega)
            obtain ⟨z, hz0⟩ : ∃ z, N.length - y = z := ⟨_, rfl⟩
            have e4 : IntKind.i64.wrap ((N.length : Int) - (y : Int)) = (z : Int) := by rw [wr64 (by omega) (by omega)]; omega
            have e5 : IntKind.u16.wrap (z : Int) = (z : Int) := by rw [show IntKind.u16.wrap (z : Int) = (z : Int) % 65536 from rfl]; omega
            have c3 := hmid.c3
            have ck := hmid.ck
            obtain ⟨u0, hu0⟩ : ∃ u0, R[y]? = some u0 := ⟨_, List.getElem?_eq_getElem (by rw [hmid.rl]; omega)⟩
            have cm := hmid.row.cell y _ (u16V_get hu0)
            have fm := hmid.row.frozen y
            have hrl := hmid.rl
            have KM3 := Kept.mk (hmid.set y z)
            have KR3 : Kept ((R.set y z)[N.length]? = some 0 ∧ ∀ j, j < y + 1 → (R.set y z)[j]? = some (N.length - j)) := ⟨⟨by rw [List.getElem?_set_ne (by omega)]; exact KR0.out, fun j hj => by
              by_cases e : j = y
              · subst e
                rw [List.getElem?_set_self (by omega), hz0]
              · rw [List.getElem?_set_ne (fun h => e h.symm)]
                exact KRj.out j (by omega)⟩⟩
            clear hmid hu0 hrl
            go_wp2
            go_roundw
            case rel => exact ⟨y + 1, R.set y z, by omega, by go_num, KM3.out, KR3.out.1, KR3.out.2⟩
            case measure => simp [intOf]; omega
          · have hyi : ¬ (y : Int) < (N.length : Int) := by omega
            obtain rfl : y = N.length := by omega
            have KD : Kept (PlSt w wr p w.heap.size ga gb ev M N k) := ⟨hmid.done (row_eq hmid.rl fun j hj => by
              rw [Kdr.out, rst_nil, List.length_drop]
              by_cases e : j = N.length
              · subst e
                rw [KR0.out]
                simp
              · exact KRj.out j (by omega))⟩
            clear hmid
            go_wp2
            go_roundw
            case rel => exact ⟨k, by go_num, KD.out⟩
            case measure => simp [intOf]
      · have hbq : ((k : Int) == (M.length : Int)) = false := by simp; omega
        have hkl : k < M.length := by omega
        have k0 : (0 : Int) ≤ (k : Int) + 1 := by omega
        have k1 : (k : Int) + 1 < ((M.length : Nat) : Int) + 1 := by omega
        have k2 : (k : Int) < (M.length : Int) := by omega
        have k3 : ((k : Int) + 1).toNat = k + 1 := by omega
        have e1 : IntKind.i64.wrap ((k : Int) + 1) = (k : Int) + 1 := wr64 (by omega) (by omega)
        obtain ⟨q, hq⟩ : ∃ q, M[k]? = some q := ⟨_, List.getElem?_eq_getElem hkl⟩
        have hdr := drop_cons hq
        have hM2 := KM2.out
        obtain ⟨C, r, hC1, hC2, hC3, hC4⟩ := hM2.st
        obtain ⟨g1, g2, g3, g4⟩ := hC4 (k + 1) (Nat.le_refl _) (by omega)
        obtain ⟨nb, hnb⟩ : ∃ nb, r (k + 1) = nb := ⟨_, rfl⟩
        rw [hnb] at g1 g2 g4
        have c3 := hM2.c3
        have ck := hM2.ck
        have cn : w7.cell? ⟨w.heap.size, k + 1, none⟩ = some (.slice (some ⟨nb, 0, none⟩) (N.length + 1) (N.length + 1)) := hC2.cell (k + 1) _ g1
        have cp0 : w7.cell? ⟨p, 0, none⟩ = some (.slice (some ⟨ga, 0, none⟩) M.length M.length) := hM2.pl.cell 0 _ rfl
        have cp1 : w7.cell? ⟨p, 1, none⟩ = some (.slice (some ⟨gb, 0, none⟩) N.length N.length) := hM2.pl.cell 1 _ rfl
        have ca := (Ka.out w7 hM2.fx).cell k _ (intV_get hq)
        have hgb : gb ≠ rb := by
          have := hM2.rlt
          have h3 := hM2.tb
          rcases Nat.lt_or_ge gb w.heap.size with h' | h'
          · omega
          · have := (Kb.out w (Fx.refl _ _)).lt
            omega
        have KF : Kept (∀ m, Calls Try.prog 70 #[.slice (some ⟨rb, 0, none⟩) (N.length + 1) (N.length + 1), .slice (some ⟨nb, 0, none⟩) (N.length + 1) (N.length + 1), .int .i64 q, .slice (some ⟨gb, 0, none⟩) N.length N.length] (w7.drewN m) fun e w' => e = .returned (.tuple #[]) ∧ PlSt w w' p w.heap.size ga gb ev M N k) := ⟨fun m => by
          have hMm := hM2.drewN m
          refine (fillRow_any rb nb gb q R0 (M.drop (k + 1)) N (w7.drewN m) (by rw [List.length_drop]; omega) hN hMm.rl hMm.row (by rw [KR2.out, List.length_drop]; congr 1; omega) (show Bk (w7.drewN m) nb _ _ from g2) (Kb.out _ hMm.fx) g4 hgb).mono fun e w' hp => ?_
          obtain ⟨h1, h2, h3⟩ := hp
          refine ⟨h1, (hMm.over h3 h2 (by rw [rowL_len])).done ?_⟩
          rw [hdr]⟩
        clear hM2 hC1 hC2 hC3 hC4 g1 g2 g3 g4 hgb hdr hnb hq KM2 KR2 Ka Kb
        go_upto_region 13 with fail
        refine wp_region_last _ 26 (by kernel_rfl) (by kernel_rfl) rfl rfl ?_
        simp only [List.take_succ_cons, List.take_zero]
        repeat (first | go_big_quiet_step (fail) | quiet_step (fail))
        refine wpQuiet_nil ?_
        intro m
        go_wp2_with fail
        refine Calls.mono (KF.out m) (fun e w8 hp => ?_)
        obtain ⟨rfl, hS8⟩ := hp
        have KS8 := Kept.mk hS8
        clear hS8 c3 ck cn cp0 cp1 ca
        go_wp2
        go_roundw
        case rel => exact ⟨k, by go_num, KS8.out⟩
        case measure => simp [intOf]
end Go.Proofs.Ytidpdhnbnecddaa
