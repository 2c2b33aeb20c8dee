/-
  Walks: readFields.
-/
import Derived.Test.YtbagkmhhgngbcaaDoorN5
namespace Go.Proofs.YtbagkmhhgngbcaaDoor
open Go.RowKit

def idt0 : Idt := ⟨⟨#[]⟩, ⟨#[]⟩, 0, 0⟩
/-- Two blocks of idents: the answer's, and the one that is filled. -/
structure RF (w w' : World) (i : Idt) : Prop where
  ib : IB w' (w.heap.size + 1) i
  rb : IB w' w.heap.size idt0
  bel : Below w.heap.size w w'
section
variable {w w' w'' : World} {i : Idt}
theorem RF.later (h : RF w w' i) (hb : Below w'.heap.size w' w'') : RF w w'' i := ⟨h.ib.far (hb.block _ h.ib.lt), h.rb.far (hb.block _ h.rb.lt), h.bel.trans (hb.mono h.bel.size)⟩
theorem RF.drewN (h : RF w w' i) (n : Nat) : RF w (w'.drewN n) i := h.later (below_drewN (Below.refl _ _) n)
theorem RF.set (h : RF w w' i) {k : Nat} {v : Value} {j : Idt} (hi : IB (w'.setCell ⟨w.heap.size + 1, k, none⟩ v) (w.heap.size + 1) j) : RF w (w'.setCell ⟨w.heap.size + 1, k, none⟩ v) j :=
  ⟨hi, h.rb.far (Below.heap_setCell _ _ _ _ (by simp only; omega)), h.bel.setCell (by simp only; omega) v⟩
end
theorem rf_new (w : World) : ∃ w2, (w.alloc (.cells #[.string ⟨#[]⟩, .string ⟨#[]⟩, .int .i64 0, .int .i64 0] 27)).alloc (.cells #[.string ⟨#[]⟩, .string ⟨#[]⟩, .int .i64 0, .int .i64 0] 27) = w2 ∧ RF w w2 idt0 := by
  refine ⟨_, rfl, ?_, ?_, ((Below.refl _ _).alloc (Nat.le_refl _) _).alloc (by simp) _⟩
  · have := heap_alloc_new (w.alloc (.cells #[.string ⟨#[]⟩, .string ⟨#[]⟩, .int .i64 0, .int .i64 0] 27)) (.cells #[.string ⟨#[]⟩, .string ⟨#[]⟩, .int .i64 0, .int .i64 0] 27)
    rw [show (w.alloc (.cells #[.string ⟨#[]⟩, .string ⟨#[]⟩, .int .i64 0, .int .i64 0] 27)).heap.size = w.heap.size + 1 from by simp] at this
    exact this
  · unfold IB
    rw [Below.heap_alloc _ _ _ (by simp)]
    exact heap_alloc_new w _
set_option maxHeartbeats 4000000 in
set_option maxRecDepth 100000 in
theorem readFields_any (s : ByteArray) (w : World) (hg : Gl w) (hs : s.size < 4294967281) : Calls Tryd.prog 39 #[.string s] w fun e w' => e = .returned (rfF s).v ∧ Below w.heap.size w w' := by
  have z1 := cut_size s [32, 60]
  have z2 := cut_size (c2B s [32, 60]) [62, 32]
  have z3 := cut_size (c2B (c2B s [32, 60]) [62, 32]) [32]
  have KV : Kept ((rfF s).v = .agg #[.string (c1B s [32, 60]), .string (c1B (c2B s [32, 60]) [62, 32]), .int .i64 (atoF (c1B (c2B (c2B s [32, 60]) [62, 32]) [32])), .int .i64 (wrap64 (wrap64 (wrap64 ((atoF (c2B (c2B (c2B s [32, 60]) [62, 32]) [32])).tdiv 100) * 60) + (atoF (c2B (c2B (c2B s [32, 60]) [62, 32]) [32])).tmod 100))]) := ⟨rfl⟩
  have KC1 : Kept (∀ w', Gl w' → Calls Tryd.prog 56 #[.string s, .string ⟨#[32, 60]⟩] w' fun e w'' => ∃ f, e = .returned (.tuple #[.string (c1B s [32, 60]), .string (c2B s [32, 60]), .bool f]) ∧ ∃ n, w'' = w'.drewN n) := ⟨fun w' h => cut_any s #[32, 60] w' h hs⟩
  have KC2 : Kept (∀ w', Gl w' → Calls Tryd.prog 56 #[.string (c2B s [32, 60]), .string ⟨#[62, 32]⟩] w' fun e w'' => ∃ f, e = .returned (.tuple #[.string (c1B (c2B s [32, 60]) [62, 32]), .string (c2B (c2B s [32, 60]) [62, 32]), .bool f]) ∧ ∃ n, w'' = w'.drewN n) := ⟨fun w' h => cut_any _ #[62, 32] w' h (by omega)⟩
  have KC3 : Kept (∀ w', Gl w' → Calls Tryd.prog 56 #[.string (c2B (c2B s [32, 60]) [62, 32]), .string ⟨#[32]⟩] w' fun e w'' => ∃ f, e = .returned (.tuple #[.string (c1B (c2B (c2B s [32, 60]) [62, 32]) [32]), .string (c2B (c2B (c2B s [32, 60]) [62, 32]) [32]), .bool f]) ∧ ∃ n, w'' = w'.drewN n) := ⟨fun w' h => cut_any _ #[32] w' h (by omega)⟩
  have KL1 : Kept (∀ w', Calls Tryd.prog 57 #[.string (c1B s [32, 60])] w' fun e w'' => e = .returned (.string (c1B s [32, 60])) ∧ Below w'.heap.size w' w'') := ⟨fun w' => clone_any _ w' (by omega)⟩
  have KL2 : Kept (∀ w', Calls Tryd.prog 57 #[.string (c1B (c2B s [32, 60]) [62, 32])] w' fun e w'' => e = .returned (.string (c1B (c2B s [32, 60]) [62, 32])) ∧ Below w'.heap.size w' w'') := ⟨fun w' => clone_any _ w' (by omega)⟩
  have KN1 : Kept (∀ w', Gl w' → Calls Tryd.prog 58 #[.string (c1B (c2B (c2B s [32, 60]) [62, 32]) [32])] w' fun e w'' => e = .returned (.int .i64 (atoF (c1B (c2B (c2B s [32, 60]) [62, 32]) [32]))) ∧ Below w'.heap.size w' w'') := ⟨fun w' h => num_any _ w' h (by omega)⟩
  have KN2 : Kept (∀ w', Gl w' → Calls Tryd.prog 58 #[.string (c2B (c2B (c2B s [32, 60]) [62, 32]) [32])] w' fun e w'' => e = .returned (.int .i64 (atoF (c2B (c2B (c2B s [32, 60]) [62, 32]) [32]))) ∧ Below w'.heap.size w' w'') := ⟨fun w' h => num_any _ w' h (by omega)⟩
  clear z1 z2 z3
  generalize c1B (c2B (c2B s [32, 60]) [62, 32]) [32] = T at *
  generalize c2B (c2B (c2B s [32, 60]) [62, 32]) [32] = Z at *
  generalize c1B (c2B s [32, 60]) [62, 32] = E at *
  generalize c2B (c2B s [32, 60]) [62, 32] = R2 at *
  generalize c1B s [32, 60] = N at *
  generalize c2B s [32, 60] = R1 at *
  generalize atoF T = tm at *
  generalize atoF Z = zz at *
  have KG : Kept (∀ w', Below w.heap.size w w' → Gl w') := ⟨fun w' h => hg.later h⟩
  obtain ⟨w2, hw2, hF⟩ := rf_new w
  have KF := Kept.mk hF
  clear hg hF
  go_enter Tryd.func39, Tryd.ntmps39
  go_wp2_with fail
  refine Calls.mono (KC1.out w2 (KG.out _ KF.out.bel)) (fun e w3 hp => ?_)
  obtain ⟨f3, rfl, n3, rfl⟩ := hp
  have KF := Kept.mk (KF.out.drewN n3)
  obtain ⟨w3, hw3⟩ : ∃ w3, w2.drewN n3 = w3 := ⟨_, rfl⟩
  rw [hw3] at KF ⊢
  clear hw3 hw2
  go_wp2_with fail
  refine Calls.mono (KL1.out w3) (fun e w4 hp => ?_)
  obtain ⟨rfl, hb4⟩ := hp
  have hF := KF.out.later hb4
  have d0 := hF.ib.c0
  have e0 := hF.ib.fz 0
  have KF := Kept.mk (hF.set (hF.ib.s0 N))
  clear hb4 hF
  go_wp2_with fail
  obtain ⟨w5, hw5⟩ : ∃ w5, w4.setCell ⟨w.heap.size + 1, 0, none⟩ (.string N) = w5 := ⟨_, rfl⟩
  rw [hw5] at KF ⊢
  clear hw5 d0 e0
  refine Calls.mono (KC2.out w5 (KG.out _ KF.out.bel)) (fun e w6 hp => ?_)
  obtain ⟨f6, rfl, n6, rfl⟩ := hp
  have KF := Kept.mk (KF.out.drewN n6)
  obtain ⟨w6, hw6⟩ : ∃ w6, w5.drewN n6 = w6 := ⟨_, rfl⟩
  rw [hw6] at KF ⊢
  clear hw6
  go_wp2_with fail
  refine Calls.mono (KL2.out w6) (fun e w7 hp => ?_)
  obtain ⟨rfl, hb7⟩ := hp
  have hF := KF.out.later hb7
  have d1 := hF.ib.c1
  have e1 := hF.ib.fz 1
  have KF := Kept.mk (hF.set (hF.ib.s1 E))
  clear hb7 hF
  go_wp2_with fail
  obtain ⟨w8, hw8⟩ : ∃ w8, w7.setCell ⟨w.heap.size + 1, 1, none⟩ (.string E) = w8 := ⟨_, rfl⟩
  rw [hw8] at KF ⊢
  clear hw8 d1 e1
  refine Calls.mono (KC3.out w8 (KG.out _ KF.out.bel)) (fun e w9 hp => ?_)
  obtain ⟨f9, rfl, n9, rfl⟩ := hp
  have KF := Kept.mk (KF.out.drewN n9)
  obtain ⟨w9, hw9⟩ : ∃ w9, w8.drewN n9 = w9 := ⟨_, rfl⟩
  rw [hw9] at KF ⊢
  clear hw9
  go_wp2_with fail
  refine Calls.mono (KN1.out w9 (KG.out _ KF.out.bel)) (fun e w10 hp => ?_)
  obtain ⟨rfl, hb10⟩ := hp
  have hF := KF.out.later hb10
  have d2 := hF.ib.c2
  have e2 := hF.ib.fz 2
  have KF := Kept.mk (hF.set (hF.ib.s2 tm))
  clear hb10 hF
  go_wp2_with fail
  obtain ⟨w11, hw11⟩ : ∃ w11, w10.setCell ⟨w.heap.size + 1, 2, none⟩ (.int .i64 tm) = w11 := ⟨_, rfl⟩
  rw [hw11] at KF ⊢
  clear hw11 d2 e2
  refine Calls.mono (KN2.out w11 (KG.out _ KF.out.bel)) (fun e w12 hp => ?_)
  obtain ⟨rfl, hb12⟩ := hp
  have hF := KF.out.later hb12
  have d3 := hF.ib.c3
  have e3 := hF.ib.fz 3
  obtain ⟨Y, hY⟩ : ∃ Y, wrap64 (wrap64 (wrap64 (zz.tdiv 100) * 60) + zz.tmod 100) = Y := ⟨_, rfl⟩
  rw [hY] at KV
  have KF := Kept.mk (hF.set (hF.ib.s3 Y))
  clear hb12 hF
  go_upto_region 17 with fail
  obtain ⟨w13, hw13⟩ : ∃ w13, w12.setCell ⟨w.heap.size + 1, 3, none⟩ (.int .i64 Y) = w13 := ⟨_, rfl⟩
  rw [hY, hw13]
  rw [hw13] at KF
  have hF2 := KF.out
  have g0 : w13.cell? ⟨w.heap.size + 1, 0, none⟩ = some (.string N) := hF2.ib.c0
  have g1 : w13.cell? ⟨w.heap.size + 1, 1, none⟩ = some (.string E) := hF2.ib.c1
  have g2 : w13.cell? ⟨w.heap.size + 1, 2, none⟩ = some (.int .i64 tm) := hF2.ib.c2
  have g3 : w13.cell? ⟨w.heap.size + 1, 3, none⟩ = some (.int .i64 Y) := hF2.ib.c3
  have r0 := hF2.rb.c0
  have r1 := hF2.rb.c1
  have r2 := hF2.rb.c2
  have r3 := hF2.rb.c3
  have q0 := hF2.rb.fz 0
  have q1 := hF2.rb.fz 1
  have q2 := hF2.rb.fz 2
  have q3 := hF2.rb.fz 3
  clear hF2 hw13 d3 e3
  go_wp2
  obtain ⟨w14, hw14, hI14, hB14⟩ : ∃ w14, (((w13.setCell ⟨w.heap.size, 0, none⟩ (.string N)).setCell ⟨w.heap.size, 1, none⟩ (.string E)).setCell ⟨w.heap.size, 2, none⟩ (.int .i64 tm)).setCell ⟨w.heap.size, 3, none⟩ (.int .i64 Y) = w14 ∧ IB w14 w.heap.size ⟨N, E, tm, Y⟩ ∧ Below w.heap.size w w14 :=
    ⟨_, rfl, ((((KF.out.rb).s0 N).s1 E).s2 tm).s3 Y, (((KF.out.bel.setCell (Nat.le_refl _) _).setCell (Nat.le_refl _) _).setCell (Nat.le_refl _) _).setCell (Nat.le_refl _) _⟩
  rw [hw14]
  have g0 := hI14.c0
  have g1 := hI14.c1
  have g2 := hI14.c2
  have g3 := hI14.c3
  have KB14 := Kept.mk hB14
  clear hw14 hI14 hB14 r0 r1 r2 r3 q0 q1 q2 q3
  refine bodyPost_ret (v := .agg #[.string N, .string E, .int .i64 tm, .int .i64 Y]) (by simp [results, Tryd.results39, go_sem, g0, g1, g2, g3]) rfl ?_
  rw [KV.out]
  exact ⟨rfl, KB14.out⟩
end Go.Proofs.YtbagkmhhgngbcaaDoor
