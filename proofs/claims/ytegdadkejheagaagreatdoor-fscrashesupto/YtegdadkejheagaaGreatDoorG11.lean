/-
  A call of a script at the program's disk, whatever its plan.
-/
import Derived.Test.YtegdadkejheagaaGreatDoorFM9
import Derived.Test.YtegdadkejheagaaGreatDoorG7
namespace Go.Proofs.YtegdadkejheagaaGreatDoor
open Go.RowKit Go.WideMaps Go.Maps

/-- A disk upon which at most k calls were made, as far as its memory goes. -/
def Rx (G : Nat → Prop) (lo : Nat) (w : World) (d : Nat) (s : Ps) (k : Nat) : Prop := ∃ a b, Dg G lo w d s (a * (b + 2)) a ∧ a + b ≤ k
theorem Rx.later {G : Nat → Prop} {lo : Nat} {w w' : World} {d : Nat} {s : Ps} {k : Nat} (h : Rx G lo w d s k) (hb : Below w.heap.size w w') : Rx G lo w' d s k := by
  obtain ⟨a, b, h1, h2⟩ := h
  exact ⟨a, b, h1.later hb, h2⟩
theorem Rx.weak {G : Nat → Prop} {lo : Nat} {w : World} {d : Nat} {s : Ps} {k k' : Nat} (h : Rx G lo w d s k) (hk : k ≤ k') : Rx G lo w d s k' := by
  obtain ⟨a, b, h1, h2⟩ := h
  exact ⟨a, b, h1, by omega⟩
/-- Blocks that were made behind it. -/
theorem Dg.wider {G : Nat → Prop} {lo : Nat} {w w' : World} {d n m : Nat} {s : Ps} (h : Dg G lo w d s n m) (hb : Below w.heap.size w w') : Dg (fun i => G i ∨ w.heap.size ≤ i ∧ i < w'.heap.size) lo w' d s n m := by
  obtain ⟨hG, B, S, h1, h2, h3, h4⟩ := h
  exact ⟨fun i hi => hi.elim (fun hg => Nat.lt_of_lt_of_le (hG i hg) hb.size) (fun h => h.2), B, S, h1.later hb, h2, h3, fun i hi => ⟨⟨(h4 i hi).1.1, Nat.lt_of_lt_of_le (h4 i hi).1.2 hb.size⟩, fun hg => hg.elim (h4 i hi).2 (fun h => by have := (h4 i hi).1.2; omega)⟩⟩
theorem Rx.wider {G : Nat → Prop} {lo : Nat} {w w' : World} {d : Nat} {s : Ps} {k : Nat} (h : Rx G lo w d s k) (hb : Below w.heap.size w w') : Rx (fun i => G i ∨ w.heap.size ≤ i ∧ i < w'.heap.size) lo w' d s k := by
  obtain ⟨a, b, h1, h2⟩ := h
  exact ⟨a, b, h1.wider hb, h2⟩
set_option maxHeartbeats 2000000 in
set_option maxRecDepth 100000 in
theorem do_any0 (r : ClM) {G : Nat → Prop} {lo : Nat} {w : World} {d k : Nat} {s : Ps} (h : Rx G lo w d s k) (hb : 0 ≤ s.count ∧ s.count < 1000000 ∧ -4398046511104 ≤ s.used ∧ s.used ≤ 4398046511104) (hr : r.ok w) (hd : r.c.data.length ≤ 1000) (hg : Gl w) (hlo : lo ≤ w.heap.size) (hgl : 3 ≤ lo) (hk : k ≤ 122) :
    Calls Tryz.prog 9 #[.pointer (some ⟨d, 0, none⟩), .agg #[.int .i64 r.c.kind, .string r.c.path, .string r.c.dst, r.v]] w fun e w' => ∃ q s', e = .returned (.int .i64 q) ∧ Rx G lo w' d s' (k + 1) ∧ DoP s r.c s' ∧ Bg G lo w w' := by
  obtain ⟨w1, hw1⟩ : ∃ w1, w.alloc (.cells #[.int .i64 r.c.kind, .string r.c.path, .string r.c.dst, r.v] 38) = w1 := ⟨_, rfl⟩
  have hB1 : Below w.heap.size w w1 := by rw [← hw1]; exact (Below.refl _ _).alloc (Nat.le_refl _) _
  have hlt1 : w.heap.size < w1.heap.size := by rw [← hw1]; simp
  have c0 : w1.cell? ⟨w.heap.size, 0, none⟩ = some (.int .i64 r.c.kind) := by rw [← hw1]; exact alloc_cell _ _ _ _ _ (by simp)
  have c1 : w1.cell? ⟨w.heap.size, 1, none⟩ = some (.string r.c.path) := by rw [← hw1]; exact alloc_cell _ _ _ _ _ (by simp)
  have c2 : w1.cell? ⟨w.heap.size, 2, none⟩ = some (.string r.c.dst) := by rw [← hw1]; exact alloc_cell _ _ _ _ _ (by simp)
  have c3 : w1.cell? ⟨w.heap.size, 3, none⟩ = some r.v := by rw [← hw1]; exact alloc_cell _ _ _ _ _ (by simp)
  obtain ⟨hc0, hb0, hb1, hb2⟩ := hb
  have KB1 := Kept.mk hB1
  have Kb := Kept.mk (And.intro hb0 (And.intro hb1 (And.intro hb2 hc0)))
  have KG1 := Kept.mk (hg.later hB1)
  have KG := Kept.mk hg
  have Klo := Kept.mk hlo
  have Kr := Kept.mk hr
  have Kd := Kept.mk hd
  obtain ⟨a, b, hds, hab⟩ := h
  obtain ⟨-, hn, hm⟩ := fits (show a + b ≤ 123 by omega)
  have KD := Kept.mk hds
  have KD1 := Kept.mk (hds.later hB1)
  have Kab := Kept.mk (And.intro hab (And.intro hn hm))
  have KB1l : Kept (Bg G lo w w1) := ⟨Bg.of hB1 hlo hds.1⟩
  have KGs := Kept.mk hds.1
  have Klo1 : Kept (lo ≤ w1.heap.size) := ⟨by omega⟩
  obtain ⟨av, cv, hv, -, -, -⟩ := hr.1.form
  have KDo1 : Kept (∀ s', r.c.kind = 1 → CrP s r.c.path s' → DoP s r.c s') := ⟨fun s' => mk_cr⟩
  have KDo2 : Kept (r.c.kind = 2 → DoP s r.c (apP s r.c.path r.c.data)) := ⟨mk_ap⟩
  have KDo3 : Kept (r.c.kind = 3 → DoP s r.c (syP s r.c.path)) := ⟨mk_sy⟩
  have KDo4 : Kept (r.c.kind = 4 → DoP s r.c (rnP s r.c.path r.c.dst)) := ⟨mk_rn⟩
  have KDo5 : Kept (r.c.kind = 5 → DoP s r.c (rmP s r.c.path)) := ⟨mk_rm⟩
  have KDo6 : Kept (r.c.kind ≠ 1 → r.c.kind ≠ 2 → r.c.kind ≠ 3 → r.c.kind ≠ 4 → r.c.kind ≠ 5 → DoP s r.c (sdP s r.c.path)) := ⟨mk_sd⟩
  have Kps := Kept.mk hr.2.2.1
  have KRv : Kept (Rd .u8 anyB w r.v r.c.data ∧ AllB r.c.data) := ⟨hr.1, hr.2.1⟩
  clear hr hd hB1 hds hab hn hm hg hb0 hb1 hb2 hc0
  rw [hv] at c3 hw1 ⊢
  rw [hv] at KRv
  obtain ⟨g, hgw⟩ : ∃ g, w.heap.size = g := ⟨_, rfl⟩
  rw [hgw] at c0 c1 c2 c3
  have Kgw := Kept.mk hgw
  obtain ⟨kd, hkd⟩ : ∃ kd, r.c.kind = kd := ⟨_, rfl⟩
  obtain ⟨pt, hpt⟩ : ∃ pt, r.c.path = pt := ⟨_, rfl⟩
  obtain ⟨pto, hpto⟩ : ∃ pto, r.c.dst = pto := ⟨_, rfl⟩
  obtain ⟨ys, hys⟩ : ∃ ys, r.c.data = ys := ⟨_, rfl⟩
  obtain ⟨C, hC⟩ : ∃ C, r.c = C := ⟨_, rfl⟩
  rw [hkd] at c0 KDo1 KDo2 KDo3 KDo4 KDo5 KDo6 hw1 ⊢
  rw [hpt] at c1 KDo1 KDo2 KDo3 KDo4 KDo5 KDo6 hw1 Kps ⊢
  rw [hpto] at c2 KDo4 hw1 ⊢
  rw [hys] at c3 KRv KDo2 hw1 Kd ⊢
  rw [hC] at KDo1 KDo2 KDo3 KDo4 KDo5 KDo6 ⊢
  have KF : Kept (∀ (s' : Ps) (w' : World) (a b : Nat), DoP s C s' → Dg G lo w' d s' (a * (b + 2)) a → a + b ≤ k + 1 → Rx G lo w' d s' (k + 1)) := ⟨fun _ _ a b _ h2 h3 => ⟨a, b, h2, h3⟩⟩
  clear hkd hpt hpto hys hC hv hlt1
  by_cases k1 : kd = 1
  · subst k1
    have KX1 : Kept (∀ s', CrP s pt s' → DoP s C s') := ⟨fun s' => KDo1.out s' rfl⟩
    clear KDo1 KDo2 KDo3 KDo4 KDo5 KDo6
    have K := Kept.mk (create_dg pt KD1.out KG1.out Klo1.out Kb.out.2.2.2 Kb.out.1 hgl Kab.out.2.1 Kab.out.2.2)
    go_enter Tryz.func9, Tryz.ntmps9
    go_wp2_with fail
    refine Calls.mono K.out (fun e w2 hp => ?_)
    obtain ⟨rfl, s', hd2, hcr, hb2⟩ := hp
    have hdo := KX1.out s' hcr
    have KE := Kept.mk (KF.out s' w2 (a + 1) b hdo (hd2.weak (by rw [more_a]; omega) (Nat.le_refl _)) (by have := Kab.out; omega))
    have KE2 := Kept.mk hdo
    have KE3 : Kept (Bg G lo w w2) := ⟨KB1l.out.trans hb2⟩
    clear hd2 hcr hb2 hdo K
    go_wp2
    go_ret
    exact ⟨_, s', rfl, KE.out, KE2.out, KE3.out⟩
  by_cases k2 : kd = 2
  · subst k2
    have KX2 := Kept.mk (KDo2.out rfl)
    clear KDo1 KDo2 KDo3 KDo4 KDo5 KDo6
    go_enter Tryz.func9, Tryz.ntmps9
    go_upto_region 5 with fail
    have KBd : Kept (Below w.heap.size w w1.drew) := ⟨KB1.out.drew⟩
    have KT := Kept.mk (twin_any _ ys w1.drew (KRv.out.1.later KBd.out (Nat.le_refl _)) (by have := Kd.out; omega))
    have KS1 : Kept (w1.drew.cell? ⟨g, 1, none⟩ = some (.string pt) ∧ w1.drew.cell? ⟨g, 3, none⟩ = some (.slice av ys.length cv)) := ⟨c1, c3⟩
    have Kgl : Kept (g < w1.drew.heap.size) := ⟨by rw [← Kgw.out, ← hw1]; simp⟩
    have KBdl : Kept (Bg G lo w w1.drew) := ⟨Bg.of KBd.out Klo.out KGs.out⟩
    go_region_held3 (fun W => W.cell? ⟨g, 1, none⟩ = some (.string pt) ∧ W.cell? ⟨g, 3, none⟩ = some (.slice av ys.length cv)) (first | exact ⟨by assumption, by assumption⟩ | exact KS1.out) (first | (go_at_call 18; refine Calls.mono KT.out (fun e w2 hp => ?_); obtain ⟨v2, rfl, ho2, hb2⟩ := hp; have d1 := cell_of KS1.out.1 (hb2.block g Kgl.out); have d3 := cell_of KS1.out.2 (hb2.block g Kgl.out); have KB2 : Kept (Below w.heap.size w w2) := ⟨KBd.out.trans (hb2.mono KBd.out.size)⟩; have Kgl2 : Kept (g < w2.heap.size) := ⟨Nat.lt_of_lt_of_le Kgl.out hb2.size⟩; have KA := Kept.mk (append_dg pt v2 ys KD.out KB2.out (KG.out.later KB2.out) Klo.out Kb.out.2.2.2 Kb.out.1 hgl (ho2.rd.weak (fun b' _ hb' => .inl (Nat.le_trans KBd.out.size (ho2.lt b' hb').1))) KRv.out.2 (by have := Kd.out; omega) Kb.out.2.1 Kb.out.2.2.1); have KB2l : Kept (Bg G lo w w2) := ⟨Bg.of KB2.out Klo.out KGs.out⟩; clear ho2 hb2) | (go_at_call 14; refine Calls.mono KA.out (fun e w3 hp => ?_); obtain ⟨rfl, hd3, hb3, hbk⟩ := hp; have d1 := cell_of d1 (hbk g (by have := Kgw.out; omega) Kgl2.out); have d3 := cell_of d3 (hbk g (by have := Kgw.out; omega) Kgl2.out); have KE := Kept.mk (KF.out _ w3 a b KX2.out hd3 (by have := Kab.out; omega)); have KE3 : Kept (Bg G lo w w3) := ⟨KB2l.out.trans hb3⟩; clear hd3 hb3 hbk))
    all_goals
      go_wp2
      go_ret
      exact ⟨_, _, rfl, KE.out, KX2.out, KE3.out⟩
  by_cases k3 : kd = 3
  · subst k3
    have KX3 := Kept.mk (KDo3.out rfl)
    clear KDo1 KDo2 KDo3 KDo4 KDo5 KDo6
    have K := Kept.mk (sync_dg pt KD1.out KG1.out Klo1.out Kb.out.2.2.2 Kb.out.1 hgl)
    go_enter Tryz.func9, Tryz.ntmps9
    go_wp2_with fail
    refine Calls.mono K.out (fun e w2 hp => ?_)
    obtain ⟨rfl, hd2, hb2⟩ := hp
    have KE := Kept.mk (KF.out _ w2 a b KX3.out hd2 (by have := Kab.out; omega))
    have KE3 : Kept (Bg G lo w w2) := ⟨KB1l.out.trans hb2⟩
    clear hd2 hb2 K
    go_wp2
    go_ret
    exact ⟨_, _, rfl, KE.out, KX3.out, KE3.out⟩
  by_cases k4 : kd = 4
  · subst k4
    have KX4 := Kept.mk (KDo4.out rfl)
    clear KDo1 KDo2 KDo3 KDo4 KDo5 KDo6
    have K := Kept.mk (rename_dg pt pto KD1.out KG1.out Klo1.out Kb.out.2.2.2 Kb.out.1 hgl Kab.out.2.1 Kab.out.2.2 Kb.out.2.1 Kb.out.2.2.1)
    go_enter Tryz.func9, Tryz.ntmps9
    go_wp2_with fail
    refine Calls.mono K.out (fun e w2 hp => ?_)
    obtain ⟨rfl, hd2, hb2⟩ := hp
    have KE := Kept.mk (KF.out _ w2 (a + 1) b KX4.out (hd2.weak (by rw [more_a]; omega) (Nat.le_refl _)) (by have := Kab.out; omega))
    have KE3 : Kept (Bg G lo w w2) := ⟨KB1l.out.trans hb2⟩
    clear hd2 hb2 K
    go_wp2
    go_ret
    exact ⟨_, _, rfl, KE.out, KX4.out, KE3.out⟩
  by_cases k5 : kd = 5
  · subst k5
    have KX5 := Kept.mk (KDo5.out rfl)
    clear KDo1 KDo2 KDo3 KDo4 KDo5 KDo6
    have K := Kept.mk (remove_dg pt KD1.out KG1.out Klo1.out Kb.out.2.2.2 Kb.out.1 hgl Kab.out.2.1 Kab.out.2.2 Kb.out.2.1 Kb.out.2.2.1)
    go_enter Tryz.func9, Tryz.ntmps9
    go_wp2_with fail
    refine Calls.mono K.out (fun e w2 hp => ?_)
    obtain ⟨rfl, hd2, hb2⟩ := hp
    have KE := Kept.mk (KF.out _ w2 (a + 1) b KX5.out (hd2.weak (by rw [more_a]; omega) (Nat.le_refl _)) (by have := Kab.out; omega))
    have KE3 : Kept (Bg G lo w w2) := ⟨KB1l.out.trans hb2⟩
    clear hd2 hb2 K
    go_wp2
    go_ret
    exact ⟨_, _, rfl, KE.out, KX5.out, KE3.out⟩
  · have K := Kept.mk (syncDir_dg pt KD1.out KG1.out Klo1.out Kb.out.2.2.2 Kb.out.1 hgl Kab.out.2.1 Kab.out.2.2 Kps.out)
    go_enter Tryz.func9, Tryz.ntmps9
    go_wp2_with fail
    refine Calls.mono K.out (fun e w2 hp => ?_)
    obtain ⟨rfl, hd2, hb2⟩ := hp
    have KE := Kept.mk (KF.out _ w2 a (b + 1) (KDo6.out k1 k2 k3 k4 k5) (hd2.weak (by rw [more_b]; omega) (Nat.le_refl _)) (by have := Kab.out; omega))
    have KE3 : Kept (Bg G lo w w2) := ⟨KB1l.out.trans hb2⟩
    clear hd2 hb2 K
    go_wp2
    go_ret
    exact ⟨_, _, rfl, KE.out, KDo6.out k1 k2 k3 k4 k5, KE3.out⟩
end Go.Proofs.YtegdadkejheagaaGreatDoor
