/-
  The document's made: kind 1.
-/
import Derived.Test.YtegdadkejheagaaGreatDoorG12
namespace Go.Proofs.YtegdadkejheagaaGreatDoor
open Go.RowKit Go.WideMaps Go.Maps

set_option maxHeartbeats 4000000 in
set_option maxRecDepth 100000 in
theorem made1_any {G S : Nat → Prop} (D : DD) (V : DVs) (pt pto : ByteArray) (v : Value) (da : List Int) (w : World) (h : DM G w D V) {k : Nat} (hD : DL D k) (hk : k ≤ 1000) (hs : Srt D.names) (hv : Rd .u8 S w v da) (hA : AllB da) :
    Calls Tryz.prog 17 #[.agg #[V.n, V.l, V.p, V.f, .int .i64 D.quota, .slice none 0 0, .int .i64 D.offAt, .int .i64 D.count, .bool D.off], .agg #[.int .i64 1, .string pt, .string pto, v]] w fun e w' => ∃ V', e = .returned (.agg #[V'.n, V'.l, V'.p, V'.f, .int .i64 (madeF D ⟨1, pt, pto, da⟩).quota, .slice none 0 0, .int .i64 (madeF D ⟨1, pt, pto, da⟩).offAt, .int .i64 (madeF D ⟨1, pt, pto, da⟩).count, .bool (madeF D ⟨1, pt, pto, da⟩).off]) ∧ DM (Gn G w) w' (madeF D ⟨1, pt, pto, da⟩) V' ∧ Below w.heap.size w w' := by
  obtain ⟨D8, hD8⟩ : ∃ D8 : DD, { D with files := D.files ++ [([], 0)] } = D8 := ⟨_, rfl⟩
  obtain ⟨i0, z0, hi, hz, hsz, hbb, hcc⟩ := infoCt
  have KM : Kept (madeF D ⟨1, pt, pto, da⟩ = namedF D8 ⟨pt, ByteArray.empty, D.files.length + 1⟩) := ⟨by rw [← hD8]; unfold madeF; rw [if_pos rfl]⟩
  obtain ⟨va, vc, rfl, -, -, -⟩ := hv.form
  obtain ⟨w1, w2, w3, hw1, hw2, hw3, hb13, l1, l2, l3, x1, x2, x3⟩ := boxes3 w [V.n, V.l, V.p, V.f, .int .i64 D.quota, .slice none 0 0, .int .i64 D.offAt, .int .i64 D.count, .bool D.off] [.int .i64 1, .string pt, .string pto, .slice va da.length vc] [.slice none 0 0, .slice none 0 0, .slice none 0 0, .slice none 0 0, .int .i64 0, .slice none 0 0, .int .i64 0, .int .i64 0, .bool false] 36 38 36
  have KB3 := Kept.mk hb13
  have KH := Kept.mk h
  have KHg := Kept.mk (h.gb w3.heap.size)
  have hbn := Nat.le_trans hD.n hk
  have hbp := Nat.le_trans (Nat.le_trans (Nat.le_add_left _ _) hD.l) hk
  have hbf := Nat.le_trans hD.f hk
  have KAt := Kept.mk (at_any V.n D.names pt w3 (h.n.later hb13) (by omega))
  obtain ⟨g, hgw⟩ : ∃ g, w.heap.size = g := ⟨_, rfl⟩
  obtain ⟨g2, hgw2⟩ : ∃ g2, w1.heap.size = g2 := ⟨_, rfl⟩
  obtain ⟨g4, hgw4⟩ : ∃ g4, w2.heap.size = g4 := ⟨_, rfl⟩
  rw [hgw] at x1
  rw [hgw2] at x2
  rw [hgw4] at x3
  have Kg : Kept (w.heap.size = g ∧ g < g2 ∧ g2 < g4 ∧ g4 < w3.heap.size) := ⟨by omega⟩
  have c0 := x1.cell 0 _ rfl
  have d1 := x2.cell 1 _ rfl
  have KK := Kept.mk (And.intro x1 (And.intro x2 x3))
  have Kvd := Kept.mk (And.intro hv hA)
  have Ks := Kept.mk hs
  have Kdf := Kept.mk hD.x
  clear h hs hb13 l1 l2 l3 x1 x2 x3 hv hA hD
  obtain ⟨F, hF⟩ : ∃ F, nmF D.names pt = F := ⟨_, rfl⟩
  rw [hF] at KAt
  try rw [hF] at KM
  have KFe := Kept.mk hF
  clear hF
  go_enter Tryz.func17, Tryz.ntmps17
  go_wp2_with fail
  refine Calls.mono KAt.out (fun e w4 hp => ?_)
  obtain ⟨rfl, hb4⟩ := hp
  have KB4 : Kept (Below w.heap.size w w4) := ⟨KB3.out.trans (hb4.mono KB3.out.size)⟩
  have KK4 := Kept.mk (And.intro (KK.out.1.below hb4) (And.intro (KK.out.2.1.below hb4) (KK.out.2.2.below hb4)))
  have Ks4 : Kept (w3.heap.size ≤ w4.heap.size) := ⟨hb4.size⟩
  clear hb4 KAt c0 d1 hw1 hw2 hw3 KK
  have d0 := KK4.out.2.1.cell 0 _ rfl
  have d1 := KK4.out.2.1.cell 1 _ rfl
  have d2 := KK4.out.2.1.cell 2 _ rfl
  have d3 := KK4.out.2.1.cell 3 _ rfl
  have KR := Kept.mk KK4.out.1.range
  obtain ⟨ms, hms, hfv, hdat⟩ := KHg.out.f
  have Kms := Kept.mk hms
  have hml : ms.length = D.files.length := by rw [← hms, List.length_map]
  have Kml := Kept.mk hml
  have KCo := Kept.mk (contents_any V.f ms w4 (hfv.later KB4.out) (fun m hm => (hdat m hm).1.later KB4.out (Nat.le_refl _)) (by omega))
  have Kdat := Kept.mk hdat
  have c3 := KK4.out.1.cell 3 _ rfl
  clear hms hml hfv hdat
  go_wp2_with fail
  refine Calls.mono KCo.out (fun e w5 hp => ?_)
  obtain ⟨v5, rfl, ho5, hb5⟩ := hp
  obtain ⟨qa, qn, qc, rfl⟩ := ho5.form3
  have KB5 : Kept (Below w.heap.size w w5) := ⟨KB4.out.trans (hb5.mono KB4.out.size)⟩
  have KK5 := Kept.mk (And.intro (KK4.out.1.below hb5) (And.intro (KK4.out.2.1.below hb5) (KK4.out.2.2.below hb5)))
  have Ks5 : Kept (w4.heap.size ≤ w5.heap.size) := ⟨hb5.size⟩
  have KO5 := Kept.mk ho5
  clear hb5 ho5 KCo KK4 c3 d0 d1 d2 d3 KR
  obtain ⟨w6, hw6⟩ : ∃ w6, w5.alloc (.cells #[.slice none 0 0, .int .i64 0] 83) = w6 := ⟨_, rfl⟩
  have hb6 : Below w5.heap.size w5 w6 := by rw [← hw6]; exact (Below.refl _ _).alloc (Nat.le_refl _) _
  have KRx : Kept (w6.rangeAt w5.heap.size 0 [Value.slice none 0 0, Value.int .i64 0]) := ⟨by rw [← hw6]; exact (Bk.new w5 83 [.slice none 0 0, .int .i64 0]).range⟩
  have KB6 : Kept (Below w.heap.size w w6) := ⟨KB5.out.trans (hb6.mono KB5.out.size)⟩
  have KK6 := Kept.mk (And.intro (KK5.out.1.below hb6) (And.intro (KK5.out.2.1.below hb6) (KK5.out.2.2.below hb6)))
  have KO6 := Kept.mk (KO5.out.later hb6)
  have Ks6 : Kept (w5.heap.size ≤ w6.heap.size) := ⟨hb6.size⟩
  have hlm : (ms.map ctC).length ≤ 1000000 := by rw [List.length_map]; have := Kml.out; omega
  clear hb6 KO5 KK5
  go_upto_region 5 with (at_builtin; go_loud (refine wpList_plain rfl (fun K hK => wp_append_K _ _ 33 83 rfl 2 32 i0 z0 Tryz.underlying33 hi hz hsz hbb hcc (by decide) (by decide) w4.heap.size _ _ rfl KO6.out [Value.slice none 0 0, Value.int .i64 0] rfl (by simp; exact ⟨rfl, rfl⟩) w5.heap.size 1 rfl KRx.out hlm (by have := Ks5.out; have := Ks6.out; omega) (fun v7 w7 o7 g7 => hK _ _ ?_)); obtain ⟨pa, pc, rfl⟩ := o7.form; have KO7 := Kept.mk o7; have hfar := Kept.mk (fun q hq => (KO6.out.lt q hq).1); have KB7 := Kept.mk (KB6.out.grown g7 KB6.out.size (fun q hq => by have := hfar.out q hq; have := KB4.out.size; omega)); have KK7 := Kept.mk (And.intro (KK6.out.1.grow g7 (by intro e; have := hfar.out _ e; have := Ks4.out; have := Kg.out; omega)) (And.intro (KK6.out.2.1.grow g7 (by intro e; have := hfar.out _ e; have := Ks4.out; have := Kg.out; omega)) (KK6.out.2.2.grow g7 (by intro e; have := hfar.out _ e; have := Ks4.out; have := Kg.out; omega)))); have f8 := KK7.out.1.frozen 3; have f9 := KK7.out.1.cell 3 _ rfl; have Ks7 := Kept.mk g7.size; clear o7 g7))
  have hpn : (ms.map ctC ++ [[Value.slice none 0 0, Value.int .i64 0]]).length = D.files.length + 1 := by rw [List.length_append, List.length_map, Kml.out]; rfl
  rw [hpn] at KO7
  rw [Kml.out]
  clear KO6 KK6 KRx hlm f8 f9
  obtain ⟨w8, hw8⟩ : ∃ w8, w7.setCell ⟨g, 3, none⟩ (Value.slice pa (D.files.length + 1) pc) = w8 := ⟨_, rfl⟩
  have KB8 : Kept (Below w.heap.size w w8) := ⟨by rw [← hw8]; exact KB7.out.setCell (p := ⟨g, 3, none⟩) (by show w.heap.size ≤ g; have := Kg.out; omega) _⟩
  have KK8 : Kept (Bk w8 g 36 [V.n, V.l, V.p, .slice pa (D.files.length + 1) pc, .int .i64 D.quota, .slice none 0 0, .int .i64 D.offAt, .int .i64 D.count, .bool D.off] ∧ Bk w8 g2 38 [.int .i64 1, .string pt, .string pto, .slice va da.length vc] ∧ Bk w8 g4 36 [.slice none 0 0, .slice none 0 0, .slice none 0 0, .slice none 0 0, .int .i64 0, .slice none 0 0, .int .i64 0, .int .i64 0, .bool false]) := ⟨by
    rw [← hw8]
    exact ⟨KK7.out.1.set 3 _, KK7.out.2.1.store (by have := Kg.out; omega), KK7.out.2.2.store (by have := Kg.out; omega)⟩⟩
  have KO8 : Kept (OwK w8 w4.heap.size 83 2 (.slice pa (D.files.length + 1) pc) (ms.map ctC ++ [[Value.slice none 0 0, Value.int .i64 0]])) := ⟨KO7.out.far (fun q hq => by
    rw [← hw8]
    exact Below.heap_setCell w7 _ _ q (by have := (KO7.out.lt q hq).1; have := Ks4.out; have := Kg.out; show q ≠ g; omega))⟩
  have Ks8 : Kept (w3.heap.size ≤ w8.heap.size) := ⟨by rw [← hw8]; simp [World.setCell]; have := Ks4.out; have := Ks5.out; have := Ks6.out; have := Ks7.out; omega⟩
  have KD8 : Kept (DM (Gb G w w3.heap.size) w8 D8 ⟨V.n, V.l, V.p, .slice pa (D.files.length + 1) pc⟩) := ⟨by
    have hh := KHg.out.later KB8.out
    rw [← hD8]
    refine ⟨hh.n, hh.l, hh.p, ms ++ [⟨.slice none 0 0, [], 0⟩], by rw [List.map_append, Kms.out]; rfl, ?_, fun m hm => ?_⟩
    · rw [List.map_append]
      exact own_gb KO8.out Ks4.out
    · rcases List.mem_append.1 hm with hm | hm
      · exact ⟨(Kdat.out m hm).1.later KB8.out (Nat.le_refl _), (Kdat.out m hm).2⟩
      · rw [List.mem_singleton] at hm
        subst hm
        exact ⟨Rd.nil _ _ _, fun x hx => absurd hx (by simp)⟩⟩
  have KDe : Kept (D8.names = D.names ∧ D8.pend = D.pend ∧ D8.quota = D.quota ∧ D8.offAt = D.offAt ∧ D8.count = D.count ∧ D8.off = D.off) := ⟨by rw [← hD8]; exact ⟨rfl, rfl, rfl, rfl, rfl, rfl⟩⟩
  rw [hw8]
  clear hw8 KK7 KO7 KB7 hD8 hpn
  have d1 := KK8.out.2.1.cell 1 _ rfl
  have c3 := KK8.out.1.cell 3 _ rfl
  have KR := Kept.mk KK8.out.1.range
  obtain ⟨V8, hV8⟩ : ∃ V8 : DVs, ⟨V.n, V.l, V.p, .slice pa (D.files.length + 1) pc⟩ = V8 := ⟨_, rfl⟩
  have KNa := Kept.mk (named_any (G := Gb G w w3.heap.size) D8 V8 ⟨pt, ByteArray.empty, D.files.length + 1⟩ w8 (by rw [← hV8]; exact KD8.out) (by rw [KDe.out.1]; exact Ks.out) (by rw [KDe.out.1]; omega) (by rw [KDe.out.2.1]; omega))
  rw [← hV8, KDe.out.2.2.1, KDe.out.2.2.2.1, KDe.out.2.2.2.2.1, KDe.out.2.2.2.2.2] at KNa
  have KNa : Kept (Calls Tryz.prog 48 #[.agg #[V.n, V.l, V.p, .slice pa (D.files.length + 1) pc, .int .i64 D.quota, .slice none 0 0, .int .i64 D.offAt, .int .i64 D.count, .bool D.off], .agg #[.string pt, .string ⟨#[]⟩, .int .i64 ((D.files.length + 1 : Nat) : Int)]] w8 _) := KNa
  clear hV8
  generalize D.files.length + 1 = nf at *
  go_wp2_with (refine wpList_load_mid rfl 36 _ rfl g 0 rfl _ _ KR.out Tryz.underlying36 rfl infoDisk ?_)
  refine Calls.mono KNa.out (fun e w9 hp => ?_)
  obtain ⟨V9, rfl, hdm, hb9⟩ := hp
  have KB9 : Kept (Below w.heap.size w w9) := ⟨KB8.out.trans (hb9.mono KB8.out.size)⟩
  have KE9 : Kept (DM (Gb G w w3.heap.size) w9 (namedF D8 ⟨pt, ByteArray.empty, nf⟩) V9) := ⟨hdm.weak (fun b _ hb => hb.elim (fun h => h) (fun h => .inr (by have := Ks8.out; omega)))⟩
  have K49 := Kept.mk (KK8.out.2.2.below hb9)
  clear hdm hb9 KNa
  obtain ⟨wz, hwz⟩ : ∃ wz, w9.setRow g4 #[V9.n, V9.l, V9.p, V9.f, .int .i64 (namedF D8 ⟨pt, ByteArray.empty, nf⟩).quota, .slice none 0 0, .int .i64 (namedF D8 ⟨pt, ByteArray.empty, nf⟩).offAt, .int .i64 (namedF D8 ⟨pt, ByteArray.empty, nf⟩).count, .bool (namedF D8 ⟨pt, ByteArray.empty, nf⟩).off] = wz := ⟨_, rfl⟩
  have Krow : Kept (wz.heap[g4]? = some (.cells #[V9.n, V9.l, V9.p, V9.f, .int .i64 (namedF D8 ⟨pt, ByteArray.empty, nf⟩).quota, .slice none 0 0, .int .i64 (namedF D8 ⟨pt, ByteArray.empty, nf⟩).offAt, .int .i64 (namedF D8 ⟨pt, ByteArray.empty, nf⟩).count, .bool (namedF D8 ⟨pt, ByteArray.empty, nf⟩).off] 36 (0, 0))) := ⟨by rw [← hwz]; exact setRow_heap w9 g4 _ _ _ _ K49.out⟩
  have KBz : Kept (Below w.heap.size w wz) := ⟨by rw [← hwz]; exact below_row KB9.out (by have := Kg.out; omega) _⟩
  have KEz : Kept (DM (Gn G w) wz (namedF D8 ⟨pt, ByteArray.empty, nf⟩) V9) := ⟨by rw [← hwz]; exact KE9.out.row (by have := Kg.out; omega) (by have := Kg.out; omega) _⟩
  have hone := Kept.mk (dm_ones KE9.out (namedF D8 ⟨pt, ByteArray.empty, nf⟩).quota (namedF D8 ⟨pt, ByteArray.empty, nf⟩).offAt (namedF D8 ⟨pt, ByteArray.empty, nf⟩).count (namedF D8 ⟨pt, ByteArray.empty, nf⟩).off)
  have Kb4 := Kept.mk K49.out
  go_wp2_with (first | (refine wpList_load_mid rfl 36 _ rfl g 0 rfl _ _ KR.out Tryz.underlying36 rfl infoDisk ?_) | (refine BigFrame.wpList_want rfl (fun K hK => wp_store_row 36 _ _ rfl g4 #[V9.n, V9.l, V9.p, V9.f, .int .i64 (namedF D8 ⟨pt, ByteArray.empty, nf⟩).quota, .slice none 0 0, .int .i64 (namedF D8 ⟨pt, ByteArray.empty, nf⟩).offAt, .int .i64 (namedF D8 ⟨pt, ByteArray.empty, nf⟩).count, .bool (namedF D8 ⟨pt, ByteArray.empty, nf⟩).off] rfl rfl 36 _ Kb4.out infoDisk rfl hone.out (hK _ _ ?_)); rw [hwz]))
  refine bodyPost_ret (results_row1 rfl _ _ g4 36 #[V9.n, V9.l, V9.p, V9.f, .int .i64 (namedF D8 ⟨pt, ByteArray.empty, nf⟩).quota, .slice none 0 0, .int .i64 (namedF D8 ⟨pt, ByteArray.empty, nf⟩).offAt, .int .i64 (namedF D8 ⟨pt, ByteArray.empty, nf⟩).count, .bool (namedF D8 ⟨pt, ByteArray.empty, nf⟩).off] (0, 0) _ rfl Krow.out Tryz.underlying36 rfl infoDisk) rfl ?_
  rw [KM.out]
  exact ⟨V9, rfl, KEz.out, KBz.out⟩
end Go.Proofs.YtegdadkejheagaaGreatDoor
