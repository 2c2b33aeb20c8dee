/-
  The document's made: kinds 4, 5.
-/
import Derived.Test.YtegdadkejheagaaGreatDoorG12
namespace Go.Proofs.YtegdadkejheagaaGreatDoor
open Go.RowKit Go.WideMaps Go.Maps

set_option maxHeartbeats 4000000 in
set_option maxRecDepth 100000 in
theorem made4_any {G S : Nat → Prop} (D : DD) (V : DVs) (pt pto : ByteArray) (v : Value) (da : List Int) (w : World) (h : DM G w D V) {k : Nat} (hD : DL D k) (hk : k ≤ 1000) (hs : Srt D.names) (hv : Rd .u8 S w v da) (hA : AllB da) (hne : ¬ pt = pto) :
    Calls Tryz.prog 17 #[.agg #[V.n, V.l, V.p, V.f, .int .i64 D.quota, .slice none 0 0, .int .i64 D.offAt, .int .i64 D.count, .bool D.off], .agg #[.int .i64 4, .string pt, .string pto, v]] w fun e w' => ∃ V', e = .returned (.agg #[V'.n, V'.l, V'.p, V'.f, .int .i64 (madeF D ⟨4, pt, pto, da⟩).quota, .slice none 0 0, .int .i64 (madeF D ⟨4, pt, pto, da⟩).offAt, .int .i64 (madeF D ⟨4, pt, pto, da⟩).count, .bool (madeF D ⟨4, pt, pto, da⟩).off]) ∧ DM (Gn G w) w' (madeF D ⟨4, pt, pto, da⟩) V' ∧ Below w.heap.size w w' := by
  have KM : Kept (madeF D ⟨4, pt, pto, da⟩ = namedF D ⟨pto, pt, nmF D.names pt⟩) := ⟨by unfold madeF; rw [if_neg (by show ¬ (4 : Int) = 1; decide), if_neg (by show ¬ (4 : Int) = 2; decide), if_neg (by show ¬ (4 : Int) = 3; decide), if_pos rfl, if_pos hne]⟩
  obtain ⟨va, vc, rfl, -, -, -⟩ := hv.form
  obtain ⟨w1, w2, w3, hw1, hw2, hw3, hb13, l1, l2, l3, x1, x2, x3⟩ := boxes3 w [V.n, V.l, V.p, V.f, .int .i64 D.quota, .slice none 0 0, .int .i64 D.offAt, .int .i64 D.count, .bool D.off] [.int .i64 4, .string pt, .string pto, .slice va da.length vc] [.slice none 0 0, .slice none 0 0, .slice none 0 0, .slice none 0 0, .int .i64 0, .slice none 0 0, .int .i64 0, .int .i64 0, .bool false] 36 38 36
  have KB3 := Kept.mk hb13
  have KH := Kept.mk h
  have KHg := Kept.mk (h.gb w3.heap.size)
  have hbn := Nat.le_trans hD.n hk
  have hbp := Nat.le_trans (Nat.le_trans (Nat.le_add_left _ _) hD.l) hk
  have hbf := Nat.le_trans hD.f hk
  have KAt := Kept.mk (at_any V.n D.names pt w3 (h.n.later hb13) (by omega))
  obtain ⟨g, hgw⟩ : ∃ g, w.heap.size = g := ⟨_, rfl⟩
  obtain ⟨g2, hgw2⟩ : ∃ g2, w1.heap.size = g2 := ⟨_, rfl⟩
  obtain ⟨g4, hgw4⟩ : ∃ g4, w2.heap.size = g4 := ⟨_, rfl⟩
  rw [hgw] at x1
  rw [hgw2] at x2
  rw [hgw4] at x3
  have Kg : Kept (w.heap.size = g ∧ g < g2 ∧ g2 < g4 ∧ g4 < w3.heap.size) := ⟨by omega⟩
  have c0 := x1.cell 0 _ rfl
  have d1 := x2.cell 1 _ rfl
  have KK := Kept.mk (And.intro x1 (And.intro x2 x3))
  have Kvd := Kept.mk (And.intro hv hA)
  have Ks := Kept.mk hs
  have Kdf := Kept.mk hD.x
  clear h hs hb13 l1 l2 l3 x1 x2 x3 hv hA hD
  obtain ⟨F, hF⟩ : ∃ F, nmF D.names pt = F := ⟨_, rfl⟩
  rw [hF] at KAt
  try rw [hF] at KM
  have KFe := Kept.mk hF
  clear hF
  go_enter Tryz.func17, Tryz.ntmps17
  go_wp2_with fail
  refine Calls.mono KAt.out (fun e w4 hp => ?_)
  obtain ⟨rfl, hb4⟩ := hp
  have KB4 : Kept (Below w.heap.size w w4) := ⟨KB3.out.trans (hb4.mono KB3.out.size)⟩
  have KK4 := Kept.mk (And.intro (KK.out.1.below hb4) (And.intro (KK.out.2.1.below hb4) (KK.out.2.2.below hb4)))
  have Ks4 : Kept (w3.heap.size ≤ w4.heap.size) := ⟨hb4.size⟩
  clear hb4 KAt c0 d1 hw1 hw2 hw3 KK
  have d0 := KK4.out.2.1.cell 0 _ rfl
  have d1 := KK4.out.2.1.cell 1 _ rfl
  have d2 := KK4.out.2.1.cell 2 _ rfl
  have d3 := KK4.out.2.1.cell 3 _ rfl
  have KR := Kept.mk KK4.out.1.range
  have hps : (pt.toList == pto.toList) = false := str_ne_list hne
  clear hne
  have KNa := Kept.mk (named_any (G := Gb G w w3.heap.size) D V ⟨pto, pt, F⟩ w4 (KHg.out.later KB4.out) Ks.out (by omega) (by omega))
  have KNa : Kept (Calls Tryz.prog 48 #[.agg #[V.n, V.l, V.p, V.f, .int .i64 D.quota, .slice none 0 0, .int .i64 D.offAt, .int .i64 D.count, .bool D.off], .agg #[.string pto, .string pt, .int .i64 (F : Nat)]] w4 _) := KNa
  go_wp2_with (refine wpList_load_mid rfl 36 _ rfl g 0 rfl _ _ KR.out Tryz.underlying36 rfl infoDisk ?_)
  refine Calls.mono KNa.out (fun e w5 hp => ?_)
  obtain ⟨V5, rfl, hdm, hb5⟩ := hp
  have KB5 : Kept (Below w.heap.size w w5) := ⟨KB4.out.trans (hb5.mono KB4.out.size)⟩
  have KE5 : Kept (DM (Gb G w w3.heap.size) w5 (namedF D ⟨pto, pt, F⟩) V5) := ⟨hdm.weak (fun b _ hb => hb.elim (fun h => h) (fun h => .inr (by have := Ks4.out; omega)))⟩
  have K45 := Kept.mk (KK4.out.2.2.below hb5)
  clear hdm hb5 KNa
  obtain ⟨wz, hwz⟩ : ∃ wz, w5.setRow g4 #[V5.n, V5.l, V5.p, V5.f, .int .i64 (namedF D ⟨pto, pt, F⟩).quota, .slice none 0 0, .int .i64 (namedF D ⟨pto, pt, F⟩).offAt, .int .i64 (namedF D ⟨pto, pt, F⟩).count, .bool (namedF D ⟨pto, pt, F⟩).off] = wz := ⟨_, rfl⟩
  have Krow : Kept (wz.heap[g4]? = some (.cells #[V5.n, V5.l, V5.p, V5.f, .int .i64 (namedF D ⟨pto, pt, F⟩).quota, .slice none 0 0, .int .i64 (namedF D ⟨pto, pt, F⟩).offAt, .int .i64 (namedF D ⟨pto, pt, F⟩).count, .bool (namedF D ⟨pto, pt, F⟩).off] 36 (0, 0))) := ⟨by rw [← hwz]; exact setRow_heap w5 g4 _ _ _ _ K45.out⟩
  have KBz : Kept (Below w.heap.size w wz) := ⟨by rw [← hwz]; exact below_row KB5.out (by have := Kg.out; omega) _⟩
  have KEz : Kept (DM (Gn G w) wz (namedF D ⟨pto, pt, F⟩) V5) := ⟨by rw [← hwz]; exact KE5.out.row (by have := Kg.out; omega) (by have := Kg.out; omega) _⟩
  have hone := Kept.mk (dm_ones KE5.out (namedF D ⟨pto, pt, F⟩).quota (namedF D ⟨pto, pt, F⟩).offAt (namedF D ⟨pto, pt, F⟩).count (namedF D ⟨pto, pt, F⟩).off)
  have Kb4 := Kept.mk K45.out
  go_wp2_with (first | (refine wpList_load_mid rfl 36 _ rfl g 0 rfl _ _ KR.out Tryz.underlying36 rfl infoDisk ?_) | (refine BigFrame.wpList_want rfl (fun K hK => wp_store_row 36 _ _ rfl g4 #[V5.n, V5.l, V5.p, V5.f, .int .i64 (namedF D ⟨pto, pt, F⟩).quota, .slice none 0 0, .int .i64 (namedF D ⟨pto, pt, F⟩).offAt, .int .i64 (namedF D ⟨pto, pt, F⟩).count, .bool (namedF D ⟨pto, pt, F⟩).off] rfl rfl 36 _ Kb4.out infoDisk rfl hone.out (hK _ _ ?_)); rw [hwz]))
  refine bodyPost_ret (results_row1 rfl _ _ g4 36 #[V5.n, V5.l, V5.p, V5.f, .int .i64 (namedF D ⟨pto, pt, F⟩).quota, .slice none 0 0, .int .i64 (namedF D ⟨pto, pt, F⟩).offAt, .int .i64 (namedF D ⟨pto, pt, F⟩).count, .bool (namedF D ⟨pto, pt, F⟩).off] (0, 0) _ rfl Krow.out Tryz.underlying36 rfl infoDisk) rfl ?_
  rw [KM.out]
  exact ⟨V5, rfl, KEz.out, KBz.out⟩
set_option maxHeartbeats 4000000 in
set_option maxRecDepth 100000 in
theorem made4s_any {G S : Nat → Prop} (D : DD) (V : DVs) (pt : ByteArray) (v : Value) (da : List Int) (w : World) (h : DM G w D V) {k : Nat} (hD : DL D k) (hk : k ≤ 1000) (hs : Srt D.names) (hv : Rd .u8 S w v da) (hA : AllB da) :
    Calls Tryz.prog 17 #[.agg #[V.n, V.l, V.p, V.f, .int .i64 D.quota, .slice none 0 0, .int .i64 D.offAt, .int .i64 D.count, .bool D.off], .agg #[.int .i64 4, .string pt, .string pt, v]] w fun e w' => ∃ V', e = .returned (.agg #[V'.n, V'.l, V'.p, V'.f, .int .i64 (madeF D ⟨4, pt, pt, da⟩).quota, .slice none 0 0, .int .i64 (madeF D ⟨4, pt, pt, da⟩).offAt, .int .i64 (madeF D ⟨4, pt, pt, da⟩).count, .bool (madeF D ⟨4, pt, pt, da⟩).off]) ∧ DM (Gn G w) w' (madeF D ⟨4, pt, pt, da⟩) V' ∧ Below w.heap.size w w' := by
  have KM : Kept (madeF D ⟨4, pt, pt, da⟩ = D) := ⟨by unfold madeF; rw [if_neg (by show ¬ (4 : Int) = 1; decide), if_neg (by show ¬ (4 : Int) = 2; decide), if_neg (by show ¬ (4 : Int) = 3; decide), if_pos rfl, if_neg (fun h => h rfl)]⟩
  obtain ⟨va, vc, rfl, -, -, -⟩ := hv.form
  obtain ⟨w1, w2, w3, hw1, hw2, hw3, hb13, l1, l2, l3, x1, x2, x3⟩ := boxes3 w [V.n, V.l, V.p, V.f, .int .i64 D.quota, .slice none 0 0, .int .i64 D.offAt, .int .i64 D.count, .bool D.off] [.int .i64 4, .string pt, .string pt, .slice va da.length vc] [.slice none 0 0, .slice none 0 0, .slice none 0 0, .slice none 0 0, .int .i64 0, .slice none 0 0, .int .i64 0, .int .i64 0, .bool false] 36 38 36
  have KB3 := Kept.mk hb13
  have KH := Kept.mk h
  have KHg := Kept.mk (h.gb w3.heap.size)
  have hbn := Nat.le_trans hD.n hk
  have hbp := Nat.le_trans (Nat.le_trans (Nat.le_add_left _ _) hD.l) hk
  have hbf := Nat.le_trans hD.f hk
  have KAt := Kept.mk (at_any V.n D.names pt w3 (h.n.later hb13) (by omega))
  obtain ⟨g, hgw⟩ : ∃ g, w.heap.size = g := ⟨_, rfl⟩
  obtain ⟨g2, hgw2⟩ : ∃ g2, w1.heap.size = g2 := ⟨_, rfl⟩
  obtain ⟨g4, hgw4⟩ : ∃ g4, w2.heap.size = g4 := ⟨_, rfl⟩
  rw [hgw] at x1
  rw [hgw2] at x2
  rw [hgw4] at x3
  have Kg : Kept (w.heap.size = g ∧ g < g2 ∧ g2 < g4 ∧ g4 < w3.heap.size) := ⟨by omega⟩
  have c0 := x1.cell 0 _ rfl
  have d1 := x2.cell 1 _ rfl
  have KK := Kept.mk (And.intro x1 (And.intro x2 x3))
  have Kvd := Kept.mk (And.intro hv hA)
  have Ks := Kept.mk hs
  have Kdf := Kept.mk hD.x
  clear h hs hb13 l1 l2 l3 x1 x2 x3 hv hA hD
  obtain ⟨F, hF⟩ : ∃ F, nmF D.names pt = F := ⟨_, rfl⟩
  rw [hF] at KAt
  try rw [hF] at KM
  have KFe := Kept.mk hF
  clear hF
  go_enter Tryz.func17, Tryz.ntmps17
  go_wp2_with fail
  refine Calls.mono KAt.out (fun e w4 hp => ?_)
  obtain ⟨rfl, hb4⟩ := hp
  have KB4 : Kept (Below w.heap.size w w4) := ⟨KB3.out.trans (hb4.mono KB3.out.size)⟩
  have KK4 := Kept.mk (And.intro (KK.out.1.below hb4) (And.intro (KK.out.2.1.below hb4) (KK.out.2.2.below hb4)))
  have Ks4 : Kept (w3.heap.size ≤ w4.heap.size) := ⟨hb4.size⟩
  clear hb4 KAt c0 d1 hw1 hw2 hw3 KK
  have d0 := KK4.out.2.1.cell 0 _ rfl
  have d1 := KK4.out.2.1.cell 1 _ rfl
  have d2 := KK4.out.2.1.cell 2 _ rfl
  have d3 := KK4.out.2.1.cell 3 _ rfl
  have KR := Kept.mk KK4.out.1.range
  have hps : (pt.toList == pt.toList) = true := by simp
  obtain ⟨wz, hwz⟩ : ∃ wz, w4.setRow g4 #[V.n, V.l, V.p, V.f, .int .i64 D.quota, .slice none 0 0, .int .i64 D.offAt, .int .i64 D.count, .bool D.off] = wz := ⟨_, rfl⟩
  have Krow : Kept (wz.heap[g4]? = some (.cells #[V.n, V.l, V.p, V.f, .int .i64 D.quota, .slice none 0 0, .int .i64 D.offAt, .int .i64 D.count, .bool D.off] 36 (0, 0))) := ⟨by rw [← hwz]; exact setRow_heap w4 g4 _ _ _ _ KK4.out.2.2⟩
  have KBz : Kept (Below w.heap.size w wz) := ⟨by rw [← hwz]; exact below_row KB4.out (by have := Kg.out; omega) _⟩
  have KEz : Kept (DM (Gn G w) wz D V) := ⟨by rw [← hwz]; exact (KHg.out.later KB4.out).row (by have := Kg.out; omega) (by have := Kg.out; omega) _⟩
  have hone := Kept.mk (dm_ones (KHg.out.later KB4.out) D.quota D.offAt D.count D.off)
  have Kb4 := Kept.mk KK4.out.2.2
  go_wp2_with (first | (refine wpList_load_mid rfl 36 _ rfl g 0 rfl _ _ KR.out Tryz.underlying36 rfl infoDisk ?_) | (refine BigFrame.wpList_want rfl (fun K hK => wp_store_row 36 _ _ rfl g4 #[V.n, V.l, V.p, V.f, .int .i64 D.quota, .slice none 0 0, .int .i64 D.offAt, .int .i64 D.count, .bool D.off] rfl rfl 36 _ Kb4.out infoDisk rfl hone.out (hK _ _ ?_)); rw [hwz]))
  refine bodyPost_ret (results_row1 rfl _ _ g4 36 #[V.n, V.l, V.p, V.f, .int .i64 D.quota, .slice none 0 0, .int .i64 D.offAt, .int .i64 D.count, .bool D.off] (0, 0) _ rfl Krow.out Tryz.underlying36 rfl infoDisk) rfl ?_
  rw [KM.out]
  exact ⟨V, rfl, KEz.out, KBz.out⟩
set_option maxHeartbeats 4000000 in
set_option maxRecDepth 100000 in
theorem made5_any {G S : Nat → Prop} (D : DD) (V : DVs) (pt pto : ByteArray) (v : Value) (da : List Int) (w : World) (h : DM G w D V) {k : Nat} (hD : DL D k) (hk : k ≤ 1000) (hs : Srt D.names) (hv : Rd .u8 S w v da) (hA : AllB da) :
    Calls Tryz.prog 17 #[.agg #[V.n, V.l, V.p, V.f, .int .i64 D.quota, .slice none 0 0, .int .i64 D.offAt, .int .i64 D.count, .bool D.off], .agg #[.int .i64 5, .string pt, .string pto, v]] w fun e w' => ∃ V', e = .returned (.agg #[V'.n, V'.l, V'.p, V'.f, .int .i64 (madeF D ⟨5, pt, pto, da⟩).quota, .slice none 0 0, .int .i64 (madeF D ⟨5, pt, pto, da⟩).offAt, .int .i64 (madeF D ⟨5, pt, pto, da⟩).count, .bool (madeF D ⟨5, pt, pto, da⟩).off]) ∧ DM (Gn G w) w' (madeF D ⟨5, pt, pto, da⟩) V' ∧ Below w.heap.size w w' := by
  have KM : Kept (madeF D ⟨5, pt, pto, da⟩ = namedF D ⟨pt, ByteArray.empty, 0⟩) := ⟨by unfold madeF; rw [if_neg (by show ¬ (5 : Int) = 1; decide), if_neg (by show ¬ (5 : Int) = 2; decide), if_neg (by show ¬ (5 : Int) = 3; decide), if_neg (by show ¬ (5 : Int) = 4; decide), if_pos rfl]⟩
  obtain ⟨va, vc, rfl, -, -, -⟩ := hv.form
  obtain ⟨w1, w2, w3, hw1, hw2, hw3, hb13, l1, l2, l3, x1, x2, x3⟩ := boxes3 w [V.n, V.l, V.p, V.f, .int .i64 D.quota, .slice none 0 0, .int .i64 D.offAt, .int .i64 D.count, .bool D.off] [.int .i64 5, .string pt, .string pto, .slice va da.length vc] [.slice none 0 0, .slice none 0 0, .slice none 0 0, .slice none 0 0, .int .i64 0, .slice none 0 0, .int .i64 0, .int .i64 0, .bool false] 36 38 36
  have KB3 := Kept.mk hb13
  have KH := Kept.mk h
  have KHg := Kept.mk (h.gb w3.heap.size)
  have hbn := Nat.le_trans hD.n hk
  have hbp := Nat.le_trans (Nat.le_trans (Nat.le_add_left _ _) hD.l) hk
  have hbf := Nat.le_trans hD.f hk
  have KAt := Kept.mk (at_any V.n D.names pt w3 (h.n.later hb13) (by omega))
  obtain ⟨g, hgw⟩ : ∃ g, w.heap.size = g := ⟨_, rfl⟩
  obtain ⟨g2, hgw2⟩ : ∃ g2, w1.heap.size = g2 := ⟨_, rfl⟩
  obtain ⟨g4, hgw4⟩ : ∃ g4, w2.heap.size = g4 := ⟨_, rfl⟩
  rw [hgw] at x1
  rw [hgw2] at x2
  rw [hgw4] at x3
  have Kg : Kept (w.heap.size = g ∧ g < g2 ∧ g2 < g4 ∧ g4 < w3.heap.size) := ⟨by omega⟩
  have c0 := x1.cell 0 _ rfl
  have d1 := x2.cell 1 _ rfl
  have KK := Kept.mk (And.intro x1 (And.intro x2 x3))
  have Kvd := Kept.mk (And.intro hv hA)
  have Ks := Kept.mk hs
  have Kdf := Kept.mk hD.x
  clear h hs hb13 l1 l2 l3 x1 x2 x3 hv hA hD
  obtain ⟨F, hF⟩ : ∃ F, nmF D.names pt = F := ⟨_, rfl⟩
  rw [hF] at KAt
  try rw [hF] at KM
  have KFe := Kept.mk hF
  clear hF
  go_enter Tryz.func17, Tryz.ntmps17
  go_wp2_with fail
  refine Calls.mono KAt.out (fun e w4 hp => ?_)
  obtain ⟨rfl, hb4⟩ := hp
  have KB4 : Kept (Below w.heap.size w w4) := ⟨KB3.out.trans (hb4.mono KB3.out.size)⟩
  have KK4 := Kept.mk (And.intro (KK.out.1.below hb4) (And.intro (KK.out.2.1.below hb4) (KK.out.2.2.below hb4)))
  have Ks4 : Kept (w3.heap.size ≤ w4.heap.size) := ⟨hb4.size⟩
  clear hb4 KAt c0 d1 hw1 hw2 hw3 KK
  have d0 := KK4.out.2.1.cell 0 _ rfl
  have d1 := KK4.out.2.1.cell 1 _ rfl
  have d2 := KK4.out.2.1.cell 2 _ rfl
  have d3 := KK4.out.2.1.cell 3 _ rfl
  have KR := Kept.mk KK4.out.1.range
  have KNa := Kept.mk (named_any (G := Gb G w w3.heap.size) D V ⟨pt, ByteArray.empty, 0⟩ w4 (KHg.out.later KB4.out) Ks.out (by omega) (by omega))
  have KNa : Kept (Calls Tryz.prog 48 #[.agg #[V.n, V.l, V.p, V.f, .int .i64 D.quota, .slice none 0 0, .int .i64 D.offAt, .int .i64 D.count, .bool D.off], .agg #[.string pt, .string ⟨#[]⟩, .int .i64 0]] w4 _) := KNa
  go_wp2_with (refine wpList_load_mid rfl 36 _ rfl g 0 rfl _ _ KR.out Tryz.underlying36 rfl infoDisk ?_)
  refine Calls.mono KNa.out (fun e w5 hp => ?_)
  obtain ⟨V5, rfl, hdm, hb5⟩ := hp
  have KB5 : Kept (Below w.heap.size w w5) := ⟨KB4.out.trans (hb5.mono KB4.out.size)⟩
  have KE5 : Kept (DM (Gb G w w3.heap.size) w5 (namedF D ⟨pt, ByteArray.empty, 0⟩) V5) := ⟨hdm.weak (fun b _ hb => hb.elim (fun h => h) (fun h => .inr (by have := Ks4.out; omega)))⟩
  have K45 := Kept.mk (KK4.out.2.2.below hb5)
  clear hdm hb5 KNa
  obtain ⟨wz, hwz⟩ : ∃ wz, w5.setRow g4 #[V5.n, V5.l, V5.p, V5.f, .int .i64 (namedF D ⟨pt, ByteArray.empty, 0⟩).quota, .slice none 0 0, .int .i64 (namedF D ⟨pt, ByteArray.empty, 0⟩).offAt, .int .i64 (namedF D ⟨pt, ByteArray.empty, 0⟩).count, .bool (namedF D ⟨pt, ByteArray.empty, 0⟩).off] = wz := ⟨_, rfl⟩
  have Krow : Kept (wz.heap[g4]? = some (.cells #[V5.n, V5.l, V5.p, V5.f, .int .i64 (namedF D ⟨pt, ByteArray.empty, 0⟩).quota, .slice none 0 0, .int .i64 (namedF D ⟨pt, ByteArray.empty, 0⟩).offAt, .int .i64 (namedF D ⟨pt, ByteArray.empty, 0⟩).count, .bool (namedF D ⟨pt, ByteArray.empty, 0⟩).off] 36 (0, 0))) := ⟨by rw [← hwz]; exact setRow_heap w5 g4 _ _ _ _ K45.out⟩
  have KBz : Kept (Below w.heap.size w wz) := ⟨by rw [← hwz]; exact below_row KB5.out (by have := Kg.out; omega) _⟩
  have KEz : Kept (DM (Gn G w) wz (namedF D ⟨pt, ByteArray.empty, 0⟩) V5) := ⟨by rw [← hwz]; exact KE5.out.row (by have := Kg.out; omega) (by have := Kg.out; omega) _⟩
  have hone := Kept.mk (dm_ones KE5.out (namedF D ⟨pt, ByteArray.empty, 0⟩).quota (namedF D ⟨pt, ByteArray.empty, 0⟩).offAt (namedF D ⟨pt, ByteArray.empty, 0⟩).count (namedF D ⟨pt, ByteArray.empty, 0⟩).off)
  have Kb4 := Kept.mk K45.out
  go_wp2_with (first | (refine wpList_load_mid rfl 36 _ rfl g 0 rfl _ _ KR.out Tryz.underlying36 rfl infoDisk ?_) | (refine BigFrame.wpList_want rfl (fun K hK => wp_store_row 36 _ _ rfl g4 #[V5.n, V5.l, V5.p, V5.f, .int .i64 (namedF D ⟨pt, ByteArray.empty, 0⟩).quota, .slice none 0 0, .int .i64 (namedF D ⟨pt, ByteArray.empty, 0⟩).offAt, .int .i64 (namedF D ⟨pt, ByteArray.empty, 0⟩).count, .bool (namedF D ⟨pt, ByteArray.empty, 0⟩).off] rfl rfl 36 _ Kb4.out infoDisk rfl hone.out (hK _ _ ?_)); rw [hwz]))
  refine bodyPost_ret (results_row1 rfl _ _ g4 36 #[V5.n, V5.l, V5.p, V5.f, .int .i64 (namedF D ⟨pt, ByteArray.empty, 0⟩).quota, .slice none 0 0, .int .i64 (namedF D ⟨pt, ByteArray.empty, 0⟩).offAt, .int .i64 (namedF D ⟨pt, ByteArray.empty, 0⟩).count, .bool (namedF D ⟨pt, ByteArray.empty, 0⟩).off] (0, 0) _ rfl Krow.out Tryz.underlying36 rfl infoDisk) rfl ?_
  rw [KM.out]
  exact ⟨V5, rfl, KEz.out, KBz.out⟩
end Go.Proofs.YtegdadkejheagaaGreatDoor
