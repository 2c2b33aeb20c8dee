/-
  The document's Do.
-/
import Derived.Test.YtegdadkejheagaaGreatDoorG15
namespace Go.Proofs.YtegdadkejheagaaGreatDoor
open Go.RowKit Go.WideMaps Go.Maps

theorem DM.tick {G : Nat → Prop} {w : World} {D : DD} {V : DVs} (h : DM G w D V) : DM G w (tickF D) V := ⟨h.n, h.l, h.p, h.f⟩
theorem DL.tick {D : DD} {k : Nat} (h : DL D k) : DL (tickF D) (k + 1) := by
  have hw := h.weak (Nat.le_succ k)
  exact ⟨hw.n, hw.l, hw.f, hw.x, by show 0 ≤ D.count + 1; have := h.c0; omega, by show D.count + 1 ≤ _; have := h.c1; push_cast; omega, h.p⟩
set_option maxHeartbeats 4000000 in
set_option maxRecDepth 100000 in
theorem dDo_any {G S : Nat → Prop} (D : DD) (V : DVs) (c : Cl) (v : Value) (w : World) (h : DM G w D V) {k : Nat} (hD : DL D k) (hk : k ≤ 900) (hs : Srt D.names) (hls : Srt D.lasting) (hr : ∀ x ∈ D.names, 1 ≤ x.2 ∧ x.2 ≤ D.files.length) (hv : Rd .u8 S w v c.data) (hA : AllB c.data) (hl : c.data.length ≤ 1000) (hp : c.path.size < 4294967281) (hd : c.dst.size < 4294967281) (h1 : 1 ≤ c.kind) (h6 : c.kind ≤ 6) :
    Calls Tryz.prog 8 #[.agg #[V.n, V.l, V.p, V.f, .int .i64 D.quota, .slice none 0 0, .int .i64 D.offAt, .int .i64 D.count, .bool D.off], .agg #[.int .i64 c.kind, .string c.path, .string c.dst, v]] w fun e w' => ∃ V' q, e = .returned (.tuple #[.agg #[V'.n, V'.l, V'.p, V'.f, .int .i64 (doF D c).quota, .slice none 0 0, .int .i64 (doF D c).offAt, .int .i64 (doF D c).count, .bool (doF D c).off], .int .i64 q]) ∧ DM (Gn G w) w' (doF D c) V' ∧ Below w.heap.size w w' := by
  obtain ⟨va, vc, rfl, -, -, -⟩ := hv.form
  obtain ⟨w1, w2, w3, hw1, hw2, hw3, hb13, l1, l2, l3, x1, x2, x3⟩ := boxes3 w [V.n, V.l, V.p, V.f, .int .i64 D.quota, .slice none 0 0, .int .i64 D.offAt, .int .i64 D.count, .bool D.off] [.int .i64 c.kind, .string c.path, .string c.dst, .slice va c.data.length vc] [.slice none 0 0, .slice none 0 0, .slice none 0 0, .slice none 0 0, .int .i64 0, .slice none 0 0, .int .i64 0, .int .i64 0, .bool false] 36 38 36
  have KB3 := Kept.mk hb13
  have KHg := Kept.mk (h.gb w3.heap.size)
  have KDo : Kept (doF D c = if D.off = true then D else if D.count + 1 = D.offAt then tickF D else if failF D c ≠ 0 then tickF D else madeF (tickF D) c) := ⟨rfl⟩
  have KFa : Kept (∀ W, Below w.heap.size w W → Calls Tryz.prog 16 #[.agg #[V.n, V.l, V.p, V.f, .int .i64 (tickF D).quota, .slice none 0 0, .int .i64 (tickF D).offAt, .int .i64 (tickF D).count, .bool (tickF D).off], .agg #[.int .i64 c.kind, .string c.path, .string c.dst, .slice va c.data.length vc]] W fun e w' => e = .returned (.int .i64 (failF D c)) ∧ Below W.heap.size W w') := ⟨fun W hW => by
    have hh : DM G w (tickF D) V := h.tick
    exact failure_any (tickF D) V c _ W (hh.later hW) hD.tick (by omega) hr ⟨_, _, rfl⟩ hp hd hl h1 h6⟩
  have KMa : Kept (failF D c = 0 → ∀ W, Below w.heap.size w W → Calls Tryz.prog 17 #[.agg #[V.n, V.l, V.p, V.f, .int .i64 (tickF D).quota, .slice none 0 0, .int .i64 (tickF D).offAt, .int .i64 (tickF D).count, .bool (tickF D).off], .agg #[.int .i64 c.kind, .string c.path, .string c.dst, .slice va c.data.length vc]] W fun e w' => ∃ V', e = .returned (.agg #[V'.n, V'.l, V'.p, V'.f, .int .i64 (madeF (tickF D) c).quota, .slice none 0 0, .int .i64 (madeF (tickF D) c).offAt, .int .i64 (madeF (tickF D) c).count, .bool (madeF (tickF D) c).off]) ∧ DM (Gn (Gb G w w3.heap.size) W) w' (madeF (tickF D) c) V' ∧ Below W.heap.size W w') := ⟨fun h0 W hW => by
    have hh : DM (Gb G w w3.heap.size) w (tickF D) V := KHg.out.tick
    exact made_any (tickF D) V c _ W (hh.later hW) hD.tick (by omega) hs hls hr (hv.later hW (Nat.le_refl _)) hA hl (by unfold maxLen; omega) h1 h6 (fail_zero h0).2⟩
  have KT : Kept ((tickF D).quota = D.quota ∧ (tickF D).offAt = D.offAt ∧ (tickF D).count = D.count + 1 ∧ (tickF D).off = decide (D.count + 1 = D.offAt)) := ⟨rfl, rfl, rfl, rfl⟩
  have hTm : DM (Gb G w w3.heap.size) w (tickF D) V := KHg.out.tick
  have KTm := Kept.mk hTm
  have e1 : IntKind.i64.wrap (D.count + 1) = D.count + 1 := wr64 (by have := hD.c0; omega) (by have := hD.c1; omega)
  obtain ⟨g, hgw⟩ : ∃ g, w.heap.size = g := ⟨_, rfl⟩
  obtain ⟨g2, hgw2⟩ : ∃ g2, w1.heap.size = g2 := ⟨_, rfl⟩
  obtain ⟨g4, hgw4⟩ : ∃ g4, w2.heap.size = g4 := ⟨_, rfl⟩
  rw [hgw] at x1
  rw [hgw2] at x2
  rw [hgw4] at x3
  have Kg : Kept (w.heap.size = g ∧ g < g2 ∧ g2 < g4 ∧ g4 < w3.heap.size) := ⟨by omega⟩
  have KK := Kept.mk (And.intro x1 (And.intro x2 x3))
  have d6 := x1.cell 6 _ rfl
  have d7 := x1.cell 7 _ rfl
  have d8 := x1.cell 8 _ rfl
  have f7 := x1.frozen 7
  have f8 := x1.frozen 8
  clear h hs hls hr hb13 l1 l2 l3 x1 x2 x3 hv hA hD hl hp hd hTm h1 h6
  obtain ⟨T, hT⟩ : ∃ T, tickF D = T := ⟨_, rfl⟩
  rw [hT] at KFa KMa KT KTm KDo
  clear hT
  obtain ⟨C, hC⟩ : ∃ C, doF D c = C := ⟨_, rfl⟩
  rw [hC] at KDo ⊢
  clear hC
  obtain ⟨E, hE⟩ : ∃ E, failF D c = E := ⟨_, rfl⟩
  rw [hE] at KFa KMa KDo
  clear hE
  obtain ⟨M, hM⟩ : ∃ M, madeF T c = M := ⟨_, rfl⟩
  rw [hM] at KMa KDo
  clear hM
  obtain ⟨kd, pt, pto, da⟩ := c
  simp only at *
  by_cases hoff : D.off = true
  · have KC : Kept (C = D) := ⟨by rw [KDo.out, if_pos hoff]⟩
    rw [hoff] at d8
    have KR := Kept.mk KK.out.1.range
    clear hoff e1 d6 d7 f7 f8
    go_enter Tryz.func8, Tryz.ntmps8
    go_upto_region 2 with fail
    obtain ⟨wz, hwz⟩ : ∃ wz, w3.setRow g4 #[V.n, V.l, V.p, V.f, .int .i64 D.quota, .slice none 0 0, .int .i64 D.offAt, .int .i64 D.count, .bool D.off] = wz := ⟨_, rfl⟩
    have Krow : Kept (wz.heap[g4]? = some (.cells #[V.n, V.l, V.p, V.f, .int .i64 D.quota, .slice none 0 0, .int .i64 D.offAt, .int .i64 D.count, .bool D.off] 36 (0, 0))) := ⟨by rw [← hwz]; exact setRow_heap w3 g4 _ _ _ _ KK.out.2.2⟩
    have KBz : Kept (Below w.heap.size w wz) := ⟨by rw [← hwz]; exact below_row KB3.out (by have := Kg.out; omega) _⟩
    have KEz : Kept (DM (Gn G w) wz D V) := ⟨by rw [← hwz]; exact (KHg.out.later KB3.out).row (by have := Kg.out; omega) (by have := Kg.out; omega) _⟩
    have hone := Kept.mk (dm_ones (KHg.out.later KB3.out) D.quota D.offAt D.count D.off)
    have Kb4 := Kept.mk KK.out.2.2
    go_wp2_with (first | (refine wpList_load_mid rfl 36 _ rfl g 0 rfl _ _ KR.out Tryz.underlying36 rfl infoDisk ?_) | (refine BigFrame.wpList_want rfl (fun K hK => wp_store_row 36 _ _ rfl g4 #[V.n, V.l, V.p, V.f, .int .i64 D.quota, .slice none 0 0, .int .i64 D.offAt, .int .i64 D.count, .bool D.off] rfl rfl 36 _ Kb4.out infoDisk rfl hone.out (hK _ _ ?_)); rw [hwz]))
    refine bodyPost_ret (results_row2 rfl _ _ g4 36 #[V.n, V.l, V.p, V.f, .int .i64 D.quota, .slice none 0 0, .int .i64 D.offAt, .int .i64 D.count, .bool D.off] (0, 0) _ rfl Krow.out Tryz.underlying36 rfl infoDisk) rfl ?_
    rw [KC.out]
    exact ⟨V, 13, rfl, KEz.out, by have := KBz.out; first | exact this | rwa [hgw] at this⟩
  have hoff2 : D.off = false := by simpa using hoff
  rw [hoff2] at d8
  rw [if_neg hoff] at KDo
  have Koff := Kept.mk hoff2
  clear hoff hoff2
  obtain ⟨w5, hw5⟩ : ∃ w5, w3.setCell ⟨g, 7, none⟩ (.int .i64 (D.count + 1)) = w5 := ⟨_, rfl⟩
  have KB5 : Kept (Below w.heap.size w w5) := ⟨by rw [← hw5]; exact KB3.out.setCell (p := ⟨g, 7, none⟩) (by show w.heap.size ≤ g; have := Kg.out; omega) _⟩
  have KK5 : Kept (Bk w5 g 36 [V.n, V.l, V.p, V.f, .int .i64 D.quota, .slice none 0 0, .int .i64 D.offAt, .int .i64 (D.count + 1), .bool D.off] ∧ Bk w5 g2 38 [.int .i64 kd, .string pt, .string pto, .slice va da.length vc] ∧ Bk w5 g4 36 [.slice none 0 0, .slice none 0 0, .slice none 0 0, .slice none 0 0, .int .i64 0, .slice none 0 0, .int .i64 0, .int .i64 0, .bool false]) := ⟨by
    rw [← hw5]
    exact ⟨KK.out.1.set 7 _, KK.out.2.1.store (by have := Kg.out; omega), KK.out.2.2.store (by have := Kg.out; omega)⟩⟩
  have Ks5 : Kept (w3.heap.size = w5.heap.size) := ⟨by rw [← hw5]; simp [World.setCell]⟩
  have KH5 : Kept (DM (Gb G w w3.heap.size) w5 T V) := ⟨KTm.out.later KB5.out⟩
  go_enter Tryz.func8, Tryz.ntmps8
  go_upto_region 4 with fail
  try rw [hw5]
  clear KK hw5 d6 d7 d8 f7 f8 e1
  have d6 := KK5.out.1.cell 6 _ rfl
  have d7 := KK5.out.1.cell 7 _ rfl
  have d8 := KK5.out.1.cell 8 _ rfl
  have f8 := KK5.out.1.frozen 8
  by_cases heq : D.count + 1 = D.offAt
  · have hbq : (D.count + 1 == D.offAt) = true := by simpa using heq
    have KC : Kept (C = T ∧ T.off = true) := ⟨by rw [KDo.out, if_pos heq], by rw [KT.out.2.2.2, decide_eq_true heq]⟩
    clear heq
    obtain ⟨w6, hw6⟩ : ∃ w6, w5.setCell ⟨g, 8, none⟩ (.bool true) = w6 := ⟨_, rfl⟩
    have KB6 : Kept (Below w.heap.size w w6) := ⟨by rw [← hw6]; exact KB5.out.setCell (p := ⟨g, 8, none⟩) (by show w.heap.size ≤ g; have := Kg.out; omega) _⟩
    have KK6 : Kept (Bk w6 g 36 [V.n, V.l, V.p, V.f, .int .i64 D.quota, .slice none 0 0, .int .i64 D.offAt, .int .i64 (D.count + 1), .bool true] ∧ Bk w6 g4 36 [.slice none 0 0, .slice none 0 0, .slice none 0 0, .slice none 0 0, .int .i64 0, .slice none 0 0, .int .i64 0, .int .i64 0, .bool false]) := ⟨by
      rw [← hw6]
      exact ⟨KK5.out.1.set 8 _, KK5.out.2.2.store (by have := Kg.out; omega)⟩⟩
    have KH6 : Kept (DM (Gb G w w3.heap.size) w6 T V) := ⟨KTm.out.later KB6.out⟩
    go_upto_region 6 with fail
    try rw [hw6]
    clear KK5 hw6 d6 d7 d8 f8 hbq
    have KR := Kept.mk KK6.out.1.range
    obtain ⟨wz, hwz⟩ : ∃ wz, w6.setRow g4 #[V.n, V.l, V.p, V.f, .int .i64 D.quota, .slice none 0 0, .int .i64 D.offAt, .int .i64 (D.count + 1), .bool true] = wz := ⟨_, rfl⟩
    have Krow : Kept (wz.heap[g4]? = some (.cells #[V.n, V.l, V.p, V.f, .int .i64 D.quota, .slice none 0 0, .int .i64 D.offAt, .int .i64 (D.count + 1), .bool true] 36 (0, 0))) := ⟨by rw [← hwz]; exact setRow_heap w6 g4 _ _ _ _ KK6.out.2⟩
    have KBz : Kept (Below w.heap.size w wz) := ⟨by rw [← hwz]; exact below_row KB6.out (by have := Kg.out; omega) _⟩
    have KEz : Kept (DM (Gn G w) wz T V) := ⟨by rw [← hwz]; exact KH6.out.row (by have := Kg.out; omega) (by have := Kg.out; omega) _⟩
    have hone := Kept.mk (dm_ones KH6.out D.quota D.offAt (D.count + 1) true)
    have Kb4 := Kept.mk KK6.out.2
    go_wp2_with (first | (refine wpList_load_mid rfl 36 _ rfl g 0 rfl _ _ KR.out Tryz.underlying36 rfl infoDisk ?_) | (refine BigFrame.wpList_want rfl (fun K hK => wp_store_row 36 _ _ rfl g4 #[V.n, V.l, V.p, V.f, .int .i64 D.quota, .slice none 0 0, .int .i64 D.offAt, .int .i64 (D.count + 1), .bool true] rfl rfl 36 _ Kb4.out infoDisk rfl hone.out (hK _ _ ?_)); rw [hwz]))
    refine bodyPost_ret (results_row2 rfl _ _ g4 36 #[V.n, V.l, V.p, V.f, .int .i64 D.quota, .slice none 0 0, .int .i64 D.offAt, .int .i64 (D.count + 1), .bool true] (0, 0) _ rfl Krow.out Tryz.underlying36 rfl infoDisk) rfl ?_
    rw [KC.out.1, KT.out.1, KT.out.2.1, KT.out.2.2.1, KC.out.2]
    exact ⟨V, 13, rfl, KEz.out, by have := KBz.out; first | exact this | rwa [hgw] at this⟩
  have hbq : (D.count + 1 == D.offAt) = false := by simpa using heq
  have KTo : Kept (T.off = D.off) := ⟨by rw [KT.out.2.2.2, Koff.out, decide_eq_false heq]⟩
  rw [if_neg heq] at KDo
  clear heq
  rw [KT.out.1, KT.out.2.1, KT.out.2.2.1, KTo.out] at KFa KMa
  have KR := Kept.mk KK5.out.1.range
  have KRc := Kept.mk KK5.out.2.1.range
  have KFa5 := Kept.mk (KFa.out w5 KB5.out)
  clear KFa
  go_wp2_with (first | (refine wpList_load_mid rfl 36 _ rfl g 0 rfl _ _ KR.out Tryz.underlying36 rfl infoDisk ?_) | (refine wpList_load_mid rfl 38 _ rfl g2 0 rfl _ _ KRc.out Tryz.underlying38 rfl infoCall ?_))
  refine Calls.mono KFa5.out (fun e w6 hp => ?_)
  obtain ⟨rfl, hb6⟩ := hp
  have KB6 : Kept (Below w.heap.size w w6) := ⟨KB5.out.trans (hb6.mono KB5.out.size)⟩
  have Ks6 : Kept (w3.heap.size ≤ w6.heap.size) := ⟨by have := Ks5.out; have := hb6.size; omega⟩
  have KK6 := Kept.mk (And.intro (KK5.out.1.below hb6) (And.intro (KK5.out.2.1.below hb6) (KK5.out.2.2.below hb6)))
  have KH6 : Kept (DM (Gb G w w3.heap.size) w6 T V) := ⟨KTm.out.later KB6.out⟩
  clear hb6 KFa5 KK5 KR KRc d6 d7 d8 f8 hbq KH5 KB5 Ks5
  have KR := Kept.mk KK6.out.1.range
  have KRc := Kept.mk KK6.out.2.1.range
  by_cases h0 : E = 0
  · subst h0
    have KC : Kept (C = M) := ⟨by rw [KDo.out, if_neg (by decide)]⟩
    have KMa6 := Kept.mk (KMa.out rfl w6 KB6.out)
    clear KMa
    go_wp2_with (first | (refine wpList_load_mid rfl 36 _ rfl g 0 rfl _ _ KR.out Tryz.underlying36 rfl infoDisk ?_) | (refine wpList_load_mid rfl 38 _ rfl g2 0 rfl _ _ KRc.out Tryz.underlying38 rfl infoCall ?_))
    refine Calls.mono KMa6.out (fun e w7 hp => ?_)
    obtain ⟨V7, rfl, hdm, hb7⟩ := hp
    have KB7 : Kept (Below w.heap.size w w7) := ⟨KB6.out.trans (hb7.mono KB6.out.size)⟩
    have KE7 : Kept (DM (Gb G w w3.heap.size) w7 M V7) := ⟨hdm.weak (fun b _ hb => hb.elim (fun h => h) (fun h => .inr (by have := Ks6.out; omega)))⟩
    have K47 := Kept.mk (KK6.out.2.2.below hb7)
    clear hdm hb7 KMa6
    obtain ⟨wz, hwz⟩ : ∃ wz, w7.setRow g4 #[V7.n, V7.l, V7.p, V7.f, .int .i64 M.quota, .slice none 0 0, .int .i64 M.offAt, .int .i64 M.count, .bool M.off] = wz := ⟨_, rfl⟩
    have Krow : Kept (wz.heap[g4]? = some (.cells #[V7.n, V7.l, V7.p, V7.f, .int .i64 M.quota, .slice none 0 0, .int .i64 M.offAt, .int .i64 M.count, .bool M.off] 36 (0, 0))) := ⟨by rw [← hwz]; exact setRow_heap w7 g4 _ _ _ _ K47.out⟩
    have KBz : Kept (Below w.heap.size w wz) := ⟨by rw [← hwz]; exact below_row KB7.out (by have := Kg.out; omega) _⟩
    have KEz : Kept (DM (Gn G w) wz M V7) := ⟨by rw [← hwz]; exact KE7.out.row (by have := Kg.out; omega) (by have := Kg.out; omega) _⟩
    have hone := Kept.mk (dm_ones KE7.out M.quota M.offAt M.count M.off)
    have Kb4 := Kept.mk K47.out
    go_wp2_with (first | (refine wpList_load_mid rfl 36 _ rfl g 0 rfl _ _ KR.out Tryz.underlying36 rfl infoDisk ?_) | (refine BigFrame.wpList_want rfl (fun K hK => wp_store_row 36 _ _ rfl g4 #[V7.n, V7.l, V7.p, V7.f, .int .i64 M.quota, .slice none 0 0, .int .i64 M.offAt, .int .i64 M.count, .bool M.off] rfl rfl 36 _ Kb4.out infoDisk rfl hone.out (hK _ _ ?_)); rw [hwz]))
    refine bodyPost_ret (results_row2 rfl _ _ g4 36 #[V7.n, V7.l, V7.p, V7.f, .int .i64 M.quota, .slice none 0 0, .int .i64 M.offAt, .int .i64 M.count, .bool M.off] (0, 0) _ rfl Krow.out Tryz.underlying36 rfl infoDisk) rfl ?_
    rw [KC.out]
    exact ⟨V7, 0, rfl, KEz.out, by have := KBz.out; first | exact this | rwa [hgw] at this⟩
  · have KC : Kept (C = T) := ⟨by rw [KDo.out, if_pos h0]⟩
    have hb0 : (E == 0) = false := by simpa using h0
    clear h0
    obtain ⟨wz, hwz⟩ : ∃ wz, w6.setRow g4 #[V.n, V.l, V.p, V.f, .int .i64 D.quota, .slice none 0 0, .int .i64 D.offAt, .int .i64 (D.count + 1), .bool D.off] = wz := ⟨_, rfl⟩
    have Krow : Kept (wz.heap[g4]? = some (.cells #[V.n, V.l, V.p, V.f, .int .i64 D.quota, .slice none 0 0, .int .i64 D.offAt, .int .i64 (D.count + 1), .bool D.off] 36 (0, 0))) := ⟨by rw [← hwz]; exact setRow_heap w6 g4 _ _ _ _ KK6.out.2.2⟩
    have KBz : Kept (Below w.heap.size w wz) := ⟨by rw [← hwz]; exact below_row KB6.out (by have := Kg.out; omega) _⟩
    have KEz : Kept (DM (Gn G w) wz T V) := ⟨by rw [← hwz]; exact KH6.out.row (by have := Kg.out; omega) (by have := Kg.out; omega) _⟩
    have hone := Kept.mk (dm_ones KH6.out D.quota D.offAt (D.count + 1) D.off)
    have Kb4 := Kept.mk KK6.out.2.2
    go_wp2_with (first | (refine wpList_load_mid rfl 36 _ rfl g 0 rfl _ _ KR.out Tryz.underlying36 rfl infoDisk ?_) | (refine BigFrame.wpList_want rfl (fun K hK => wp_store_row 36 _ _ rfl g4 #[V.n, V.l, V.p, V.f, .int .i64 D.quota, .slice none 0 0, .int .i64 D.offAt, .int .i64 (D.count + 1), .bool D.off] rfl rfl 36 _ Kb4.out infoDisk rfl hone.out (hK _ _ ?_)); rw [hwz]))
    refine bodyPost_ret (results_row2 rfl _ _ g4 36 #[V.n, V.l, V.p, V.f, .int .i64 D.quota, .slice none 0 0, .int .i64 D.offAt, .int .i64 (D.count + 1), .bool D.off] (0, 0) _ rfl Krow.out Tryz.underlying36 rfl infoDisk) rfl ?_
    rw [KC.out, KT.out.1, KT.out.2.1, KT.out.2.2.1, KTo.out]
    exact ⟨V, E, rfl, KEz.out, by have := KBz.out; first | exact this | rwa [hgw] at this⟩
end Go.Proofs.YtegdadkejheagaaGreatDoor
