/-
  The document's named.
-/
import Derived.Test.YtegdadkejheagaaGreatDoorG9
namespace Go.Proofs.YtegdadkejheagaaGreatDoor
open Go.RowKit Go.WideMaps Go.Maps

theorem results_row1 {P : Program} {fn : Func} {p : Tmp} {ty : TypeId} (h : fn.results = #[.cell p ty]) (tmps : Array Value) (w : World) (g : Nat) (t : TypeId) (cs : Array Value) (fr : Nat × Nat) (d : TypeDesc)
    (hp : tmps.getD p undef = .pointer (some ⟨g, 0, none⟩)) (hg : w.heap[g]? = some (.cells cs t fr)) (hu : P.underlying ty = some d) (hd : (match d with | .struct _ | .array _ _ => true | _ => false) = true) (hi : (P.info? ty).map (·.size) = some cs.size) :
    (results fn tmps).run P w = .ok (.agg cs) w := by
  have hp' : tmps[p]?.getD undef = .pointer (some ⟨g, 0, none⟩) := by rw [← Array.getD_eq_getD_getElem?]; exact hp
  simp only [results, h]
  simp [hp']
  simp only [asAddr, Sem.run_pure, Result.andThen_ok, run_loadVar_row w g t ty cs fr d hg hu hd hi]
/-- Two boxes and the result's. -/
theorem boxes3 (w : World) (L1 L2 L3 : List Value) (T1 T2 T3 : TypeId) : ∃ w1 w2 w3, w.alloc (.cells L1.toArray T1) = w1 ∧ w1.alloc (.cells L2.toArray T2) = w2 ∧ w2.alloc (.cells L3.toArray T3) = w3 ∧ Below w.heap.size w w3 ∧ w.heap.size < w1.heap.size ∧ w1.heap.size < w2.heap.size ∧ w2.heap.size < w3.heap.size ∧ Bk w3 w.heap.size T1 L1 ∧ Bk w3 w1.heap.size T2 L2 ∧ Bk w3 w2.heap.size T3 L3 := by
  obtain ⟨w1, hw1⟩ : ∃ w1, w.alloc (.cells L1.toArray T1) = w1 := ⟨_, rfl⟩
  obtain ⟨w2, hw2⟩ : ∃ w2, w1.alloc (.cells L2.toArray T2) = w2 := ⟨_, rfl⟩
  obtain ⟨w3, hw3⟩ : ∃ w3, w2.alloc (.cells L3.toArray T3) = w3 := ⟨_, rfl⟩
  have k1 : Bk w1 w.heap.size T1 L1 := by rw [← hw1]; exact Bk.new w _ _
  have k2 : Bk w2 w1.heap.size T2 L2 := by rw [← hw2]; exact Bk.new w1 _ _
  have k3 : Bk w3 w2.heap.size T3 L3 := by rw [← hw3]; exact Bk.new w2 _ _
  have b1 : Below w.heap.size w w1 := by rw [← hw1]; exact (Below.refl _ _).alloc (Nat.le_refl _) _
  have b2 : Below w1.heap.size w1 w2 := by rw [← hw2]; exact (Below.refl _ _).alloc (Nat.le_refl _) _
  have b3 : Below w2.heap.size w2 w3 := by rw [← hw3]; exact (Below.refl _ _).alloc (Nat.le_refl _) _
  have l1 := k1.lt
  have l2 := k2.lt
  exact ⟨w1, w2, w3, hw1, hw2, hw3, b1.trans ((b2.trans (b3.mono b2.size)).mono b1.size), l1, l2, k3.lt, k1.far (by rw [b3.block _ (by omega), b2.block _ l1]), k2.far (b3.block _ l2), k3⟩
theorem Bk.below {w w' : World} {g : Nat} {T : TypeId} {cs : List Value} (h : Bk w g T cs) (hb : Below w.heap.size w w') : Bk w' g T cs := h.far (hb.block g h.lt)
theorem Bk.store {w : World} {g i j : Nat} {u : Value} {T : TypeId} {cs : List Value} (h : Bk w g T cs) (hi : g ≠ i) : Bk (w.setCell ⟨i, j, none⟩ u) g T cs := h.far (Below.heap_setCell w _ u g hi)
theorem Bk.grow {w w' : World} {g : Nat} {r : Option Nat} {T : TypeId} {cs : List Value} (h : Bk w g T cs) (hb : w.grownBy w' r) (hr : r ≠ some g) : Bk w' g T cs := h.far (hb.block g h.lt (fun e => hr e.symm))
theorem DM.weak {G G' : Nat → Prop} {w : World} {D : DD} {V : DVs} (h : DM G w D V) (hG : ∀ b, b < w.heap.size → G b → G' b) : DM G' w D V := by
  refine ⟨h.n.weak hG, h.l.weak hG, h.p.weak hG, ?_⟩
  obtain ⟨ms, h1, h2, h3⟩ := h.f
  exact ⟨ms, h1, h2.weak hG, fun m hm => ⟨(h3 m hm).1.weak hG, (h3 m hm).2⟩⟩
theorem DM.far {G G' : Nat → Prop} {w w' : World} {D : DD} {V : DVs} (h : DM G w D V) (hs : w.heap.size ≤ w'.heap.size) (hb : ∀ b, b < w.heap.size → G b → G' b ∧ w'.heap[b]? = w.heap[b]?) : DM G' w' D V := by
  refine ⟨h.n.far hs hb, h.l.far hs hb, h.p.far hs hb, ?_⟩
  obtain ⟨ms, h1, h2, h3⟩ := h.f
  exact ⟨ms, h1, h2.far hs hb, fun m hm => ⟨(h3 m hm).1.far hs hb, (h3 m hm).2⟩⟩
/-- The blocks that a call may name behind it. -/
def Gn (G : Nat → Prop) (w : World) : Nat → Prop := fun b => G b ∨ w.heap.size ≤ b
def Gb (G : Nat → Prop) (w : World) (n : Nat) : Nat → Prop := fun b => (G b ∧ b < w.heap.size) ∨ n ≤ b
theorem own_gb {G : Nat → Prop} {w w' : World} {base k n : Nat} {t : TypeId} {v : Value} {rows : List (List Value)} (h : OwK w' base t k v rows) (hb : n ≤ base) : RdK (Gb G w n) w' k v rows := h.rd.weak (fun b _ hv => .inr (Nat.le_trans hb (h.lt b hv).1))
theorem DM.gb {G : Nat → Prop} {w : World} {D : DD} {V : DVs} (h : DM G w D V) (n : Nat) : DM (Gb G w n) w D V := h.weak (fun _ hb hG => .inl ⟨hG, hb⟩)
theorem below_row {B g : Nat} {w0 w : World} (hb : Below B w0 w) (hBg : B ≤ g) (cs : Array Value) : Below B w0 (w.setRow g cs) := hb.trans ⟨rfl, rfl, rfl, by simp [World.setRow], fun k hk => setRow_other w g k cs (by omega)⟩
/-- The result's cell is none of the lists'. -/
theorem DM.row {G : Nat → Prop} {w w' : World} {n g : Nat} {D : DD} {V : DVs} (h : DM (Gb G w n) w' D V) (h1 : w.heap.size ≤ g) (h2 : g < n) (cs : Array Value) : DM (Gn G w) (w'.setRow g cs) D V :=
  h.far (by simp [World.setRow]) (fun b _ hG => ⟨hG.elim (fun h => .inl h.1) (fun h => .inr (by omega)), setRow_other _ _ _ _ (by rcases hG with h | h <;> omega)⟩)
theorem OwK.form3 {w : World} {base : Nat} {t : TypeId} {k : Nat} {v : Value} {rows : List (List Value)} (h : OwK w base t k v rows) : ∃ a n c, v = .slice a n c := by
  obtain ⟨a, c, h⟩ := h.form
  exact ⟨a, _, c, h⟩
theorem own_gn {G : Nat → Prop} {w w' : World} {base k : Nat} {t : TypeId} {v : Value} {rows : List (List Value)} (h : OwK w' base t k v rows) (hb : w.heap.size ≤ base) : RdK (Gn G w) w' k v rows := h.rd.weak (fun b _ hv => .inr (Nat.le_trans hb (h.lt b hv).1))
set_option maxHeartbeats 4000000 in
set_option maxRecDepth 100000 in
theorem named_any {G : Nat → Prop} (D : DD) (V : DVs) (c : PnC) (w : World) (h : DM G w D V) (hs : Srt D.names) (hl : D.names.length ≤ 90000) (hpl : D.pend.length ≤ 90000) :
    Calls Tryz.prog 48 #[.agg #[V.n, V.l, V.p, V.f, .int .i64 D.quota, .slice none 0 0, .int .i64 D.offAt, .int .i64 D.count, .bool D.off], .agg #[.string c.path, .string c.frm, .int .i64 (c.file : Nat)]] w fun e w' => ∃ V', e = .returned (.agg #[V'.n, V'.l, V'.p, V'.f, .int .i64 (namedF D c).quota, .slice none 0 0, .int .i64 (namedF D c).offAt, .int .i64 (namedF D c).count, .bool (namedF D c).off]) ∧ DM (Gn G w) w' (namedF D c) V' ∧ Below w.heap.size w w' := by
  obtain ⟨i0, z0, hi, hz, hsz, hbb, hcc⟩ := infoPn
  obtain ⟨w1, w2, w3, hw1, hw2, hw3, hb13, l1, l2, l3, x1, x2, x3⟩ := boxes3 w [V.n, V.l, V.p, V.f, .int .i64 D.quota, .slice none 0 0, .int .i64 D.offAt, .int .i64 D.count, .bool D.off] [.string c.path, .string c.frm, .int .i64 (c.file : Nat)] [.slice none 0 0, .slice none 0 0, .slice none 0 0, .slice none 0 0, .int .i64 0, .slice none 0 0, .int .i64 0, .int .i64 0, .bool false] 36 76 36
  have KB3 := Kept.mk hb13
  have KH := Kept.mk h
  have KC := Kept.mk (change_any V.n D.names c w3 (h.n.later hb13) hs hl)
  have KD : Kept (∀ (W : World) (vn vp : Value), Below w.heap.size w W → RdNm (Gb G w w3.heap.size) W vn (chgF D.names c) → RdPn (Gb G w w3.heap.size) W vp (D.pend ++ [c]) → DM (Gb G w w3.heap.size) W (namedF D c) ⟨vn, V.l, vp, V.f⟩) := ⟨fun W vn vp hW h1 h2 => by
    have hh := (h.gb w3.heap.size).later hW
    exact ⟨h1, hh.l, h2, hh.f⟩⟩
  obtain ⟨g, hgw⟩ : ∃ g, w.heap.size = g := ⟨_, rfl⟩
  obtain ⟨g2, hgw2⟩ : ∃ g2, w1.heap.size = g2 := ⟨_, rfl⟩
  obtain ⟨g4, hgw4⟩ : ∃ g4, w2.heap.size = g4 := ⟨_, rfl⟩
  rw [hgw] at x1
  rw [hgw2] at x2
  rw [hgw4] at x3
  have Kg : Kept (w.heap.size = g ∧ g < g2 ∧ g2 < g4 ∧ g4 < w3.heap.size) := ⟨by omega⟩
  have c0 := x1.cell 0 _ rfl
  have K1 := Kept.mk x1
  have K2 := Kept.mk x2
  have K4 := Kept.mk x3
  have KR2 := Kept.mk x2.range
  have hpl2 : D.pend.length ≤ 90000 := hpl
  obtain ⟨cp, cf, cn⟩ := c
  simp only at hw2 K2 KR2 KC ⊢
  clear h hs hl hb13 l1 l2 l3 x1 x2 x3
  go_enter Tryz.func48, Tryz.ntmps48
  go_wp2_with (refine wpList_load_mid rfl 76 _ rfl g2 0 rfl _ _ KR2.out Tryz.underlying76 rfl infoPn1 ?_)
  refine Calls.mono KC.out (fun e w4 hp => ?_)
  obtain ⟨vn, rfl, hon, hb4⟩ := hp
  obtain ⟨na, nn, nc, rfl⟩ := hon.form3
  have Kgs : Kept (w3.heap.size ≤ w4.heap.size) := ⟨hb4.size⟩
  have y1 := K1.out.below hb4
  have f0 := y1.frozen 0
  have KB4 : Kept (Below w.heap.size w w4) := ⟨KB3.out.trans (hb4.mono KB3.out.size)⟩
  have K4a := Kept.mk (K4.out.below hb4)
  have K2a := Kept.mk (K2.out.below hb4)
  have K1a := Kept.mk y1
  have c0 := y1.cell 0 _ rfl
  have KN4 := Kept.mk hon
  clear hb4 hon y1 KC KR2 K1 K2 K4 hw1 hw2 hw3
  obtain ⟨w5, hw5⟩ : ∃ w5, w4.setCell ⟨g, 0, none⟩ (Value.slice na nn nc) = w5 := ⟨_, rfl⟩
  have hs5 : w5.heap.size = w4.heap.size := by rw [← hw5]; simp [World.setCell]
  have KB5 : Kept (Below w.heap.size w w5) := ⟨by rw [← hw5]; exact KB4.out.setCell (p := ⟨g, 0, none⟩) (by show w.heap.size ≤ g; have := Kg.out; omega) (Value.slice na nn nc)⟩
  have K1b : Kept (Bk w5 g 36 [(Value.slice na nn nc), V.l, V.p, V.f, .int .i64 D.quota, .slice none 0 0, .int .i64 D.offAt, .int .i64 D.count, .bool D.off]) := ⟨by rw [← hw5]; exact K1a.out.set 0 (Value.slice na nn nc)⟩
  have K2b := Kept.mk (K2a.out.store (i := g) (j := 0) (u := (Value.slice na nn nc)) (by have := Kg.out; omega))
  have K4b := Kept.mk (K4a.out.store (i := g) (j := 0) (u := (Value.slice na nn nc)) (by have := Kg.out; omega))
  have Kq : Kept (∀ q, (Value.slice na nn nc).ownBlock = some q → q < w4.heap.size) := ⟨fun q hq => (KN4.out.lt q hq).2⟩
  have KN5 : Kept (OwN w5 w3.heap.size (Value.slice na nn nc) (chgF D.names ⟨cp, cf, cn⟩)) := ⟨KN4.out.far (fun q hq => by
    rw [← hw5]
    exact Below.heap_setCell w4 _ (Value.slice na nn nc) q (by have := (KN4.out.lt q hq).1; have := Kg.out; show q ≠ g; omega))⟩
  rw [hw5] at K2b K4b
  have p2 := K1b.out.cell 2 _ rfl
  have hs5' := Kept.mk hs5
  have KO := Kept.mk (OwK.nil w5 w5.heap.size 76 3)
  have KP := Kept.mk (KH.out.p.later KB5.out)
  have hlm : ([] : List (List Value)).length + (D.pend.map pnC).length ≤ 1000000 := by simp; omega
  clear hs5 K1a K2a K4a KN4
  go_upto_region 4 with (at_builtin; go_loud (refine wpList_plain rfl (fun K hK => wp_append_KK _ _ 32 76 rfl 3 40 i0 z0 Tryz.underlying32 hi hz hsz hbb hcc (by decide) (by decide) w5.heap.size _ [] rfl KO.out _ (D.pend.map pnC) rfl KP.out (pnC_len _) (pnC_ones _) hlm (Nat.le_refl _) (fun v6 w6 o6 g6 => hK _ _ ?_)); have KB6 := Kept.mk (KB5.out.grown g6 (by have := KB5.out.size; omega) (by intro k hk; cases hk)); have KO6 := Kept.mk o6; have K1c := Kept.mk (K1b.out.grow g6 (by intro e; cases e)); have K2c := Kept.mk (K2b.out.grow g6 (by intro e; cases e)); have K4c := Kept.mk (K4b.out.grow g6 (by intro e; cases e)); have Ks6 := Kept.mk g6.size; have KN6 : Kept (OwN w6 w3.heap.size (Value.slice na nn nc) (chgF D.names ⟨cp, cf, cn⟩)) := ⟨KN5.out.later (Below.grown (Below.refl _ _) g6 (Nat.le_refl _) (by intro k hk; cases hk))⟩; clear o6 g6))
  clear p2 hlm KP K1b K2b K4b KN5 hw5 c0 f0
  obtain ⟨w7, hw7, hb7, hs7, d0, d1, d2⟩ := pn_box w6 cp cf cn
  have KR2 := Kept.mk K2c.out.range
  have KRx : Kept (w7.rangeAt w6.heap.size 0 (pnC ⟨cp, cf, cn⟩)) := ⟨fun j u hu => by
    rw [← hw7, Nat.zero_add]
    exact alloc_cell _ _ _ _ _ (by simpa [pnC] using hu)⟩
  have KB7 : Kept (Below w.heap.size w w7) := ⟨KB6.out.trans (hb7.mono KB6.out.size)⟩
  have K1d := Kept.mk (K1c.out.below hb7)
  have K4d := Kept.mk (K4c.out.below hb7)
  have KN7 : Kept (OwN w7 w3.heap.size (Value.slice na nn nc) (chgF D.names ⟨cp, cf, cn⟩)) := ⟨KN6.out.later hb7⟩
  have KO7 := Kept.mk (KO6.out.later hb7)
  have Ks7 := Kept.mk hb7.size
  have hlm : (([] : List (List Value)) ++ D.pend.map pnC).length ≤ 1000000 := by simp; omega
  clear hb7 hs7 d0 d1 d2 K1c K2c K4c KN6
  go_upto_region 5 with (first | (refine wpList_load_mid rfl 76 _ rfl g2 0 rfl _ _ KR2.out Tryz.underlying76 rfl infoPn1 ?_) | (at_builtin; go_loud (refine wpList_plain rfl (fun K hK => wp_append_K _ _ 32 76 rfl 3 40 i0 z0 Tryz.underlying32 hi hz hsz hbb hcc (by decide) (by decide) w5.heap.size v6 _ rfl KO7.out (pnC ⟨cp, cf, cn⟩) rfl (fun u hu => pnC_ones [⟨cp, cf, cn⟩] _ (List.mem_map.2 ⟨_, List.mem_singleton.2 rfl, rfl⟩) u hu) w6.heap.size 1 rfl KRx.out hlm (by have := Ks6.out; have := Ks7.out; omega) (fun v8 w8 o8 g8 => hK _ _ ?_)); obtain ⟨pa, pn, pc, rfl⟩ := o8.form3; have hfar := Kept.mk (fun q hq => (KO7.out.lt q hq).1); have KB8 := Kept.mk (KB7.out.grown g8 KB7.out.size (fun q hq => by have := hfar.out q hq; have := KB5.out.size; omega)); have KO8 := Kept.mk o8; have K1e := Kept.mk (K1d.out.grow g8 (by intro e; have := hfar.out _ e; have := hs5'.out; have := Kgs.out; have := Kg.out; omega)); have K4e := Kept.mk (K4d.out.grow g8 (by intro e; have := hfar.out _ e; have := hs5'.out; have := Kgs.out; have := Kg.out; omega)); have KN8 : Kept (OwN w8 w3.heap.size (Value.slice na nn nc) (chgF D.names ⟨cp, cf, cn⟩)) := ⟨KN7.out.far (fun q hq => g8.block q (KN7.out.lt q hq).2 (fun e => by have := hfar.out q e.symm; have := Kq.out q hq; have := hs5'.out; omega))⟩; have f8 := K1e.out.frozen 2; have f9 := K1e.out.cell 2 _ rfl; clear o8 g8)))
  clear KO7 K1d K4d KN7 KR2 KRx KO6
  obtain ⟨w9, hw9⟩ : ∃ w9, w8.setCell ⟨g, 2, none⟩ (Value.slice pa pn pc) = w9 := ⟨_, rfl⟩
  have KB9 : Kept (Below w.heap.size w w9) := ⟨by rw [← hw9]; exact KB8.out.setCell (p := ⟨g, 2, none⟩) (by show w.heap.size ≤ g; have := Kg.out; omega) (Value.slice pa pn pc)⟩
  have K1f : Kept (Bk w9 g 36 [(Value.slice na nn nc), V.l, (Value.slice pa pn pc), V.f, .int .i64 D.quota, .slice none 0 0, .int .i64 D.offAt, .int .i64 D.count, .bool D.off]) := ⟨by rw [← hw9]; exact K1e.out.set 2 (Value.slice pa pn pc)⟩
  have K4f : Kept (Bk w9 g4 36 [.slice none 0 0, .slice none 0 0, .slice none 0 0, .slice none 0 0, .int .i64 0, .slice none 0 0, .int .i64 0, .int .i64 0, .bool false]) := ⟨by rw [← hw9]; exact K4e.out.store (by have := Kg.out; omega)⟩
  have hlt8 := Kept.mk (And.intro KB7.out.size Ks6.out)
  have KN9 : Kept (OwN w9 w3.heap.size (Value.slice na nn nc) (chgF D.names ⟨cp, cf, cn⟩)) := ⟨KN8.out.far (fun q hq => by
    rw [← hw9]
    exact Below.heap_setCell w8 _ (Value.slice pa pn pc) q (by have := (KN8.out.lt q hq).1; have := Kg.out; show q ≠ g; omega))⟩
  have KO9 : Kept (OwPn w9 w5.heap.size (Value.slice pa pn pc) (D.pend ++ [⟨cp, cf, cn⟩])) := ⟨by
    have h1 := KO8.out.far (w' := w9) (fun q hq => by
      rw [← hw9]
      exact Below.heap_setCell w8 _ (Value.slice pa pn pc) q (by have := (KO8.out.lt q hq).1; have := hs5'.out; have := Kgs.out; have := Kg.out; show q ≠ g; omega))
    simpa [OwPn] using h1⟩
  have KR1 := Kept.mk K1f.out.range
  have KE := Kept.mk (KD.out w9 (Value.slice na nn nc) (Value.slice pa pn pc) KB9.out (own_gb KN9.out (Nat.le_refl _)) (own_gb KO9.out (by have := hs5'.out; have := Kgs.out; omega)))
  rw [hw9]
  clear hw9 KB8 KO8 K1e K4e KN8 f8 f9 KN9 KO9 KD
  obtain ⟨wz, hwz⟩ : ∃ wz, w9.setRow g4 #[.slice na nn nc, V.l, .slice pa pn pc, V.f, .int .i64 D.quota, .slice none 0 0, .int .i64 D.offAt, .int .i64 D.count, .bool D.off] = wz := ⟨_, rfl⟩
  have Krow : Kept (wz.heap[g4]? = some (.cells #[.slice na nn nc, V.l, .slice pa pn pc, V.f, .int .i64 D.quota, .slice none 0 0, .int .i64 D.offAt, .int .i64 D.count, .bool D.off] 36 (0, 0))) := ⟨by rw [← hwz]; exact setRow_heap w9 g4 _ _ _ _ K4f.out⟩
  have KBz : Kept (Below w.heap.size w wz) := ⟨by rw [← hwz]; exact below_row KB9.out (by have := Kg.out; omega) _⟩
  have KEz : Kept (DM (Gn G w) wz (namedF D ⟨cp, cf, cn⟩) ⟨(Value.slice na nn nc), V.l, (Value.slice pa pn pc), V.f⟩) := ⟨by rw [← hwz]; exact KE.out.row (by have := Kg.out; omega) (by have := Kg.out; omega) _⟩
  have KVf : Kept (∃ a n c, V.f = .slice a n c) := ⟨by obtain ⟨ms, -, ⟨a, c, h1, -⟩, -⟩ := KH.out.f; exact ⟨a, _, c, h1⟩⟩
  have hone : Kept (#[.slice na nn nc, V.l, .slice pa pn pc, V.f, .int .i64 D.quota, .slice none 0 0, .int .i64 D.offAt, .int .i64 D.count, .bool D.off].all (·.oneCell') = true) := ⟨by
    obtain ⟨a1, c1, e1, -⟩ := KE.out.n
    obtain ⟨a2, c2, e2, -⟩ := KE.out.l
    obtain ⟨a3, c3, e3, -⟩ := KE.out.p
    obtain ⟨ms, -, ⟨a4, c4, e4, -⟩, -⟩ := KE.out.f
    simp only at e1 e2 e3 e4
    rw [e1, e2, e3, e4]
    rw [List.all_toArray]
    rfl⟩
  go_wp2_with (first | (go_loud (refine wpList_load_mid rfl 36 _ rfl g 0 rfl _ _ KR1.out Tryz.underlying36 rfl infoDisk ?_)) | (refine BigFrame.wpList_want rfl (fun K hK => wp_store_row 36 _ _ rfl g4 #[.slice na nn nc, V.l, .slice pa pn pc, V.f, .int .i64 D.quota, .slice none 0 0, .int .i64 D.offAt, .int .i64 D.count, .bool D.off] rfl rfl 36 _ K4f.out infoDisk rfl hone.out (hK _ _ ?_)); rw [hwz]))
  refine bodyPost_ret (results_row1 rfl _ _ g4 36 #[.slice na nn nc, V.l, .slice pa pn pc, V.f, .int .i64 D.quota, .slice none 0 0, .int .i64 D.offAt, .int .i64 D.count, .bool D.off] (0, 0) _ rfl Krow.out Tryz.underlying36 rfl infoDisk) rfl ?_
  exact ⟨⟨(Value.slice na nn nc), V.l, (Value.slice pa pn pc), V.f⟩, rfl, KEz.out, KBz.out⟩
end Go.Proofs.YtegdadkejheagaaGreatDoor
