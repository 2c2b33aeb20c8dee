/-
  The document's made: kind 6.
-/
import Derived.Test.YtegdadkejheagaaGreatDoorG12
namespace Go.Proofs.YtegdadkejheagaaGreatDoor
open Go.RowKit Go.WideMaps Go.Maps

theorem RdK.store {G : Nat → Prop} {w W : World} {n g k : Nat} {v : Value} {rows : List (List Value)} (h : RdK (Gb G w n) W k v rows) (h1 : w.heap.size ≤ g) (h2 : g < n) (j : Nat) (u : Value) : RdK (Gb G w n) (W.setCell ⟨g, j, none⟩ u) k v rows :=
  h.far (by simp [World.setCell]) (fun b _ hG => ⟨hG, Below.heap_setCell W _ u b (by show b ≠ g; rcases hG with hG | hG <;> omega)⟩)
theorem own_ne {w : World} {b1 b2 k1 k2 : Nat} {t1 t2 : TypeId} {v1 v2 : Value} {r1 r2 : List (List Value)} (h1 : OwK w b1 t1 k1 v1 r1) (h2 : OwK w b2 t2 k2 v2 r2) (hne : t1 ≠ t2) {g : Nat} (hg : v1.ownBlock = some g) : v2.ownBlock ≠ some g := fun hg2 => by
  obtain ⟨c1, e1⟩ := ownsRow_blk h1.1 hg
  obtain ⟨c2, e2⟩ := ownsRow_blk h2.1 hg2
  exact type_ne e1 e2 hne rfl
/-- The names that last: as they came in, or the call's own. -/
def LL (G : Nat → Prop) (w : World) (n : Nat) (l0 : Value) (L0 : NL) (W : World) (v : Value) (l : NL) : Prop := (v = l0 ∧ l = L0 ∧ RdNm (Gb G w n) W v l) ∨ OwN W n v l
theorem LL.rd {G : Nat → Prop} {w W : World} {n : Nat} {l0 v : Value} {L0 l : NL} (h : LL G w n l0 L0 W v l) : RdNm (Gb G w n) W v l := by
  rcases h with ⟨-, -, h⟩ | h
  · exact h
  · exact own_gb h (Nat.le_refl _)
theorem LL.later {G : Nat → Prop} {w W W' : World} {n : Nat} {l0 v : Value} {L0 l : NL} (h : LL G w n l0 L0 W v l) (hb : Below W.heap.size W W') : LL G w n l0 L0 W' v l := by
  rcases h with ⟨h1, h2, h3⟩ | h
  · exact .inl ⟨h1, h2, h3.later hb⟩
  · exact .inr (h.later hb)
theorem lastF_snoc (q : ByteArray) (l : NL) (P : List PnC) (c : PnC) : lastF q l (P ++ [c]) = if folF c.path = q then chgF (lastF q l P) c else lastF q l P := by
  unfold lastF
  rw [List.filter_append, List.foldl_append]
  by_cases h : folF c.path = q
  · rw [if_pos h]
    simp [h]
  · rw [if_neg h]
    simp [h]
theorem rest_snoc (q : ByteArray) (P : List PnC) (c : PnC) : ((P ++ [c]).filter fun x => !decide (folF x.path = q)) = (P.filter fun x => !decide (folF x.path = q)) ++ if folF c.path = q then [] else [c] := by
  rw [List.filter_append]
  by_cases h : folF c.path = q <;> simp [h]
theorem LL.form {G : Nat → Prop} {w W : World} {n : Nat} {l0 v : Value} {L0 l : NL} (h : LL G w n l0 L0 W v l) : ∃ a m c, v = .slice a m c := by
  obtain ⟨a, c, h1, -⟩ := h.rd
  exact ⟨a, _, c, h1⟩
set_option maxHeartbeats 4000000 in
set_option maxRecDepth 100000 in
theorem made6_any {G S : Nat → Prop} (D : DD) (V : DVs) (pt pto : ByteArray) (v : Value) (da : List Int) (w : World) (h : DM G w D V) {k : Nat} (hD : DL D k) (hk : k ≤ 1000) (hs : Srt D.lasting) (hps : pt.size ≤ maxLen) (hv : Rd .u8 S w v da) (hA : AllB da) :
    Calls Tryz.prog 17 #[.agg #[V.n, V.l, V.p, V.f, .int .i64 D.quota, .slice none 0 0, .int .i64 D.offAt, .int .i64 D.count, .bool D.off], .agg #[.int .i64 6, .string pt, .string pto, v]] w fun e w' => ∃ V', e = .returned (.agg #[V'.n, V'.l, V'.p, V'.f, .int .i64 (madeF D ⟨6, pt, pto, da⟩).quota, .slice none 0 0, .int .i64 (madeF D ⟨6, pt, pto, da⟩).offAt, .int .i64 (madeF D ⟨6, pt, pto, da⟩).count, .bool (madeF D ⟨6, pt, pto, da⟩).off]) ∧ DM (Gn G w) w' (madeF D ⟨6, pt, pto, da⟩) V' ∧ Below w.heap.size w w' := by
  obtain ⟨D9, hD9⟩ : ∃ D9 : DD, { D with lasting := lastF pt D.lasting D.pend, pend := D.pend.filter fun x => !decide (folF x.path = pt) } = D9 := ⟨_, rfl⟩
  have KD9 := Kept.mk hD9
  obtain ⟨i0, z0, hi, hz, hsz, hbb, hcc⟩ := infoPn
  obtain ⟨n0, l0, p0, f0⟩ := V
  obtain ⟨pa, pc, hpv, hplc, hprd⟩ := h.p.openMap
  simp only at hpv
  subst hpv
  simp only
  have KPr := Kept.mk hprd
  have KPs := Kept.mk hD.p
  have KLl := Kept.mk (Nat.le_trans hD.l hk)
  have Kpt := Kept.mk hps
  clear hprd hps
  have KM : Kept (madeF D ⟨6, pt, pto, da⟩ = D9) := ⟨by rw [← hD9]; unfold madeF; rw [if_neg (by show ¬ (6 : Int) = 1; decide), if_neg (by show ¬ (6 : Int) = 2; decide), if_neg (by show ¬ (6 : Int) = 3; decide), if_neg (by show ¬ (6 : Int) = 4; decide), if_neg (by show ¬ (6 : Int) = 5; decide)]⟩
  obtain ⟨va, vc, rfl, -, -, -⟩ := hv.form
  obtain ⟨w1, w2, w3, hw1, hw2, hw3, hb13, l1, l2, l3, x1, x2, x3⟩ := boxes3 w [n0, l0, (.slice pa D.pend.length pc), f0, .int .i64 D.quota, .slice none 0 0, .int .i64 D.offAt, .int .i64 D.count, .bool D.off] [.int .i64 6, .string pt, .string pto, .slice va da.length vc] [.slice none 0 0, .slice none 0 0, .slice none 0 0, .slice none 0 0, .int .i64 0, .slice none 0 0, .int .i64 0, .int .i64 0, .bool false] 36 38 36
  have KB3 := Kept.mk hb13
  have KH := Kept.mk h
  have KHg := Kept.mk (h.gb w3.heap.size)
  have hbn := Nat.le_trans hD.n hk
  have hbp := Nat.le_trans (Nat.le_trans (Nat.le_add_left _ _) hD.l) hk
  have hbf := Nat.le_trans hD.f hk
  have KAt := Kept.mk (at_any n0 D.names pt w3 (h.n.later hb13) (by omega))
  obtain ⟨g, hgw⟩ : ∃ g, w.heap.size = g := ⟨_, rfl⟩
  obtain ⟨g2, hgw2⟩ : ∃ g2, w1.heap.size = g2 := ⟨_, rfl⟩
  obtain ⟨g4, hgw4⟩ : ∃ g4, w2.heap.size = g4 := ⟨_, rfl⟩
  rw [hgw] at x1
  rw [hgw2] at x2
  rw [hgw4] at x3
  have Kg : Kept (w.heap.size = g ∧ g < g2 ∧ g2 < g4 ∧ g4 < w3.heap.size) := ⟨by omega⟩
  have c0 := x1.cell 0 _ rfl
  have d1 := x2.cell 1 _ rfl
  have KK := Kept.mk (And.intro x1 (And.intro x2 x3))
  have Kvd := Kept.mk (And.intro hv hA)
  have Ks := Kept.mk hs
  have Kdf := Kept.mk hD.x
  clear hD9
  clear h hs hb13 l1 l2 l3 x1 x2 x3 hv hA hD
  obtain ⟨F, hF⟩ : ∃ F, nmF D.names pt = F := ⟨_, rfl⟩
  rw [hF] at KAt
  try rw [hF] at KM
  have KFe := Kept.mk hF
  clear hF
  go_enter Tryz.func17, Tryz.ntmps17
  go_wp2_with fail
  refine Calls.mono KAt.out (fun e w4 hp => ?_)
  obtain ⟨rfl, hb4⟩ := hp
  have KB4 : Kept (Below w.heap.size w w4) := ⟨KB3.out.trans (hb4.mono KB3.out.size)⟩
  have KK4 := Kept.mk (And.intro (KK.out.1.below hb4) (And.intro (KK.out.2.1.below hb4) (KK.out.2.2.below hb4)))
  have Ks4 : Kept (w3.heap.size ≤ w4.heap.size) := ⟨hb4.size⟩
  clear hb4 KAt c0 d1 hw1 hw2 hw3 KK
  have d0 := KK4.out.2.1.cell 0 _ rfl
  have d1 := KK4.out.2.1.cell 1 _ rfl
  have d2 := KK4.out.2.1.cell 2 _ rfl
  have d3 := KK4.out.2.1.cell 3 _ rfl
  have KR := Kept.mk KK4.out.1.range
  have c2 := KK4.out.1.cell 2 _ rfl
  clear KR d1 d2 d3
  have KL4 : Kept (LL G w w3.heap.size l0 D.lasting w4 l0 (lastF pt D.lasting (D.pend.take 0))) := ⟨.inl ⟨rfl, rfl, KHg.out.l.later KB4.out⟩⟩
  have KGr : Kept (∀ (W' Wz : World) (v : Value) (l : NL) (r : Option Nat), LL G w w3.heap.size l0 D.lasting Wz v l → Below w.heap.size w W' → (∀ q, OwN Wz w3.heap.size v l → v.ownBlock = some q → r ≠ some q) → Wz.grownBy W' r → LL G w w3.heap.size l0 D.lasting W' v l) := ⟨fun W' Wz v l r hl hr hne hg => by
    rcases hl with ⟨h1, h2, h3⟩ | h
    · subst h1 h2
      exact .inl ⟨rfl, rfl, KHg.out.l.later hr⟩
    · exact .inr (h.far (fun q hq => hg.block q (h.lt q hq).2 (fun e => hne q h hq e.symm)))⟩
  have KLn : Kept (∀ k, (lastF pt D.lasting (D.pend.take k)).length ≤ 1000 ∧ Srt (lastF pt D.lasting (D.pend.take k))) := ⟨fun k => by
    have h1 := fold_len ((D.pend.take k).filter fun c => decide (folF c.path = pt)) D.lasting Ks.out
    have h2 : ((D.pend.take k).filter fun c => decide (folF c.path = pt)).length ≤ D.pend.length := Nat.le_trans (List.length_filter_le _ _) (by rw [List.length_take]; omega)
    have h3 := KLl.out
    exact ⟨by unfold lastF; omega, h1.2⟩⟩
  go_wp2
  go_loopw [6, 103] (fun rv kv wr => ∃ (k : Nat) (vl : Value), k ≤ D.pend.length ∧ kv = .int .i64 k ∧ OwPn wr w4.heap.size rv ((D.pend.take k).filter fun x => !decide (folF x.path = pt)) ∧ LL G w w3.heap.size l0 D.lasting wr vl (lastF pt D.lasting (D.pend.take k)) ∧ (Bk wr g 36 [n0, vl, (.slice pa D.pend.length pc), f0, .int .i64 D.quota, .slice none 0 0, .int .i64 D.offAt, .int .i64 D.count, .bool D.off] ∧ Bk wr g2 38 [.int .i64 6, .string pt, .string pto, .slice va da.length vc] ∧ Bk wr g4 36 [.slice none 0 0, .slice none 0 0, .slice none 0 0, .slice none 0 0, .int .i64 0, .slice none 0 0, .int .i64 0, .int .i64 0, .bool false]) ∧ Below w.heap.size w wr ∧ w4.heap.size ≤ wr.heap.size) (fun _ kv _ => D.pend.length - (intOf kv).toNat)
  case atStart => exact ⟨0, l0, Nat.zero_le _, rfl, OwK.nil _ _ _ _, KL4.out, KK4.out, KB4.out, Nat.le_refl _⟩
  case round =>
    obtain ⟨k, vl, hk, rfl, how, hll, hkk, hbel, hsz4⟩ := hrel
    clear KL4 KK4
    have KBr := Kept.mk hbel
    have KO := Kept.mk how
    have KL := Kept.mk hll
    have KK := Kept.mk hkk
    have Ksr := Kept.mk hsz4
    obtain ⟨la, ln, lc, rfl⟩ := hll.form
    obtain ⟨ra, rn, rc, rfl⟩ := how.form3
    clear how hll hkk hbel hsz4
    by_cases hlt : k < D.pend.length
    · have hki : (k : Int) < (D.pend.length : Int) := by omega
      obtain ⟨b, off, rfl, hbl, -, hrg⟩ := KPr.out (by omega)
      obtain ⟨x, hx⟩ : ∃ x, D.pend[k]'hlt = x := ⟨_, rfl⟩
      have hrow : wr.rangeAt b (off + k * 3) (pnC x) := fun j u hu => by
        rw [KBr.out.cell (p := ⟨b, off + k * 3 + j, none⟩) hbl]
        have h2 := hrg k hlt j u
        rw [hx] at h2
        exact h2 hu
      have hxs := KPs.out _ (List.getElem_mem hlt)
      rw [hx] at hxs
      have hst : D.pend.take (k + 1) = D.pend.take k ++ [x] := by rw [List.take_add_one, List.getElem?_eq_getElem hlt, hx]; rfl
      have KF1 := Kept.mk (lastF_snoc pt D.lasting (D.pend.take k) x)
      have KF2 := Kept.mk (rest_snoc pt (D.pend.take k) x)
      rw [← hst] at KF1 KF2
      have hlL := KLn.out k
      have e2 : IntKind.i64.wrap ((k : Int) + 1) = (k : Int) + 1 := wr64 (by omega) (by omega)
      obtain ⟨xp, xq, xf⟩ := x
      simp only at hxs KF1 KF2
      obtain ⟨wx, hwx, hbx, hsx, y0, y1, y2⟩ := pn_box wr xp xq xf
      have KBx : Kept (Below w.heap.size w wx) := ⟨KBr.out.trans (hbx.mono KBr.out.size)⟩
      have KOx := Kept.mk (KO.out.later hbx)
      have KLx := Kept.mk (KL.out.later hbx)
      have KKx := Kept.mk (And.intro (KK.out.1.below hbx) (And.intro (KK.out.2.1.below hbx) (KK.out.2.2.below hbx)))
      have K8 : Kept (Bk wx wr.heap.size 76 [.string xp, .string xq, .int .i64 (xf : Nat)]) := ⟨by rw [← hwx]; exact Bk.new wr _ _⟩
      have Ksx := Kept.mk hbx.size
      have hR := Kept.mk hrow
      unfold pnC at hR
      simp only at hR
      obtain ⟨g8, hgw8⟩ : ∃ g8, wr.heap.size = g8 := ⟨_, rfl⟩
      rw [hgw8] at K8
      have KcA : Kept (∀ W, CC wx W → W.cell? ⟨g8, 0, none⟩ = some (.string xp)) := ⟨fun W hW => (K8.out.below hW).cell 0 _ rfl⟩
      have KcB : Kept (∀ W, CC wx W → W.cell? ⟨g2, 1, none⟩ = some (.string pt)) := ⟨fun W hW => (KKx.out.2.1.below hW).cell 1 _ rfl⟩
      have KFo : Kept (∀ W, CC wx W → Calls Tryz.prog 29 #[.string xp] W fun e w'' => e = .returned (.string (folF xp)) ∧ CC wx w'') := ⟨fun W hW => (folder_any xp W (by omega)).mono fun e w'' h => ⟨h.1, hW.on h.2⟩⟩
      obtain ⟨Q1, hQ1⟩ : ∃ Q1, folF xp = Q1 := ⟨_, rfl⟩
      rw [hQ1] at KFo KF1 KF2
      have KQ : Kept ((Q1.toList == pt.toList) = decide (Q1 = pt)) := ⟨by
        by_cases e : Q1 = pt
        · rw [str_eqB e]; simpa using e
        · rw [str_ne_list e]; simpa using e⟩
      clear hrow hrg hx hst y0 y1 y2 hbx hsx KO KL KK hxs hQ1
      go_upto_region 22 with (first | (refine wpList_load_mid rfl 76 _ rfl b (off + k * 3) rfl _ _ hR.out Tryz.underlying76 rfl infoPn1 ?_) | (refine BigFrame.wpList_want rfl (fun K hK => wp_store_row 76 _ _ rfl wr.heap.size _ rfl rfl 76 _ (heap_alloc_new wr _) infoPn1 rfl rfl (hK _ _ ?_)); rw [World.setRow_alloc_new, hwx]))
      refine wp_region_quietC (C := CC wx) (by kernel_rfl) (by kernel_rfl) (Below.refl _ _).drew ?_
      go_big_quiet_step ((intro _; rfl))
      refine BigFrame.wpQuiet_want rfl (fun K hK => quiet_run (v := .string xp) (fun W hW => by have hcm := KcA.out W hW; go_simp) (hK _ ?_))
      clear hK K
      simp only [Act.put, List.setIfInBounds_toArray, List.set_cons_zero, List.set_cons_succ]
      go_big_quiet_step ((intro hCw; exact KFo.out _ hCw))
      go_big_quiet_step ((intro _; rfl))
      refine BigFrame.wpQuiet_want rfl (fun K hK => quiet_run (v := .string pt) (fun W hW => by have hcm := KcB.out W hW; go_simp) (hK _ ?_))
      clear hK K
      simp only [Act.put, List.setIfInBounds_toArray, List.set_cons_zero, List.set_cons_succ]
      refine BigFrame.wpQuiet_want rfl (fun K hK => quiet_run (v := .bool (Q1.toList == pt.toList)) (fun W hW => by go_simp) (hK _ ?_))
      clear hK K
      simp only [Act.put, List.setIfInBounds_toArray, List.set_cons_zero, List.set_cons_succ]
      refine wpQuiet_nil ?_
      intro wy hwy
      have hwy : Below wx.heap.size wx wy := hwy
      have KBy : Kept (Below w.heap.size w wy) := ⟨KBx.out.trans (hwy.mono KBx.out.size)⟩
      have KOy := Kept.mk (KOx.out.later hwy)
      have KLy := Kept.mk (KLx.out.later hwy)
      have KKy := Kept.mk (And.intro (KKx.out.1.below hwy) (And.intro (KKx.out.2.1.below hwy) (KKx.out.2.2.below hwy)))
      have KR8 := Kept.mk ((K8.out.below hwy).range)
      have Ksy := Kept.mk hwy.size
      clear hwy KOx KLx KKx K8 KcA KcB KFo hwx hR
      cases hE : (Q1.toList == pt.toList)
      · have KG1 : Kept (lastF pt D.lasting (D.pend.take (k + 1)) = lastF pt D.lasting (D.pend.take k) ∧ ((D.pend.take (k + 1)).filter fun x => !decide (folF x.path = pt)) = ((D.pend.take k).filter fun x => !decide (folF x.path = pt)) ++ [⟨xp, xq, xf⟩]) := ⟨by
          rw [KQ.out] at hE
          have hne : ¬ Q1 = pt := by simpa using hE
          exact ⟨by rw [KF1.out, if_neg hne], by rw [KF2.out, if_neg hne]⟩⟩
        obtain ⟨wz, hwz, hbz, hsz', z0', z1', z2'⟩ := pn_box wy xp xq xf
        have KRx : Kept (wz.rangeAt wy.heap.size 0 (pnC ⟨xp, xq, xf⟩)) := ⟨fun j u hu => by
          rw [← hwz, Nat.zero_add]
          exact alloc_cell _ _ _ _ _ (by simpa [pnC] using hu)⟩
        have KBz : Kept (Below w.heap.size w wz) := ⟨KBy.out.trans (hbz.mono KBy.out.size)⟩
        have KOz := Kept.mk (KOy.out.later hbz)
        have KLz := Kept.mk (KLy.out.later hbz)
        have KKz := Kept.mk (And.intro (KKy.out.1.below hbz) (And.intro (KKy.out.2.1.below hbz) (KKy.out.2.2.below hbz)))
        have Ksz := Kept.mk hbz.size
        have hlm : (((D.pend.take k).filter fun x => !decide (folF x.path = pt)).map pnC).length ≤ 1000000 := by
          rw [List.length_map]
          exact Nat.le_trans (List.length_filter_le _ _) (by rw [List.length_take]; omega)
        clear hbz hsz' z0' z1' z2' KOy KLy KKy KF1 KF2
        go_wp2_with (first | (refine wpList_load_mid rfl 76 _ rfl g8 0 rfl _ _ KR8.out Tryz.underlying76 rfl infoPn1 ?_) | (at_builtin; go_loud (refine wpList_plain rfl (fun K hK => wp_append_K _ _ 32 76 rfl 3 40 i0 z0 Tryz.underlying32 hi hz hsz hbb hcc (by decide) (by decide) w4.heap.size _ _ rfl KOz.out (pnC ⟨xp, xq, xf⟩) rfl (fun u hu => pnC_ones [⟨xp, xq, xf⟩] _ (List.mem_map.2 ⟨_, List.mem_singleton.2 rfl, rfl⟩) u hu) wy.heap.size 1 rfl KRx.out hlm (by have := Ksr.out; have := Ksx.out; have := Ksy.out; have := Ksz.out; omega) (fun v9 w9 o9 g9 => hK _ _ ?_)); have hfar := Kept.mk (fun q hq => (KOz.out.lt q hq).1); have KB9 := Kept.mk (KBz.out.grown g9 KBz.out.size (fun q hq => by have := hfar.out q hq; have := KB4.out.size; omega)); have KO9 := Kept.mk o9; have KK9 := Kept.mk (And.intro (KKz.out.1.grow g9 (by intro e; have := hfar.out _ e; have := Ks4.out; have := Kg.out; omega)) (And.intro (KKz.out.2.1.grow g9 (by intro e; have := hfar.out _ e; have := Ks4.out; have := Kg.out; omega)) (KKz.out.2.2.grow g9 (by intro e; have := hfar.out _ e; have := Ks4.out; have := Kg.out; omega)))); have KL9 : Kept (LL G w w3.heap.size l0 D.lasting w9 (.slice la ln lc) (lastF pt D.lasting (D.pend.take k))) := ⟨KGr.out w9 _ _ _ _ KLz.out KB9.out (fun q ho hq => own_ne ho KOz.out (by decide) hq) g9⟩; have Ks9 := Kept.mk g9.size; clear o9 g9)))
        go_roundw
        case rel => exact ⟨k + 1, .slice la ln lc, by omega, by go_num, by rw [KG1.out.2]; simpa [OwPn] using KO9.out, by rw [KG1.out.1]; exact KL9.out, KK9.out, KB9.out, by have := Ksr.out; have := Ksx.out; have := Ksy.out; have := Ksz.out; have := Ks9.out; omega⟩
        case measure => simp [intOf]; omega
      · have KG1 : Kept (lastF pt D.lasting (D.pend.take (k + 1)) = chgF (lastF pt D.lasting (D.pend.take k)) ⟨xp, xq, xf⟩ ∧ ((D.pend.take (k + 1)).filter fun x => !decide (folF x.path = pt)) = ((D.pend.take k).filter fun x => !decide (folF x.path = pt))) := ⟨by
          rw [KQ.out] at hE
          have he : Q1 = pt := by simpa using hE
          exact ⟨by rw [KF1.out, if_pos he], by rw [KF2.out, if_pos he, List.append_nil]⟩⟩
        have KC := Kept.mk (change_any (.slice la ln lc) _ ⟨xp, xq, xf⟩ wy KLy.out.rd hlL.2 (by omega))
        have y1 := KKy.out.1.cell 1 _ rfl
        clear KF1 KF2 hlL
        go_wp2_with (refine wpList_load_mid rfl 76 _ rfl g8 0 rfl _ _ KR8.out Tryz.underlying76 rfl infoPn1 ?_)
        refine Calls.mono KC.out (fun e w9 hp => ?_)
        obtain ⟨v9, rfl, ho9, hb9⟩ := hp
        obtain ⟨ma, mn, mc, rfl⟩ := ho9.form3
        have KB9 : Kept (Below w.heap.size w w9) := ⟨KBy.out.trans (hb9.mono KBy.out.size)⟩
        have KK9 := Kept.mk (And.intro (KKy.out.1.below hb9) (And.intro (KKy.out.2.1.below hb9) (KKy.out.2.2.below hb9)))
        have KO9 := Kept.mk (KOy.out.later hb9)
        have KN9 : Kept (OwN w9 w3.heap.size (.slice ma mn mc) (chgF (lastF pt D.lasting (D.pend.take k)) ⟨xp, xq, xf⟩)) := ⟨own_names_mono ho9 (by have := Ksr.out; have := Ksx.out; have := Ksy.out; have := Ks4.out; omega)⟩
        have Ks9 := Kept.mk hb9.size
        have y1 := KK9.out.1.cell 1 _ rfl
        have f1 := KK9.out.1.frozen 1
        clear ho9 hb9 KC KOy KLy KKy KR8
        obtain ⟨w10, hw10⟩ : ∃ w10, w9.setCell ⟨g, 1, none⟩ (Value.slice ma mn mc) = w10 := ⟨_, rfl⟩
        have KB10 : Kept (Below w.heap.size w w10) := ⟨by rw [← hw10]; exact KB9.out.setCell (p := ⟨g, 1, none⟩) (by show w.heap.size ≤ g; have := Kg.out; omega) _⟩
        have KK10 : Kept (Bk w10 g 36 [n0, .slice ma mn mc, .slice (some ⟨b, off, none⟩) D.pend.length pc, f0, .int .i64 D.quota, .slice none 0 0, .int .i64 D.offAt, .int .i64 D.count, .bool D.off] ∧ Bk w10 g2 38 [.int .i64 6, .string pt, .string pto, .slice va da.length vc] ∧ Bk w10 g4 36 [.slice none 0 0, .slice none 0 0, .slice none 0 0, .slice none 0 0, .int .i64 0, .slice none 0 0, .int .i64 0, .int .i64 0, .bool false]) := ⟨by
          rw [← hw10]
          exact ⟨KK9.out.1.set 1 _, KK9.out.2.1.store (by have := Kg.out; omega), KK9.out.2.2.store (by have := Kg.out; omega)⟩⟩
        have KO10 : Kept (OwPn w10 w4.heap.size (.slice ra rn rc) ((D.pend.take k).filter fun x => !decide (folF x.path = pt))) := ⟨KO9.out.far (fun q hq => by
          rw [← hw10]
          exact Below.heap_setCell w9 _ _ q (by have := (KO9.out.lt q hq).1; have := Ks4.out; have := Kg.out; show q ≠ g; omega))⟩
        have KN10 : Kept (OwN w10 w3.heap.size (.slice ma mn mc) (chgF (lastF pt D.lasting (D.pend.take k)) ⟨xp, xq, xf⟩)) := ⟨KN9.out.far (fun q hq => by
          rw [← hw10]
          exact Below.heap_setCell w9 _ _ q (by have := (KN9.out.lt q hq).1; have := Kg.out; show q ≠ g; omega))⟩
        have Ks10 : Kept (w9.heap.size = w10.heap.size) := ⟨by rw [← hw10]; simp [World.setCell]⟩
        go_wp2
        try rw [hw10]
        go_roundw
        case rel => exact ⟨k + 1, .slice ma mn mc, by omega, by go_num, by rw [KG1.out.2]; exact KO10.out, by rw [KG1.out.1]; exact .inr KN10.out, KK10.out, KB10.out, by have := Ksr.out; have := Ksx.out; have := Ksy.out; have := Ks9.out; have := Ks10.out; omega⟩
        case measure => simp [intOf]; omega
    · have hki : ¬ (k : Int) < (D.pend.length : Int) := by omega
      have het : D.pend.take k = D.pend := List.take_of_length_le (by omega)
      rw [het] at KO KL
      have y2 := KK.out.1.cell 2 _ rfl
      have f2 := KK.out.1.frozen 2
      obtain ⟨w10, hw10⟩ : ∃ w10, wr.setCell ⟨g, 2, none⟩ (Value.slice ra rn rc) = w10 := ⟨_, rfl⟩
      have KB10 : Kept (Below w.heap.size w w10) := ⟨by rw [← hw10]; exact KBr.out.setCell (p := ⟨g, 2, none⟩) (by show w.heap.size ≤ g; have := Kg.out; omega) _⟩
      have KK10 : Kept (Bk w10 g 36 [n0, .slice la ln lc, .slice ra rn rc, f0, .int .i64 D.quota, .slice none 0 0, .int .i64 D.offAt, .int .i64 D.count, .bool D.off] ∧ Bk w10 g4 36 [.slice none 0 0, .slice none 0 0, .slice none 0 0, .slice none 0 0, .int .i64 0, .slice none 0 0, .int .i64 0, .int .i64 0, .bool false]) := ⟨by
        rw [← hw10]
        exact ⟨KK.out.1.set 2 _, KK.out.2.2.store (by have := Kg.out; omega)⟩⟩
      have KO10 : Kept (OwPn w10 w4.heap.size (.slice ra rn rc) (D.pend.filter fun x => !decide (folF x.path = pt))) := ⟨KO.out.far (fun q hq => by
        rw [← hw10]
        exact Below.heap_setCell wr _ _ q (by have := (KO.out.lt q hq).1; have := Ks4.out; have := Kg.out; show q ≠ g; omega))⟩
      have KD10 : Kept (DM (Gb G w w3.heap.size) w10 D9 ⟨n0, .slice la ln lc, .slice ra rn rc, f0⟩) := ⟨by
        have hh := KHg.out.later KB10.out
        have hl := KL.out.rd.store (g := g) (by have := Kg.out; omega) (by have := Kg.out; omega) 2 (.slice ra rn rc)
        rw [hw10] at hl
        rw [← KD9.out]
        exact ⟨hh.n, hl, own_gb KO10.out Ks4.out, hh.f⟩⟩
      have KDe : Kept (D9.quota = D.quota ∧ D9.offAt = D.offAt ∧ D9.count = D.count ∧ D9.off = D.off) := ⟨by rw [← KD9.out]; exact ⟨rfl, rfl, rfl, rfl⟩⟩
      go_upto_region 27 with fail
      try rw [hw10]
      clear hw10 KK KO KL y2 f2 het
      have KR : Kept (w10.rangeAt g 0 [(DVs.mk n0 (.slice la ln lc) (.slice ra rn rc) f0).n, (DVs.mk n0 (.slice la ln lc) (.slice ra rn rc) f0).l, (DVs.mk n0 (.slice la ln lc) (.slice ra rn rc) f0).p, (DVs.mk n0 (.slice la ln lc) (.slice ra rn rc) f0).f, .int .i64 D9.quota, .slice none 0 0, .int .i64 D9.offAt, .int .i64 D9.count, .bool D9.off]) := ⟨by
        have := KK10.out.1.range
        rw [KDe.out.1, KDe.out.2.1, KDe.out.2.2.1, KDe.out.2.2.2]
        exact this⟩
      obtain ⟨V8, hV8⟩ : ∃ V8 : DVs, ⟨n0, .slice la ln lc, .slice ra rn rc, f0⟩ = V8 := ⟨_, rfl⟩
      rw [hV8] at KR KD10
      clear hV8
      obtain ⟨wz, hwz⟩ : ∃ wz, w10.setRow g4 #[V8.n, V8.l, V8.p, V8.f, .int .i64 D9.quota, .slice none 0 0, .int .i64 D9.offAt, .int .i64 D9.count, .bool D9.off] = wz := ⟨_, rfl⟩
      have Krow : Kept (wz.heap[g4]? = some (.cells #[V8.n, V8.l, V8.p, V8.f, .int .i64 D9.quota, .slice none 0 0, .int .i64 D9.offAt, .int .i64 D9.count, .bool D9.off] 36 (0, 0))) := ⟨by rw [← hwz]; exact setRow_heap w10 g4 _ _ _ _ KK10.out.2⟩
      have KBz : Kept (Below w.heap.size w wz) := ⟨by rw [← hwz]; exact below_row KB10.out (by have := Kg.out; omega) _⟩
      have KEz : Kept (DM (Gn G w) wz D9 V8) := ⟨by rw [← hwz]; exact KD10.out.row (by have := Kg.out; omega) (by have := Kg.out; omega) _⟩
      have hone := Kept.mk (dm_ones KD10.out D9.quota D9.offAt D9.count D9.off)
      have Kb4 := Kept.mk KK10.out.2
      go_wp2_with (first | (refine wpList_load_mid rfl 36 _ rfl g 0 rfl _ _ KR.out Tryz.underlying36 rfl infoDisk ?_) | (refine BigFrame.wpList_want rfl (fun K hK => wp_store_row 36 _ _ rfl g4 #[V8.n, V8.l, V8.p, V8.f, .int .i64 D9.quota, .slice none 0 0, .int .i64 D9.offAt, .int .i64 D9.count, .bool D9.off] rfl rfl 36 _ Kb4.out infoDisk rfl hone.out (hK _ _ ?_)); rw [hwz]))
      refine bodyPost_ret (results_row1 rfl _ _ g4 36 #[V8.n, V8.l, V8.p, V8.f, .int .i64 D9.quota, .slice none 0 0, .int .i64 D9.offAt, .int .i64 D9.count, .bool D9.off] (0, 0) _ rfl Krow.out Tryz.underlying36 rfl infoDisk) rfl ?_
      rw [KM.out]
      exact ⟨V8, rfl, KEz.out, by have := KBz.out; first | exact this | rwa [hgw] at this⟩
end Go.Proofs.YtegdadkejheagaaGreatDoor
