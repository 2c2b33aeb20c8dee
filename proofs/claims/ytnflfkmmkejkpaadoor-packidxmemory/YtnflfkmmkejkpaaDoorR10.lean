/-
  PackidxMemory's walk.
-/
import Derived.Test.YtnflfkmmkejkpaaDoorRF
namespace Go.Proofs.YtnflfkmmkejkpaaDoor
open Go.RowKit Go.Sort

theorem gb_set {w w' : World} {g : Nat} (h : w.grownBy w' (some g)) (i : Nat) (v : Value) : w.grownBy (w'.setCell ⟨g, i, none⟩ v) (some g) :=
  ⟨h.os, h.tape, h.output, by simpa using h.size, fun k hk hne => (Below.heap_setCell _ _ _ _ (fun e => hne (by simp only at e; rw [e]))).trans (h.block k hk hne)⟩
theorem gb_sets {w : World} {g : Nat} : ∀ (vs : List Value) (o : Nat) {w' : World}, w.grownBy w' (some g) → w.grownBy (w'.setCells g o vs) (some g)
  | [], _, _, h => h
  | v :: vs, o, _, h => gb_sets vs (o + 1) (gb_set h o v)
/-- A block of at least n rows of 34 cells. -/
def BlS (w : World) (g n : Nat) (e : TypeId) : Prop := ∃ cur, w.heap[g]? = some (.cells cur e) ∧ n * 34 ≤ cur.size
theorem BlS.sets {g n : Nat} {e : TypeId} : ∀ (vs : List Value) (o : Nat) {w : World}, BlS w g n e → BlS (w.setCells g o vs) g n e
  | [], _, _, h => h
  | v :: vs, o, w, ⟨cur, h1, h2⟩ => BlS.sets vs (o + 1) (w := w.setCell ⟨g, o, none⟩ v) ⟨cur.setIfInBounds o v, heap_setCell_same w g o cur e v h1, by simpa using h2⟩
theorem BlS.there {w : World} {g n : Nat} {e : TypeId} (h : BlS w g n e) {i : Nat} (hi : i < n) : w.there g (i * 34) 34 := by
  obtain ⟨cur, h1, h2⟩ := h
  intro j hj
  have : i * 34 + j < cur.size := by omega
  exact ⟨by simp [World.cell?, h1, this], by simp [World.frozen?, h1]⟩
theorem OwnR.blS {e : TypeId} {w : World} {base : Nat} {v : Value} {rs : List RowC} (h : OwnR e w base v rs) (h0 : 0 < rs.length) : ∃ g cap, v = .slice (some ⟨g, 0, none⟩) rs.length cap ∧ base ≤ g ∧ BlS w g rs.length e := by
  rcases h with ⟨⟨h1, ⟨-, hn⟩ | ⟨g, cap, cur, rfl, hbg, hg, hnc, hcm, hcs, htake⟩⟩, -⟩
  · omega
  · exact ⟨g, cap, rfl, hbg, cur, hg, by rw [hcs]; exact Nat.mul_le_mul_right _ hnc⟩
theorem OwnR.far' {e : TypeId} {w w' : World} {base : Nat} {v : Value} {rs : List RowC} (h : OwnR e w base v rs) (hb : ∀ g, v.ownBlock = some g → w'.heap[g]? = w.heap[g]?) : OwnR e w' base v rs := by
  rcases h with ⟨⟨h1, h2⟩, h3⟩
  refine ⟨⟨h1, ?_⟩, h3⟩
  rcases h2 with h2 | ⟨g, cap, cur, rfl, hg, hh, r⟩
  · exact Or.inl h2
  · exact Or.inr ⟨g, cap, cur, rfl, hg, by rw [hb g rfl]; exact hh, r⟩
theorem prsP_bld {rs : List RowC} {pk : List Int} (hok : ∀ r ∈ rs, r.ok) (hp : pk.length = 32) : (prsP (bldL rs pk)).length = 32 := by
  by_cases h : bldE rs = 0
  · rw [(parseBA hok hp h).2.2, hp]
  · have : bldL rs pk = [] := by unfold bldL; rw [if_neg h]
    rw [this, prsP_nil, z32_length]
def r99 : RowC := ⟨List.replicate 32 0, 0, 99⟩
theorem r99_ok : r99.ok := ⟨List.length_replicate, fun x hx => by rw [List.eq_of_mem_replicate hx]; omega, by decide, by decide, by decide, by decide⟩
set_option maxHeartbeats 4000000 in
set_option maxRecDepth 100000 in
theorem memory_any (v : Value) (rs : List RowC) (pk : List Int) (w : World) (hT : Sh.Tab w Sh.ksK) (hr : RdR w v rs) (hp : pk.length = 32) (hA : AllB pk) :
    Calls Tryd.prog 7 #[v, .agg (cellsK .u8 pk).toArray] w fun e w' => e = .returned (.bool true) ∧ Below w.heap.size w w' := by
  obtain ⟨w1, hw1, hB1, -, hbk1⟩ := box_id w pk
  have hps : (cellsK .u8 pk).toArray.size = 32 := by rw [List.size_toArray, cellsK_length, hp]
  have KPi := Kept.mk (id_infoL hp)
  have KA := Kept.mk hA
  have KT := Kept.mk hT
  have KAw := Kept.mk (awake_any w1 (Tab.later hT hB1 (Nat.le_refl _)))
  have KB1 := Kept.mk hB1
  have KP1 := Kept.mk hbk1
  have KBA := Kept.mk (bldL_allB hr.ok hA)
  have KBl := Kept.mk (bldL_len hr.ok hp)
  have KOk := Kept.mk hr.ok
  have KH := Kept.mk hr
  obtain ⟨a, c, rfl, -, -, -, -, -⟩ := hr
  clear hB1 hbk1 hA hT
  obtain ⟨IL, hIL⟩ : ∃ IL, cellsK .u8 pk = IL := ⟨_, rfl⟩
  have KIL := Kept.mk hIL
  rw [hIL] at hw1 hps KPi ⊢
  go_enter Tryd.func7, Tryd.ntmps7
  go_wp2_with fail
  refine Calls.mono KAw.out (fun e w2 hp2 => ?_)
  obtain ⟨rfl, hb2⟩ := hp2
  have KB12 := Kept.mk hb2
  have KB2 := Kept.mk (KB1.out.trans (hb2.mono KB1.out.size))
  clear hb2 KAw hw1 hIL
  by_cases hl : 100 < rs.length
  · have hli : (100 : Int) < (rs.length : Int) := by omega
    go_wp2
    go_ret
    exact ⟨rfl, KB2.out⟩
  · have hli : ¬ (100 : Int) < (rs.length : Int) := by omega
    have Kl : Kept (rs.length ≤ 100) := ⟨by omega⟩
    have KRw := Kept.mk (rows_any _ rs w2 (KH.out.later KB2.out (Nat.le_refl _)) (by omega))
    clear hl
    go_wp2_with fail
    clear hli
    refine Calls.mono KRw.out (fun e w3 hp3 => ?_)
    obtain ⟨v3, rfl, hO3, hb3⟩ := hp3
    have KX3 := Kept.mk hO3
    have hB3 := KB2.out.trans (hb3.mono KB2.out.size)
    have hP3 := KP1.out.far (KB12.out.trans (hb3.mono KB12.out.size)) KP1.out.lt
    have KP3 := Kept.mk hP3
    have Kw3 := Kept.mk (show w.heap.size < w3.heap.size from hP3.lt)
    have KG3 : Kept (w3.rangeAt w.heap.size 0 IL) := ⟨by rw [← KIL.out]; exact hP3.range⟩
    have KB3 := Kept.mk hB3
    have KC4 := Kept.mk (build_any v3 rs pk w3 (Tab.later KT.out hB3 (Nat.le_refl _)) hO3.rdR hp KA.out)
    rw [KIL.out] at KC4
    clear hO3 hb3 hB3 hP3 KRw KB2 KB12 KP1 KB1
    go_wp2_with (refine wpList_load_mid rfl 24 _ rfl w.heap.size 0 rfl IL _ KG3.out Tryd.underlying24 rfl KPi.out ?_)
    refine Calls.mono KC4.out (fun e w4 hp4 => ?_)
    obtain ⟨v4, rfl, hO4, hb4⟩ := hp4
    have KO4 := Kept.mk hO4
    have KB34 := Kept.mk hb4
    have hB4 := KB3.out.trans (hb4.mono KB3.out.size)
    have hP4 := KP3.out.far hb4 KP3.out.lt
    have KP4 := Kept.mk hP4
    have KG4 : Kept (w4.rangeAt w.heap.size 0 IL) := ⟨by rw [← KIL.out]; exact hP4.range⟩
    have KX4 := Kept.mk (KX3.out.later hb4 (Nat.le_refl _))
    have KB4 := Kept.mk hB4
    have KC5 := Kept.mk (build_any v3 rs pk w4 (Tab.later KT.out hB4 (Nat.le_refl _)) KX4.out.rdR hp KA.out)
    rw [KIL.out] at KC5
    clear hO4 hb4 hB4 hP4 KC4 KG3 KP3
    go_wp2_with (refine wpList_load_mid rfl 24 _ rfl w.heap.size 0 rfl IL _ KG4.out Tryd.underlying24 rfl KPi.out ?_)
    refine Calls.mono KC5.out (fun e w5 hp5 => ?_)
    obtain ⟨v5, rfl, hO5, hb5⟩ := hp5
    have KO5 := Kept.mk hO5
    have KB45 := Kept.mk hb5
    have hB5 := KB4.out.trans (hb5.mono KB4.out.size)
    have KB5 := Kept.mk hB5
    have KC6 := Kept.mk (parse_any v5 _ w5 (Tab.later KT.out hB5 (Nat.le_refl _)) hO5.rd KBA.out (by have := KBl.out; omega))
    clear hO5 hb5 hB5 KC5 KG4
    go_wp2_with fail
    refine Calls.mono KC6.out (fun e w6 hp6 => ?_)
    obtain ⟨v6, rfl, hO6, hb6⟩ := hp6
    have KB56 := Kept.mk hb6
    have KDl := Kept.mk (prsP_bld KOk.out hp)
    have KPrs : Kept (bldE rs = 0 → prsL (bldL rs pk) = sortF rs) := ⟨fun h => (parseBA KOk.out hp h).2.1⟩
    have KDi := Kept.mk (id_info KDl.out)
    have KDz : Kept ((cellsK .u8 (prsP (bldL rs pk))).toArray.size = 32) := ⟨by rw [List.size_toArray, cellsK_length, KDl.out]⟩
    have KDo := Kept.mk (cellsK_all .u8 (prsP (bldL rs pk)))
    obtain ⟨w7, hw7, hB7, -, -⟩ := box_id w6 (prsP (bldL rs pk))
    have hb57 := hb6.trans (hB7.mono hb6.size)
    have hB7' := KB5.out.trans (hb57.mono KB5.out.size)
    have KC8 := Kept.mk (parse_any v5 _ w7 (Tab.later KT.out hB7' (Nat.le_refl _)) (KO5.out.later hb57 (Nat.le_refl _)).rd KBA.out (by have := KBl.out; omega))
    have KO6 := Kept.mk hO6
    have KB67 := Kept.mk hB7
    have KB57 := Kept.mk hb57
    have KB7 := Kept.mk hB7'
    generalize prsE (bldL rs pk) = pe at *
    generalize hcd : (cellsK .u8 (prsP (bldL rs pk))).toArray = CD at *
    clear hcd hO6 hb6 hB7 hb57 hB7' KC6
    go_wp2_with (refine BigFrame.wpList_want rfl (fun K hK => wp_store_row 24 _ _ rfl w6.heap.size CD rfl rfl 24 _ (heap_alloc_new w6 _) KDi.out (by rw [KDz.out]; rfl) KDo.out (hK _ _ ?_)); rw [World.setRow_alloc_new])
    refine Calls.mono KC8.out (fun e w8 hp8 => ?_)
    obtain ⟨v8, rfl, hO8, hb8⟩ := hp8
    obtain ⟨w9, hw9⟩ : ∃ w9, w8.alloc (.cells CD 24) = w9 := ⟨_, rfl⟩
    have hB89 : Below w8.heap.size w8 w9 := by rw [← hw9]; exact (Below.refl _ _).alloc (Nat.le_refl _) _
    have hb79 := hb8.trans (hB89.mono hb8.size)
    have hB9 := KB7.out.trans (hb79.mono KB7.out.size)
    have hb49 := KB45.out.trans ((KB57.out.trans (hb79.mono KB57.out.size)).mono KB45.out.size)
    have KC10 := Kept.mk (of_any v3 rs w9 (KX4.out.later hb49 (Nat.le_refl _)).rdR (by have := Kl.out; omega))
    have KD9 := Kept.mk (hO8.later hB89 (Nat.le_refl _))
    have KB9 := Kept.mk hB9
    have KB49 := Kept.mk hb49
    have KB79 := Kept.mk hb79
    clear hO8 hb8 hB89 hb79 hB9 hb49 KC8 KX4
    go_wp2_with (refine BigFrame.wpList_want rfl (fun K hK => wp_store_row 24 _ _ rfl w8.heap.size CD rfl rfl 24 _ (heap_alloc_new w8 _) KDi.out (by rw [KDz.out]; rfl) KDo.out (hK _ _ ?_)); rw [World.setRow_alloc_new])
    refine Calls.mono KC10.out (fun e w10 hp10 => ?_)
    obtain ⟨v10, rfl, hO10, hb10⟩ := hp10
    have hB10 := KB9.out.trans (hb10.mono KB9.out.size)
    have KC11 := Kept.mk (sameR_any v10 _ rs rs w10 hO10.rdR (KH.out.later hB10 (Nat.le_refl _)) (by have := Kl.out; omega) (by have := Kl.out; omega))
    rw [decide_eq_true rfl] at KC11
    have KB910 := Kept.mk hb10
    have KB10 := Kept.mk hB10
    clear hO10 hb10 hB10 KC10
    go_wp2_with fail
    refine Calls.mono KC11.out (fun e w11 hp11 => ?_)
    obtain ⟨rfl, hb11⟩ := hp11
    have hb911 := KB910.out.trans (hb11.mono KB910.out.size)
    have hb411 := KB49.out.trans (hb911.mono KB49.out.size)
    have hb711 := KB79.out.trans (hb911.mono KB79.out.size)
    have hb511 := KB57.out.trans (hb711.mono KB57.out.size)
    have hb611 := KB67.out.trans (hb711.mono KB67.out.size)
    have KA11 := Kept.mk (KO4.out.later hb411 (Nat.le_refl _))
    have KB11 := Kept.mk (KO5.out.later hb511 (Nat.le_refl _))
    have KC11' := Kept.mk (KO6.out.later hb611 (Nat.le_refl _))
    have KD11 := Kept.mk (KD9.out.later hb911 (Nat.le_refl _))
    have KP11 := Kept.mk (KP4.out.far hb411 KP4.out.lt)
    have KW11 := Kept.mk (KB10.out.trans (hb11.mono KB10.out.size))
    have Ks34 := Kept.mk (show w3.heap.size ≤ w4.heap.size from KB34.out.size)
    have Ks45 := Kept.mk (show w4.heap.size ≤ w5.heap.size from KB45.out.size)
    have Ks67 := Kept.mk (show w6.heap.size ≤ w7.heap.size from KB67.out.size)
    have Ks56 : Kept (w5.heap.size ≤ w6.heap.size) := ⟨KB56.out.size⟩
    have Ks11 : Kept (w4.heap.size ≤ w11.heap.size) := ⟨hb411.size⟩
    obtain ⟨a4, c4, rfl, -, -, -⟩ := KO4.out.rd.form
    obtain ⟨a6, c6, rfl, -⟩ := KO6.out.rdR
    clear hb11 hb911 hb411 hb711 hb511 hb611 KC11 KB910 KB10 KB9 KB49 KB79 KB57 KB67 KB7 hw7 hw9
    have hBl := KBl.out
    have hml : (prsL (bldL rs pk)).length ≤ 1000000 := by
      by_cases h : bldE rs = 0
      · rw [KPrs.out h, (sortF_perm rs).length_eq]; have := Kl.out; omega
      · have : bldL rs pk = [] := by unfold bldL; rw [if_neg h]
        rw [this]; unfold prsL; rw [if_neg (by rw [prsE_nil]; decide)]; simp
    go_wp2_with fail
    have KE0 : Kept (bldE rs = 0 ∨ bldE rs ≠ 0) := ⟨by omega⟩
    have KDB : Kept (∀ (V : Value) (W : World), RdR W V rs → Calls Tryd.prog 11 #[V, .agg IL.toArray] W fun e w' => ∃ v', e = .returned (.tuple #[v', .int .i64 (bldE rs)]) ∧ Own .u8 5 w' W.heap.size v' (bldL rs pk) ∧ Below W.heap.size W w') := ⟨fun V W h => by rw [← KIL.out]; exact docBuildE_any V rs pk W h hp KA.out⟩
    generalize hBe : bldL rs pk = B at *
    have KBe := Kept.mk hBe
    clear hBe
    go_loopw [58] (fun iv wr => ∃ k : Nat, k ≤ B.length ∧ iv = .int .i64 k ∧ (∃ ys, ys.length = B.length ∧ Own .u8 5 wr w3.heap.size (.slice a4 B.length c4) ys) ∧ w11.grownBy wr (Value.slice a4 B.length c4).ownBlock) (fun iv _ => B.length - (intOf iv).toNat)
    case atStart => exact ⟨0, Nat.zero_le _, rfl, ⟨B, rfl, KA11.out⟩, World.grownBy.refl _ _⟩
    case round =>
      obtain ⟨k, hk, rfl, ⟨ys, hyl, how⟩, hgr⟩ := hrel
      have KG1 := Kept.mk hgr
      by_cases hlt : k < B.length
      · have hki : (k : Int) < (B.length : Int) := by omega
        obtain ⟨g, cap, hv, -, -, hcell, hfz, hset⟩ := how.opened (by omega)
        have ha : a4 = some ⟨g, 0, none⟩ := by injection hv
        clear hv
        subst ha
        have hc := hcell k (by omega)
        have hf := hfz k
        have KO' := Kept.mk (hset k 238 (by omega))
        have KG' : Kept (w11.grownBy (wr.setCell ⟨g, k, none⟩ (.int .u8 238)) (some g)) := ⟨gb_set hgr k _⟩
        have Kyl := Kept.mk hyl
        have e2 : IntKind.i64.wrap ((k : Int) + 1) = (k : Int) + 1 := wr64 (by omega) (by omega)
        clear hcell hfz hset how hgr hyl
        generalize ys.getD k 0 = y0 at *
        go_wp2
        go_roundw
        case rel => exact ⟨k + 1, by omega, by go_num, ⟨ys.set k 238, by rw [List.length_set, Kyl.out], KO'.out⟩, KG'.out⟩
        case measure => simp [intOf]; omega
      · have hki : ¬ (k : Int) < (B.length : Int) := by omega
        clear how hgr
        go_wp2_with fail
        clear hki
        have hgaB : ∀ g, (Value.slice a4 B.length c4).ownBlock = some g → w3.heap.size ≤ g ∧ g < w4.heap.size := fun g hg => KO4.out.lt g hg
        have KGa := Kept.mk hgaB
        have KBW : Kept (Below w3.heap.size w11 wr) := ⟨(Below.refl _ w11).grown KG1.out (by have := Ks34.out; have := Ks11.out; omega) (fun g hg => (hgaB g hg).1)⟩
        have KBb : Kept (Own .u8 5 wr w4.heap.size v5 B) := ⟨KB11.out.far fun g hg => KG1.out.block g (KB11.out.lt g hg).2 (fun e => by
          have h1 := (KB11.out.lt g hg).1
          have h2 := (hgaB g e.symm).2
          omega)⟩
        have KCc : Kept (OwnR 45 wr w5.heap.size (.slice a6 (prsL B).length c6) (prsL B)) := ⟨KC11'.out.far' fun g hg => KG1.out.block g (KC11'.out.lt g hg).2 (fun e => by
          have h1 := (KC11'.out.lt g hg).1
          have h2 := (hgaB g e.symm).2
          have h3 := Ks45.out
          omega)⟩
        have KDd : Kept (OwnR 45 wr w7.heap.size v8 (prsL B)) := ⟨KD11.out.far' fun g hg => KG1.out.block g (KD11.out.lt g hg).2 (fun e => by
          have h1 := (KD11.out.lt g hg).1
          have h2 := (hgaB g e.symm).2
          have h3 := Ks45.out
          have h4 := Ks56.out
          have h5 := Ks67.out
          omega)⟩
        have KLn := Kept.mk (show wr.heap.size ≥ w11.heap.size from KG1.out.size)
        clear hgaB KG1 KA11 KB11 KC11' KD11
        obtain ⟨wm, rfl⟩ : ∃ wm, wm = wr := ⟨_, rfl⟩
        go_loopw [67] (fun iv wq => ∃ k : Nat, k ≤ (prsL B).length ∧ iv = .int .i64 k ∧ (0 < (prsL B).length → ∃ g, a6 = some ⟨g, 0, none⟩ ∧ BlS wq g (prsL B).length 45) ∧ wm.grownBy wq (Value.slice a6 (prsL B).length c6).ownBlock) (fun iv _ => (prsL B).length - (intOf iv).toNat)
        case atStart =>
          refine ⟨0, Nat.zero_le _, rfl, fun h0 => ?_, World.grownBy.refl _ _⟩
          obtain ⟨g, cap, hv, -, hbl⟩ := KCc.out.blS h0
          exact ⟨g, by injection hv, hbl⟩
        case round =>
          obtain ⟨k2, hk2, rfl, hbs, hgr2⟩ := hrel
          have KG2 := Kept.mk hgr2
          by_cases hlt2 : k2 < (prsL B).length
          · have hki2 : (k2 : Int) < ((prsL B).length : Int) := by omega
            obtain ⟨g, rfl, hbl⟩ := hbs (by omega)
            have KTh : Kept (wr.there g (k2 * 34) r99.l.toArray.size) := ⟨by rw [row_size r99_ok]; exact hbl.there hlt2⟩
            obtain ⟨wn, hwn⟩ : ∃ wn, wr.setCells g (k2 * 34) r99.l.toArray.toList = wn := ⟨_, rfl⟩
            have KBl' : Kept (BlS wn g (prsL B).length 45) := ⟨by rw [← hwn]; exact BlS.sets _ (k2 * 34) hbl⟩
            have KG' : Kept (wm.grownBy wn (some g)) := ⟨by rw [← hwn]; exact gb_sets _ _ hgr2⟩
            have KSt := Kept.mk hwn
            clear hwn
            have KRi := Kept.mk (row_info1 r99_ok)
            have KRo := Kept.mk (all_oneCell_toArray (RowC.ones r99))
            have e2 : IntKind.i64.wrap ((k2 : Int) + 1) = (k2 : Int) + 1 := wr64 (by omega) (by omega)
            clear hbs hgr2 hbl
            go_wp2_with (refine wpList_store_mid rfl 45 _ _ rfl g (k2 * 34) r99.l.toArray rfl rfl KTh.out KRi.out KRo.out ?_; rw [KSt.out])
            go_roundw
            case rel => exact ⟨k2 + 1, by omega, by go_num, fun _ => ⟨g, rfl, KBl'.out⟩, KG'.out⟩
            case measure => simp [intOf]; omega
          · have hki2 : ¬ (k2 : Int) < ((prsL B).length : Int) := by omega
            have hgc : ∀ g, (Value.slice a6 (prsL B).length c6).ownBlock = some g → w5.heap.size ≤ g ∧ g < w6.heap.size := fun g hg => KO6.out.lt g hg
            have hBW : Below w3.heap.size w11 wr := KBW.out.grown hgr2 (by have := KBW.out.size; have := Ks34.out; have := Ks11.out; omega) (fun g hg => by have := (hgc g hg).1; have := Ks34.out; have := Ks45.out; omega)
            have hBw := KW11.out.trans (hBW.mono (by have := KB3.out.size; omega))
            have KBb2 : Kept (Own .u8 5 wr w4.heap.size v5 B) := ⟨KBb.out.far fun g hg => hgr2.block g (KBb.out.lt g hg).2 (fun e => by
              have h1 := (KO5.out.lt g hg).2
              have h2 := (hgc g e.symm).1
              omega)⟩
            have KDd2 : Kept (OwnR 45 wr w7.heap.size v8 (prsL B)) := ⟨KDd.out.far' fun g hg => hgr2.block g (KDd.out.lt g hg).2 (fun e => by
              have h1 := (KDd.out.lt g hg).1
              have h2 := (hgc g e.symm).2
              have h5 := Ks67.out
              omega)⟩
            have hPw := KP11.out.far hBW (by have := KP4.out.lt; have := Kw3.out; omega)
            have KRg : Kept (wr.rangeAt w.heap.size 0 IL) := ⟨by rw [← KIL.out]; exact hPw.range⟩
            have KC12 := Kept.mk (KDB.out _ wr (KH.out.later hBw (Nat.le_refl _)))
            have KBw := Kept.mk hBw
            clear hbs hgr2 hgc hBW hBw hPw KG2
            generalize hE : bldE rs = E at *
            have KE := Kept.mk hE
            clear hE
            go_wp2_with (refine wpList_load_mid rfl 24 _ rfl w.heap.size 0 rfl IL _ KRg.out Tryd.underlying24 rfl KPi.out ?_)
            refine Calls.mono KC12.out (fun e w12 hp12 => ?_)
            obtain ⟨v12, rfl, hO12, hb12⟩ := hp12
            have KS := Kept.mk (Sh.same_any v5 v12 B B w12 (shRd (KBb2.out.later hb12 (Nat.le_refl _)).rd KBA.out) (shRd hO12.rd KBA.out))
            rw [decide_eq_true rfl] at KS
            have KD12 := Kept.mk (KDd2.out.later hb12 (Nat.le_refl _))
            have hB12 := KBw.out.trans (hb12.mono KBw.out.size)
            have KB12 := Kept.mk hB12
            clear hO12 hb12 hB12 KC12 hki2
            go_wp2_with fail
            refine Calls.mono KS.out (fun e w13 hp13 => ?_)
            obtain ⟨rfl, rfl⟩ := hp13
            by_cases hE0 : E = 0
            · have hd : (E != 0) = false := by rw [hE0]; rfl
              have KDs := Kept.mk (KPrs.out hE0)
              have hsl : (sortF rs).length ≤ 1000000 := by rw [(sortF_perm rs).length_eq]; have := Kl.out; omega
              have Kml := Kept.mk hml
              have Ksl := Kept.mk hsl
              have KC14 := Kept.mk (of_any v8 (prsL B) w13 KD12.out.rdR (by omega))
              clear hE0 hsl
              go_wp2_with fail
              refine Calls.mono KC14.out (fun e w14 hp14 => ?_)
              obtain ⟨v14, rfl, hO14, hb14⟩ := hp14
              have hB14 := KB12.out.trans (hb14.mono KB12.out.size)
              have KC15 := Kept.mk (sorted_any _ rs w14 (KH.out.later hB14 (Nat.le_refl _)) (by have := Kl.out; omega))
              have KO14 := Kept.mk hO14
              have KB14 := Kept.mk hB14
              clear hO14 hb14 hB14 KC14
              go_wp2_with fail
              refine Calls.mono KC15.out (fun e w15 hp15 => ?_)
              obtain ⟨v15, rfl, hO15, hb15⟩ := hp15
              have KC16 := Kept.mk (sameR_any v14 v15 (prsL B) (sortF rs) w15 (KO14.out.later hb15 (Nat.le_refl _)).rdR hO15.rdR Kml.out Ksl.out)
              rw [decide_eq_true KDs.out] at KC16
              have KB15 := Kept.mk (KB14.out.trans (hb15.mono KB14.out.size))
              clear hO15 hb15 KC15
              go_wp2_with fail
              refine Calls.mono KC16.out (fun e w16 hp16 => ?_)
              obtain ⟨rfl, hb16⟩ := hp16
              have KB16 := Kept.mk (KB15.out.trans (hb16.mono KB15.out.size))
              clear hb16
              go_wp2
              go_ret
              exact ⟨by simp, KB16.out⟩
            · have hd : (E != 0) = true := by simpa using hE0
              go_wp2
              go_ret
              exact ⟨by simp, KB12.out⟩
end Go.Proofs.YtnflfkmmkejkpaaDoor
