/-
  The document's Crash.
-/
import Derived.Test.YtegdadkejheagaaGreatDoorG19
namespace Go.Proofs.YtegdadkejheagaaGreatDoor
open Go.RowKit Go.WideMaps Go.Maps

theorem zero_step (xs : List Int) {n : Nat} (h : n < xs.length) : (List.replicate n 0 ++ xs.drop n).set n 0 = List.replicate (n + 1) 0 ++ xs.drop (n + 1) := by
  rw [List.set_append_right _ _ (by simp), List.length_replicate, Nat.sub_self, List.drop_eq_getElem_cons h, List.set_cons_zero, List.replicate_succ', List.append_assoc]
  rfl
theorem infoCt1 : (Tryz.prog.info? 83).map (·.size) = some 2 := by kernel_rfl
set_option maxRecDepth 100000 in
theorem pend_cut (b off M c T : Nat) (h1 : T ≤ M) (h2 : M ≤ c) (W : World) : (Instr.sliceAt 32 (.slice (some ⟨b, off, none⟩) M c) none (some (.int .i64 (T : Nat))) none).run Tryz.prog W = .ok (.slice (some ⟨b, off, none⟩) T c) W := by
  have hs : (sizeOf (Tryz.prog.elem 32)).run Tryz.prog W = .ok 3 W := rfl
  rw [run_sliceAt_slice (P := Tryz.prog) W 32 _ _ _ _ Tryz.underlying32, run_slice_h (P := Tryz.prog) W 32 _ M c Tryz.underlying32 .i64 T (by omega) (by omega), hs]
  simp [sliced, Result.andThen, add_plain]
set_option maxRecDepth 100000 in
theorem pend_cut0 (W : World) : (Instr.sliceAt 32 (.slice none 0 0) none (some (.int .i64 ((0 : Nat) : Int))) none).run Tryz.prog W = .ok (.slice none 0 0) W := by
  have hs : (sizeOf (Tryz.prog.elem 32)).run Tryz.prog W = .ok 3 W := rfl
  rw [run_sliceAt_slice (P := Tryz.prog) W 32 _ _ _ _ Tryz.underlying32, run_slice_h (P := Tryz.prog) W 32 none 0 0 Tryz.underlying32 .i64 ((0 : Nat) : Int) (by omega) (by omega), hs]
  simp [sliced, Result.andThen]
theorem own_cut {w : World} {base : Nat} {v : Value} {l : List PnC} (h : OwPn w base v l) {T : Nat} (hT : T ≤ l.length) : ∃ a c, v = .slice a l.length c ∧ ∀ W : World, (Instr.sliceAt 32 (.slice a l.length c) none (some (.int .i64 (T : Nat))) none).run Tryz.prog W = .ok (.slice a T c) W := by
  rcases h.1.2 with ⟨rfl, hn⟩ | ⟨g, cap, cur, rfl, hbg, hgb, hnc, hcm, -⟩
  · rw [List.length_map] at hn
    rw [hn]
    obtain rfl : T = 0 := by omega
    exact ⟨none, 0, rfl, pend_cut0⟩
  · rw [List.length_map] at hnc ⊢
    exact ⟨_, _, rfl, fun W => pend_cut g 0 l.length cap T hT hnc W⟩
set_option maxHeartbeats 16000000 in
set_option maxRecDepth 100000 in
theorem dCrash_any {G S : Nat → Prop} (D : DD) (V : DVs) (v : Value) (cs : List Int) (w : World) (h : DM G w D V) {kk : Nat} (hD : DL D kk) (hk : kk ≤ 900) (hls : Srt D.lasting) (hr : ∀ x ∈ (nmsG D cs (foldersF D.pend)).1, 1 ≤ x.2 ∧ x.2 ≤ D.files.length) (hv : Rd .u8 S w v cs) (hA : AllB cs) :
    Calls Tryz.prog 11 #[.agg #[V.n, V.l, V.p, V.f, .int .i64 D.quota, .slice none 0 0, .int .i64 D.offAt, .int .i64 D.count, .bool D.off], v] w fun e w' => ∃ V', e = .returned (.agg #[V'.n, V'.l, V'.p, V'.f, .int .i64 (crashF D cs (foldersF D.pend)).quota, .slice none 0 0, .int .i64 (crashF D cs (foldersF D.pend)).offAt, .int .i64 (crashF D cs (foldersF D.pend)).count, .bool (crashF D cs (foldersF D.pend)).off]) ∧ DM (Gn G w) w' (crashF D cs (foldersF D.pend)) V' ∧ Below w.heap.size w w' := by
  obtain ⟨va, vc, rfl, -, -, -⟩ := hv.form
  obtain ⟨i0, z0, hi, hz, hsz, hbb, hcc⟩ := infoPn
  obtain ⟨i1, z1, hi1, hz1, hsz1, hbb1, hcc1⟩ := infoCt
  obtain ⟨i8, z8, hi8, hz8, hs8, hb8, hc8⟩ := info8
  obtain ⟨n0, l0, p0, f0⟩ := V
  obtain ⟨pa, pc, hpv, hplc, hprd⟩ := h.p.openMap
  simp only at hpv
  subst hpv
  simp only
  have KPr := Kept.mk hprd
  have KPs := Kept.mk hD.p
  have KNl := Kept.mk (NK_le hD hls cs)
  have Kvd := Kept.mk (And.intro hv hA)
  have Kr := Kept.mk hr
  have KDL := Kept.mk hD
  have hbp : D.pend.length ≤ 900 := Nat.le_trans (Nat.le_trans (Nat.le_add_left _ _) hD.l) hk
  have hbf := Nat.le_trans hD.f hk
  obtain ⟨w1, w2, w3, hw1, hw2, hw3, hb13, l1, l2, l3, x1, x2, x3⟩ := boxes3 w [n0, l0, .slice pa D.pend.length pc, f0, .int .i64 D.quota, .slice none 0 0, .int .i64 D.offAt, .int .i64 D.count, .bool D.off] [.slice none 0 0, .slice none 0 0, .slice none 0 0, .slice none 0 0, .int .i64 0, .slice none 0 0, .int .i64 0, .int .i64 0, .bool false] [.slice none 0 0, .slice none 0 0, .slice none 0 0, .slice none 0 0, .int .i64 D.quota, .slice none 0 0, .int .i64 0, .int .i64 0, .bool false] 36 36 36
  have hb23 : Below w2.heap.size w2 w3 := by rw [← hw3]; exact (Below.refl _ _).alloc (Nat.le_refl _) _
  have KB3 := Kept.mk hb13
  have KHg := Kept.mk (h.gb w3.heap.size)
  have KFd := Kept.mk (folders_any (.slice pa D.pend.length pc) D.pend w3 (h.p.later hb13) (by omega) hD.p)
  obtain ⟨g, hgw⟩ : ∃ g, w.heap.size = g := ⟨_, rfl⟩
  obtain ⟨g4, hgw4⟩ : ∃ g4, w1.heap.size = g4 := ⟨_, rfl⟩
  obtain ⟨g5, hgw5⟩ : ∃ g5, w2.heap.size = g5 := ⟨_, rfl⟩
  rw [hgw] at x1
  rw [hgw4] at x2
  rw [hgw5] at x3
  have Kg : Kept (w.heap.size = g ∧ g < g4 ∧ g4 < g5 ∧ g5 < w3.heap.size) := ⟨by omega⟩
  have q4 : w2.cell? ⟨g, 4, none⟩ = some (.int .i64 D.quota) := by rw [← hb23.cell (p := ⟨g, 4, none⟩) (by show g < w2.heap.size; omega)]; exact x1.cell 4 _ rfl
  have q1 := x1.cell 1 _ rfl
  have q2 := x1.cell 2 _ rfl
  have KK := Kept.mk (And.intro x1 (And.intro x2 x3))
  have KLas := Kept.mk h.l
  clear h hls hr hv hA hprd hb13 hb23 l1 l2 l3 x1 x2 x3 hD
  have hz5 : Kept (∀ o, (w2.alloc o).heap[g5]? = some o) := ⟨fun o => by rw [← hgw5]; exact heap_alloc_new w2 o⟩
  have hsr : Kept (∀ cs0 : Array Value, (w2.alloc (.cells cs0 36)).setRow g5 #[.slice none 0 0, .slice none 0 0, .slice none 0 0, .slice none 0 0, .int .i64 D.quota, .slice none 0 0, .int .i64 0, .int .i64 0, .bool false] = w3) := ⟨fun cs0 => by rw [← hgw5, World.setRow_alloc_new, hw3]⟩
  have hone : Kept ((#[.slice none 0 0, .slice none 0 0, .slice none 0 0, .slice none 0 0, .int .i64 D.quota, .slice none 0 0, .int .i64 0, .int .i64 0, .bool false] : Array Value).all (·.oneCell') = true) := ⟨by rw [List.all_toArray]; rfl⟩
  go_enter Tryz.func11, Tryz.ntmps11
  go_wp2_with (refine BigFrame.wpList_want rfl (fun K hK => wp_store_row 36 _ _ rfl g5 #[.slice none 0 0, .slice none 0 0, .slice none 0 0, .slice none 0 0, .int .i64 D.quota, .slice none 0 0, .int .i64 0, .int .i64 0, .bool false] rfl rfl 36 _ (hz5.out _) infoDisk rfl hone.out (hK _ _ ?_)); rw [hsr.out])
  refine Calls.mono KFd.out (fun e w4 hp => ?_)
  obtain ⟨v4, rfl, ho4, hb4⟩ := hp
  obtain ⟨ka, kc, hkv, -, hkrd⟩ := ho4.rd.openMap
  subst hkv
  have KB4 : Kept (Below w.heap.size w w4) := ⟨KB3.out.trans (hb4.mono KB3.out.size)⟩
  have KK4 := Kept.mk (And.intro (KK.out.1.below hb4) (And.intro (KK.out.2.1.below hb4) (KK.out.2.2.below hb4)))
  have Ks4 := Kept.mk hb4.size
  have KKs := Kept.mk hkrd
  have KL4 : Kept (LL G w w3.heap.size l0 D.lasting w4 l0 (NK D cs 0)) := ⟨.inl ⟨rfl, rfl, KHg.out.l.later KB4.out⟩⟩
  obtain ⟨KN, hKN⟩ : ∃ KN : Nat, (foldersF D.pend).length = KN := ⟨_, rfl⟩
  have KKN := Kept.mk hKN
  rw [hKN]
  clear hb4 ho4 hkrd KFd q1 q2 q4 KK hw1 hw2 hw3 hKN hz5 hsr hone
  have hkn9 : KN ≤ 900 := by
    have h1 := allF_len D.pend (l := []) List.Pairwise.nil
    have h2 := KKN.out
    unfold foldersF at h2
    rw [List.length_map] at h2
    simp only [List.length_nil] at h1
    omega
  go_wp2
  go_loopw [6, 7, 31] (fun nv av kv wr => ∃ k : Nat, k ≤ KN ∧ kv = .int .i64 k ∧ av = .int .i64 k ∧ LL G w w3.heap.size l0 D.lasting wr nv (NK D cs k) ∧ Below w4.heap.size w4 wr) (fun _ _ kv _ => KN - (intOf kv).toNat)
  case atStart => exact ⟨0, Nat.zero_le _, rfl, rfl, KL4.out, Below.refl _ _⟩
  case round =>
    obtain ⟨k, hkk, rfl, rfl, hll, hbel⟩ := hrel
    clear KL4
    have KBr := Kept.mk hbel
    have KBw : Kept (Below w.heap.size w wr) := ⟨KB4.out.trans (hbel.mono KB4.out.size)⟩
    have KL := Kept.mk hll
    have KK0 := Kept.mk (And.intro (KK4.out.1.below hbel) (And.intro (KK4.out.2.1.below hbel) (KK4.out.2.2.below hbel)))
    clear hll
    by_cases hlt : k < KN
    · have hki : (k : Int) < (KN : Int) := by omega
      have hlt2 : k < (foldersF D.pend).length := by rw [KKN.out]; exact hlt
      obtain ⟨b, off, rfl, hbl, -, hrg⟩ := KKs.out (by omega)
      obtain ⟨q, hq⟩ : ∃ q, (foldersF D.pend)[k]'hlt2 = q := ⟨_, rfl⟩
      have hcq : wr.cell? ⟨b, off + k, none⟩ = some (.string q) := by
        rw [hbel.cell (p := ⟨b, off + k, none⟩) hbl]
        have h2 := hrg k hlt2 0 (.string q) (by rw [hq]; rfl)
        rwa [Nat.mul_one, Nat.add_zero] at h2
      have KNs := Kept.mk (NK_succ D cs hlt2)
      rw [hq] at KNs
      have q2 := KK0.out.1.cell 2 _ rfl
      have e2 : IntKind.i64.wrap ((k : Int) + 1) = (k : Int) + 1 := wr64 (by omega) (by omega)
      have hxc := chs_nn Kvd.out.2 k
      clear hbel hrg hq
      obtain ⟨W0, hW0⟩ : ∃ W0, W0 = wr := ⟨wr, rfl⟩
      subst hW0
      go_wp2
      go_loopw [10, 38] (fun mv jv wr => ∃ j : Nat, j ≤ D.pend.length ∧ jv = .int .i64 j ∧ OwPn wr W0.heap.size mv (mineF (D.pend.take j) q) ∧ Below W0.heap.size W0 wr) (fun _ jv _ => D.pend.length - (intOf jv).toNat)
      case atStart => exact ⟨0, Nat.zero_le _, rfl, OwK.nil _ _ _ _, Below.refl _ _⟩
      case round =>
        obtain ⟨j, hj, rfl, how, hbel⟩ := hrel
        have KBj := Kept.mk hbel
        have KBjw : Kept (Below w.heap.size w wr) := ⟨KBw.out.trans (hbel.mono KBw.out.size)⟩
        have KO := Kept.mk how
        clear hbel
        by_cases hjt : j < D.pend.length
        · obtain ⟨ma, mn, mc, rfl⟩ := how.form3
          clear how
          have hji : (j : Int) < (D.pend.length : Int) := by omega
          obtain ⟨pb, po, rfl, hpbl, -, hprg⟩ := KPr.out (by omega)
          obtain ⟨x, hx⟩ : ∃ x, D.pend[j]'hjt = x := ⟨_, rfl⟩
          have hrow : wr.rangeAt pb (po + j * 3) (pnC x) := fun i u hu => by
            rw [KBjw.out.cell (p := ⟨pb, po + j * 3 + i, none⟩) hpbl]
            have h2 := hprg j hjt i u
            rw [hx] at h2
            exact h2 hu
          have hxs := KPs.out _ (List.getElem_mem hjt)
          rw [hx] at hxs
          have hst : D.pend.take (j + 1) = D.pend.take j ++ [x] := by rw [List.take_add_one, List.getElem?_eq_getElem hjt, hx]; rfl
          have KF1 := Kept.mk (mine_snoc (D.pend.take j) x q)
          rw [← hst] at KF1
          have e3 : IntKind.i64.wrap ((j : Int) + 1) = (j : Int) + 1 := wr64 (by omega) (by omega)
          obtain ⟨xp, xq, xf⟩ := x
          simp only at hxs KF1
          obtain ⟨wx, hwx, hbx, hsx, y0, y1, y2⟩ := pn_box wr xp xq xf
          have KBx : Kept (Below W0.heap.size W0 wx) := ⟨KBj.out.trans (hbx.mono KBj.out.size)⟩
          have KOx := Kept.mk (KO.out.later hbx)
          have K8 : Kept (Bk wx wr.heap.size 76 [.string xp, .string xq, .int .i64 (xf : Nat)]) := ⟨by rw [← hwx]; exact Bk.new wr _ _⟩
          have hR := Kept.mk hrow
          unfold pnC at hR
          simp only at hR
          obtain ⟨g8, hgw8⟩ : ∃ g8, wr.heap.size = g8 := ⟨_, rfl⟩
          rw [hgw8] at K8
          have z0' := K8.out.cell 0 _ rfl
          have KFo := Kept.mk (folder_any xp wx (by omega))
          clear hrow hprg hx hst y0 y1 y2 hbx hsx KO hxs
          go_wp2_with (first | (refine wpList_load_mid rfl 76 _ rfl pb (po + j * 3) rfl _ _ hR.out Tryz.underlying76 rfl infoPn1 ?_) | (refine BigFrame.wpList_want rfl (fun K hK => wp_store_row 76 _ _ rfl wr.heap.size _ rfl rfl 76 _ (heap_alloc_new wr _) infoPn1 rfl rfl (hK _ _ ?_)); rw [World.setRow_alloc_new, hwx]))
          refine Calls.mono KFo.out (fun e wy hp => ?_)
          obtain ⟨rfl, hby⟩ := hp
          have KBy : Kept (Below W0.heap.size W0 wy) := ⟨KBx.out.trans (hby.mono KBx.out.size)⟩
          have KOy := Kept.mk (KOx.out.later hby)
          have KR8 := Kept.mk ((K8.out.below hby).range)
          clear hby KOx K8 KFo hwx hR z0'
          by_cases he : folF xp = q
          · have hs := str_eqB he
            have KG : Kept (mineF (D.pend.take (j + 1)) q = mineF (D.pend.take j) q ++ [⟨xp, xq, xf⟩]) := ⟨by rw [KF1.out, if_pos he]⟩
            clear he KF1
            obtain ⟨wz, hwz, hbz, hsz', z0', z1', z2'⟩ := pn_box wy xp xq xf
            have KRx : Kept (wz.rangeAt wy.heap.size 0 (pnC ⟨xp, xq, xf⟩)) := ⟨fun i u hu => by
              rw [← hwz, Nat.zero_add]
              exact alloc_cell _ _ _ _ _ (by simpa [pnC] using hu)⟩
            have KBz : Kept (Below W0.heap.size W0 wz) := ⟨KBy.out.trans (hbz.mono KBy.out.size)⟩
            have KOz := Kept.mk (KOy.out.later hbz)
            have hlm : ((mineF (D.pend.take j) q).map pnC).length ≤ 1000000 := by
              rw [List.length_map]
              exact Nat.le_trans (mine_le _ _) (by rw [List.length_take]; omega)
            clear hbz hsz' z0' z1' z2' KOy
            go_wp2_with (first | (refine wpList_load_mid rfl 76 _ rfl g8 0 rfl _ _ KR8.out Tryz.underlying76 rfl infoPn1 ?_) | (at_builtin; go_loud (refine wpList_plain rfl (fun K hK => wp_append_K _ _ 32 76 rfl 3 40 i0 z0 Tryz.underlying32 hi hz hsz hbb hcc (by decide) (by decide) W0.heap.size _ _ rfl KOz.out (pnC ⟨xp, xq, xf⟩) rfl (fun u hu => pnC_ones [⟨xp, xq, xf⟩] _ (List.mem_map.2 ⟨_, List.mem_singleton.2 rfl, rfl⟩) u hu) wy.heap.size 1 rfl KRx.out hlm KBz.out.size (fun v9 w9 o9 g9 => hK _ _ ?_)); have KB9 := Kept.mk (KBz.out.grown g9 KBz.out.size (fun q hq => (KOz.out.lt q hq).1)); have KO9 := Kept.mk o9; clear o9 g9)))
            go_roundw
            case rel => exact ⟨j + 1, by omega, by go_num, by rw [KG.out]; simpa [OwPn] using KO9.out, KB9.out⟩
            case measure => simp [intOf]; omega
          · have hs := str_ne_list he
            have KG : Kept (mineF (D.pend.take (j + 1)) q = mineF (D.pend.take j) q) := ⟨by rw [KF1.out, if_neg he, List.append_nil]⟩
            clear he KF1
            go_wp2
            go_roundw
            case rel => exact ⟨j + 1, by omega, by go_num, by rw [KG.out]; exact KOy.out, KBy.out⟩
            case measure => simp [intOf]; omega
        · have hji : ¬ (j : Int) < (D.pend.length : Int) := by omega
          rw [List.take_of_length_le (show D.pend.length ≤ j by omega)] at how KO
          have hM9 : (mineF D.pend q).length ≤ 900 := Nat.le_trans (mine_le _ _) hbp
          have KTT := Kept.mk (Nat.mod_lt (chs cs k).toNat (show 0 < (mineF D.pend q).length + 1 by omega))
          obtain ⟨T, hT⟩ : ∃ T, (chs cs k).toNat % ((mineF D.pend q).length + 1) = T := ⟨_, rfl⟩
          rw [hT] at KNs KTT
          obtain ⟨ma, mc, rfl, hcut⟩ := own_cut how (T := T) (by have := KTT.out; omega)
          obtain ⟨ma', mc', hme, -, hmr⟩ := KO.out.rd.openMap
          injection hme with hme1 hme2 hme3
          subst hme1 hme3
          clear hme2
          have Kmr := Kept.mk hmr
          clear hmr
          have KCh := Kept.mk (choice_any (.slice va cs.length vc) cs k wr (Kvd.out.1.later KBjw.out (Nat.le_refl _)) Kvd.out.2)
          obtain ⟨X, hX⟩ : ∃ X, chs cs k = X := ⟨_, rfl⟩
          rw [hX] at KCh hxc hT
          obtain ⟨MN, hMN⟩ : ∃ MN, (mineF D.pend q).length = MN := ⟨_, rfl⟩
          rw [hMN] at hcut hT KTT hM9 ⊢
          have KMN := Kept.mk hMN
          have e4 : IntKind.i64.wrap ((MN : Int) + 1) = (MN : Int) + 1 := wr64 (by omega) (by omega)
          have e5 : X.tmod ((MN : Int) + 1) = (T : Int) := by
            rw [Int.tmod_eq_emod_of_nonneg hxc.1, ← hT]
            push_cast
            rw [Int.toNat_of_nonneg hxc.1]
          have e6 : ¬ (MN : Int) + 1 = 0 := by omega
          have e7 : IntKind.i64.wrap (T : Int) = (T : Int) := wr64 (by omega) (by have := KTT.out; omega)
          clear how hT hX hMN hxc KO
          obtain ⟨W1, hW1⟩ : ∃ W1, W1 = wr := ⟨wr, rfl⟩
          subst hW1
          go_wp2_with fail
          refine Calls.mono KCh.out (fun e wy hp => ?_)
          obtain ⟨rfl, rfl⟩ := hp
          clear KCh
          go_wp2
          clear hcut e4 e5 e6 e7
          go_loopw [6, 62] (fun nv jv wr => ∃ j : Nat, j ≤ T ∧ jv = .int .i64 j ∧ LL G w w3.heap.size l0 D.lasting wr nv (((mineF D.pend q).take j).foldl chgF (NK D cs k)) ∧ Below wy.heap.size wy wr) (fun _ jv _ => T - (intOf jv).toNat)
          case atStart => exact ⟨0, Nat.zero_le _, rfl, KL.out.later (KBj.out), Below.refl _ _⟩
          case round =>
            obtain ⟨j, hj, rfl, hll, hbel⟩ := hrel
            have KBt := Kept.mk hbel
            have KBtw : Kept (Below w.heap.size w wr) := ⟨KBjw.out.trans (hbel.mono KBjw.out.size)⟩
            have KL3 := Kept.mk hll
            clear hbel
            by_cases hjt : j < T
            · obtain ⟨la, ln, lc, rfl⟩ := hll.form
              clear hll
              have hji : (j : Int) < (T : Int) := by omega
              have hjm : j < (mineF D.pend q).length := by have := KTT.out; have := KMN.out; omega
              obtain ⟨mb, mo, rfl, hmbl, -, hmrg⟩ := Kmr.out (by omega)
              obtain ⟨x, hx⟩ : ∃ x, (mineF D.pend q)[j]'hjm = x := ⟨_, rfl⟩
              have hrow : wr.rangeAt mb (mo + j * 3) (pnC x) := fun i u hu => by
                rw [KBt.out.cell (p := ⟨mb, mo + j * 3 + i, none⟩) hmbl]
                have h2 := hmrg j hjm i u
                rw [hx] at h2
                exact h2 hu
              have hst : ((mineF D.pend q).take (j + 1)).foldl chgF (NK D cs k) = chgF (((mineF D.pend q).take j).foldl chgF (NK D cs k)) x := by rw [List.take_add_one, List.getElem?_eq_getElem hjm, hx, List.foldl_append]; rfl
              have hfl := fold_len ((mineF D.pend q).take j) (NK D cs k) (KNl.out k).2
              have hfn : (((mineF D.pend q).take j).foldl chgF (NK D cs k)).length ≤ 90000 := by
                have h1 := hfl.1
                have h2 := (KNl.out k).1
                rw [List.length_take] at h1
                have := KMN.out
                omega
              have Ksrt := Kept.mk hfl.2
              have Kst := Kept.mk hst
              have e3 : IntKind.i64.wrap ((j : Int) + 1) = (j : Int) + 1 := wr64 (by omega) (by have := KTT.out; omega)
              obtain ⟨xp, xq, xf⟩ := x
              obtain ⟨wx, hwx, hbx, hsx, y0, y1, y2⟩ := pn_box wr xp xq xf
              have KBx : Kept (Below wy.heap.size wy wx) := ⟨KBt.out.trans (hbx.mono KBt.out.size)⟩
              have KLx := Kept.mk (KL3.out.later hbx)
              have K8 : Kept (Bk wx wr.heap.size 76 [.string xp, .string xq, .int .i64 (xf : Nat)]) := ⟨by rw [← hwx]; exact Bk.new wr _ _⟩
              have KC := Kept.mk (change_any (.slice la ln lc) _ ⟨xp, xq, xf⟩ wx KLx.out.rd Ksrt.out (by omega))
              have hR := Kept.mk hrow
              unfold pnC at hR
              simp only at hR
              obtain ⟨g8, hgw8⟩ : ∃ g8, wr.heap.size = g8 := ⟨_, rfl⟩
              rw [hgw8] at K8
              have KR8 := Kept.mk K8.out.range
              clear hrow hmrg hx hst hfl hfn y0 y1 y2 hbx hsx KL3 hjm
              go_wp2_with (first | (refine wpList_load_mid rfl 76 _ rfl mb (mo + j * 3) rfl _ _ hR.out Tryz.underlying76 rfl infoPn1 ?_) | (refine BigFrame.wpList_want rfl (fun K hK => wp_store_row 76 _ _ rfl wr.heap.size _ rfl rfl 76 _ (heap_alloc_new wr _) infoPn1 rfl rfl (hK _ _ ?_)); rw [World.setRow_alloc_new, hwx]) | (refine wpList_load_mid rfl 76 _ rfl g8 0 rfl _ _ KR8.out Tryz.underlying76 rfl infoPn1 ?_))
              refine Calls.mono KC.out (fun e w9 hp => ?_)
              obtain ⟨v9, rfl, ho9, hb9⟩ := hp
              have KB9 : Kept (Below wy.heap.size wy w9) := ⟨KBx.out.trans (hb9.mono KBx.out.size)⟩
              have KL9 : Kept (LL G w w3.heap.size l0 D.lasting w9 v9 (((mineF D.pend q).take (j + 1)).foldl chgF (NK D cs k))) := ⟨.inr (by rw [Kst.out]; exact own_names_mono ho9 (by have := KBx.out.size; have := KBj.out.size; have := KBr.out.size; have := Ks4.out; omega))⟩
              clear ho9 hb9 KC KLx K8 KR8 hwx hR
              go_wp2
              go_roundw
              case rel => exact ⟨j + 1, by omega, by go_num, KL9.out, KB9.out⟩
              case measure => simp [intOf]; omega
            · have hji : ¬ (j : Int) < (T : Int) := by omega
              rw [show j = T by omega, ← KNs.out] at KL3
              have KL9 := Kept.mk KL3.out
              have KB9 : Kept (Below w4.heap.size w4 wr) := ⟨KBr.out.trans ((KBj.out.trans (KBt.out.mono KBj.out.size)).mono KBr.out.size)⟩
              clear hll KL3
              go_wp2
              go_roundw
              case rel => exact ⟨k + 1, by omega, by go_num, by go_num, KL9.out, KB9.out⟩
              case measure => simp [intOf]; omega
    · skip
      have hki : ¬ (k : Int) < (KN : Int) := by omega
      have hkK : k = KN := by omega
      have hall := NK_all D cs (k := k) (by rw [KKN.out]; omega)
      have hLn := KNl.out k
      rw [hall] at KL hLn
      obtain ⟨L, hL⟩ : ∃ L, (nmsG D cs (foldersF D.pend)).1 = L := ⟨_, rfl⟩
      have KhL := Kept.mk hL
      rw [hL] at KL Kr hLn
      have KLn : Kept (L.length ≤ 900) := ⟨by omega⟩
      obtain ⟨na, nc, hnv, -, hnrd⟩ := KL.out.rd.openMap
      subst hnv
      have KLr := Kept.mk hnrd
      obtain ⟨ms, hms, hfv, hdat⟩ := KHg.out.f
      obtain ⟨fa, fc, hfv2, -, hfrd⟩ := hfv.openMap
      simp only at hfv2
      subst hfv2
      have Kml : Kept (ms.length = D.files.length) := ⟨by rw [← hms, List.length_map]⟩
      have KF := Kept.mk hfrd
      have KDt := Kept.mk hdat
      have KCt : Kept (∀ f (hf : f < ms.length), ctF D.files (f + 1) = ((ms[f]'hf).xs, (ms[f]'hf).s)) := ⟨fun f hf => by
        unfold ctF
        rw [← hms]
        simp [List.getD, List.getElem?_eq_getElem hf]⟩
      have Kmx : Kept (∀ m ∈ ms, m.xs.length ≤ 1000000 ∧ m.s ≤ m.xs.length) := ⟨fun m hm => by
        have := KDL.out.x (m.xs, m.s) (by rw [← hms]; exact List.mem_map.2 ⟨m, hm, rfl⟩)
        simp only at this
        omega⟩
      have Kg5 : Kept (g5 < wr.heap.size ∧ w.heap.size ≤ g5 ∧ g < wr.heap.size ∧ g4 < wr.heap.size ∧ g ≠ g5 ∧ g4 ≠ g5 ∧ w.heap.size ≤ wr.heap.size ∧ w3.heap.size ≤ wr.heap.size ∧ g5 < w3.heap.size) := ⟨by have := KBr.out.size; have := Ks4.out; have := Kg.out; omega⟩
      have KCS0 : Kept (CS wr wr g5 D.quota [] [] (.slice none 0 0) (.slice none 0 0)) := ⟨⟨Fx.refl _ _, KK0.out.2.2, OwK.nil _ _ _ _, [], rfl, OwK.nil _ _ _ _, by simp⟩⟩
      obtain ⟨W2, hW2⟩ : ∃ W2, W2 = wr := ⟨wr, rfl⟩
      subst hW2
      clear hbel hL hall hnrd hms hfv hdat hfrd KKs KPr
      go_wp2
      go_loopw [7, 75] (fun av jv wr => ∃ (j i : Nat) (nl : NL) (fl : List (List Int × Nat)) (nv fv : Value), j ≤ L.length ∧ jv = .int .i64 j ∧ av = .int .i64 i ∧ i ≤ KN + 2 * j ∧ (L.take j).foldl (filO D.files cs) (([], []), KN) = ((nl, fl), i) ∧ CS W2 wr g5 D.quota nl fl nv fv) (fun _ jv _ => L.length - (intOf jv).toNat)
      case atStart => exact ⟨0, KN, [], [], _, _, Nat.zero_le _, rfl, rfl, by omega, rfl, KCS0.out⟩
      case round =>
        obtain ⟨j, i, nl, fl, nv, fv, hj, rfl, rfl, hij, hfold, hcs⟩ := hrel
        clear KCS0
        obtain ⟨⟨nva, nvn, nvc, rfl⟩, fva, fvc, rfl⟩ := hcs.form
        have KCS := Kept.mk hcs
        have KFo := Kept.mk hfold
        have Kll : Kept (fl.length = j) := ⟨by
          have h1 := fil_len D.files cs (L.take j) (([], []), KN)
          rw [hfold, List.length_take] at h1
          simp only [List.length_nil] at h1
          omega⟩
        have Knl : Kept (nl.length ≤ j) := ⟨by
          have h1 := fil_names D.files cs (L.take j) (([], []), KN) List.Pairwise.nil
          rw [hfold, List.length_take] at h1
          simp only [List.length_nil] at h1
          omega⟩
        have KBwr : Kept (Below w.heap.size w wr) := ⟨KBw.out.trans (hcs.fx.below (by have := Kg5.out; omega) (fun q hq e => by have := Kg5.out; omega))⟩
        have KKr : Kept (Bk wr g 36 [n0, l0, .slice pa D.pend.length pc, .slice fa ms.length fc, .int .i64 D.quota, .slice none 0 0, .int .i64 D.offAt, .int .i64 D.count, .bool D.off] ∧ Bk wr g4 36 [.slice none 0 0, .slice none 0 0, .slice none 0 0, .slice none 0 0, .int .i64 0, .slice none 0 0, .int .i64 0, .int .i64 0, .bool false]) := ⟨KK0.out.1.far (hcs.fx.block g (by have := Kg5.out; omega) (fun e => by have := Kg5.out; omega)), KK0.out.2.1.far (hcs.fx.block g4 (by have := Kg5.out; omega) (fun e => by have := Kg5.out; omega))⟩
        clear hcs hfold
        by_cases hjt : j < L.length
        · have hji : (j : Int) < (L.length : Int) := by omega
          obtain ⟨lb, lo, hla, hlbl, hGb, hlrg⟩ := KLr.out (by omega)
          obtain ⟨x, hx⟩ : ∃ x, L[j]'hjt = x := ⟨_, rfl⟩
          have hrow : wr.rangeAt lb (lo + j * 2) (nmC x) := fun q u hu => by
            have h2 := hlrg j hjt q u
            rw [hx] at h2
            exact cell_of (h2 hu) (KCS.out.fx.block lb hlbl (fun e => by have := Kg5.out; rcases hGb with h | h <;> omega))
          have hrr := Kr.out _ (List.getElem_mem hjt)
          rw [hx] at hrr
          have hst := fil_snoc D.files cs L j hjt (([], []), KN)
          rw [KFo.out, hx] at hst
          obtain ⟨xp, xf⟩ := x
          simp only at hrr
          obtain ⟨f, rfl⟩ : ∃ f, xf = f + 1 := ⟨xf - 1, by omega⟩
          have hfm : f < ms.length := by have := Kml.out; omega
          obtain ⟨b2, off2, hfa, hbl2, -, hrg2⟩ := KF.out (by omega)
          obtain ⟨m, hm⟩ : ∃ m, ms[f]'hfm = m := ⟨_, rfl⟩
          have Kmd := Kept.mk (KDt.out _ (List.getElem_mem hfm))
          have hmx := Kmx.out _ (List.getElem_mem hfm)
          have hct := KCt.out f hfm
          rw [hm] at Kmd hct hmx
          have KFs : Kept ((L.take (j + 1)).foldl (filO D.files cs) (([], []), KN) = ((putF nl xp (fl.length + 1), fl ++ [(rmL m.xs m.s cs i, (rmL m.xs m.s cs i).length)]), rmN m.xs m.s i)) := ⟨by
            rw [hst]
            unfold filO
            simp only
            rw [hct]⟩
          have hrow2 : ∀ q u, (ctC m)[q]? = some u → w.cell? ⟨b2, off2 + f * 2 + q, none⟩ = some u := fun q u hu => by
            have := hrg2 f hfm q u
            rw [hm] at this
            exact this hu
          obtain ⟨va', vc', hmv, -, hcap, -⟩ := Kmd.out.1.form
          obtain ⟨mv, xs, s⟩ := m
          simp only at hmv hmx Kmd KFs hcap
          subst hmv
          unfold ctC at hrow2
          simp only at hrow2
          subst hla hfa
          obtain ⟨wx, hwx, hbx, hsx, e0', e1', hry⟩ := nm_box wr (xp, f + 1)
          simp only at e0' e1' hwx
          have Kbwx := Kept.mk hbx
          have KBwx : Kept (Below w.heap.size w wx) := ⟨KBwr.out.trans (hbx.mono KBwr.out.size)⟩
          have KRc : Kept (wx.rangeAt b2 (off2 + f * 2) [.slice va' xs.length vc', .int .i64 (s : Nat)]) := ⟨fun q u hu => by
            rw [KBwx.out.cell (p := ⟨b2, off2 + f * 2 + q, none⟩) hbl2]
            exact hrow2 q u hu⟩
          obtain ⟨wy, hwy⟩ : ∃ wy, wx.alloc (.cells #[.slice va' xs.length vc', .int .i64 (s : Nat)] 83) = wy := ⟨_, rfl⟩
          have hby : Below wx.heap.size wx wy := by rw [← hwy]; exact (Below.refl _ _).alloc (Nat.le_refl _) _
          have K17 : Kept (Bk wy wx.heap.size 83 [.slice va' xs.length vc', .int .i64 (s : Nat)]) := ⟨by rw [← hwy]; exact Bk.new wx _ _⟩
          have Kb16 : Kept (wx.heap[wr.heap.size]? = some (.cells #[.string xp, .int .i64 ((f + 1 : Nat) : Int)] 81 (0, 0))) := ⟨by rw [← hwx]; exact heap_alloc_new wr _⟩
          have KBwy : Kept (Below w.heap.size w wy) := ⟨KBwx.out.trans (hby.mono KBwx.out.size)⟩
          have c3 : wx.cell? ⟨g, 3, none⟩ = some (.slice (some ⟨b2, off2, none⟩) ms.length fc) := (KKr.out.1.below hbx).cell 3 _ rfl
          obtain ⟨g16, hg16⟩ : ∃ g16, wr.heap.size = g16 := ⟨_, rfl⟩
          obtain ⟨g17, hg17⟩ : ∃ g17, wx.heap.size = g17 := ⟨_, rfl⟩
          rw [hg16] at e0' e1' Kb16
          rw [hg17] at K17
          have K16 := Kept.mk e0'
          have Kg16 : Kept (g16 < wx.heap.size ∧ W2.heap.size ≤ g16) := ⟨by have := KCS.out.fx.size; omega⟩
          have Kg17 : Kept (g17 < wy.heap.size ∧ wx.heap.size ≤ wy.heap.size) := ⟨by have := K17.out.lt; exact ⟨this, hby.size⟩⟩
          have KBxy := Kept.mk hby
          have hR := Kept.mk hrow
          unfold nmC at hR
          simp only at hR
          have z0' := K17.out.cell 0 _ rfl
          have z1' := K17.out.cell 1 _ rfl
          have hfi : (f : Int) < (ms.length : Int) := by omega
          have hf0 : (0 : Int) ≤ (f : Int) := by omega
          have ef : ((f + 1 : Nat) : Int) - 1 = (f : Int) := by omega
          have e1 : IntKind.i64.wrap (((f + 1 : Nat) : Int) - 1) = (f : Int) := by rw [ef]; exact wr64 (by omega) (by have := Kml.out; omega)
          have e3 : IntKind.i64.wrap ((j : Int) + 1) = (j : Int) + 1 := wr64 (by omega) (by have := KLn.out; omega)
          obtain ⟨a1, c1, hsl1, hrd1⟩ := sub_h (pa := va') (pc := vc') (L := xs) (hi := s) hmx.2 hcap
          have hsz : (s : Int) ≤ (vc' : Int) := by omega
          have KT := Kept.mk (twin_any (.slice a1 s c1) (xs.take s) wy (hrd1 _ _ (Kmd.out.1.later KBwy.out (Nat.le_refl _))) (by rw [List.length_take]; omega))
          have KDf : Kept (rmL xs s cs i = if xs.length = s then xs else xs.take s ++ (if chs cs (i + 1) % 2 = 1 then List.replicate (rmK xs s cs i) 0 else (xs.drop s).take (rmK xs s cs i))) := ⟨rfl⟩
          have KDn : Kept (rmN xs s i = if xs.length = s then i else i + 2) := ⟨rfl⟩
          have Ksl2 := Kept.mk (fun (hi : Nat) (h1 : s ≤ hi) (h2 : hi ≤ xs.length) => sub_lh (pa := va') (pc := vc') (L := xs) (lo := s) (hi := hi) h1 h2 hcap)
          have Kcap := Kept.mk hcap
          generalize ((f + 1 : Nat) : Int) = f1 at *
          clear hrow hrow2 hbx hsx hry hrg2 hlrg hx hst hm hct hrr ef hrd1 hby hlbl hGb
          go_wp2_with (first | (refine wpList_load_mid rfl 81 _ rfl lb (lo + j * 2) rfl _ _ hR.out Tryz.underlying81 rfl infoNm1 ?_) | (refine BigFrame.wpList_want rfl (fun K hK => wp_store_row 81 _ _ rfl wr.heap.size _ rfl rfl 81 _ (heap_alloc_new wr _) infoNm1 rfl rfl (hK _ _ ?_)); rw [World.setRow_alloc_new, hwx]) | (refine wpList_load_mid rfl 83 _ rfl b2 (off2 + f * 2) rfl _ _ KRc.out Tryz.underlying83 rfl infoCt1 ?_) | (refine BigFrame.wpList_want rfl (fun K hK => wp_store_row 83 _ _ rfl wx.heap.size _ rfl rfl 83 _ (heap_alloc_new wx _) infoCt1 rfl rfl (hK _ _ ?_)); rw [World.setRow_alloc_new, hwy]))
          refine Calls.mono KT.out (fun e w5 hp => ?_)
          obtain ⟨vp, rfl, hop, hb5⟩ := hp
          obtain ⟨ta, tc, hvp⟩ := own_form hop
          have htl : (xs.take s).length = s := by rw [List.length_take]; omega
          rw [htl] at hvp
          subst hvp
          have KBy5 := Kept.mk hb5
          have KBx5 : Kept (Below wx.heap.size wx w5) := ⟨KBxy.out.trans (hb5.mono KBxy.out.size)⟩
          have KP5 := Kept.mk hop
          have z0' := (K17.out.below hb5).cell 0 _ rfl
          have z1' := (K17.out.below hb5).cell 1 _ rfl
          have Kmx2 := Kept.mk hmx
          clear hop hb5 KT hsl1 hsz c3 e0' e1' e1 hwx hwy hR KRc hcap hfi hf0
          obtain ⟨DD', hDD⟩ : ∃ DD' : Int, (xs.length : Int) - (s : Int) = DD' := ⟨_, rfl⟩
          have eD : IntKind.i64.wrap ((xs.length : Int) - (s : Int)) = DD' := by rw [← hDD]; exact wr64 (by omega) (by omega)
          by_cases hz : xs.length = s
          · obtain rfl : DD' = 0 := by omega
            have KR : Kept (rmL xs s cs i = xs.take s ∧ rmN xs s i = i) := ⟨by
              rw [KDf.out, KDn.out, if_pos hz, if_pos hz]
              exact ⟨(List.take_of_length_le (by omega)).symm, rfl⟩⟩
            have KpL := Kept.mk htl
            have KPw : Kept (Own .u8 5 w5 W2.heap.size (.slice ta s tc) (xs.take s)) := ⟨KP5.out.mono (by have := KBxy.out.size; have := Kg16.out; omega)⟩
            have KAp : Kept (AllB (xs.take s)) := ⟨AllIn.take Kmd.out.2 s⟩
            clear hDD hz htl
            go_upto_region 37 with fail
            clear eD z0' z1'
            have KC0 : Kept (CS W2 w5 g5 D.quota nl fl (.slice nva nvn nvc) (.slice fva fl.length fvc)) := ⟨KCS.out.later (Below.trans Kbwx.out (KBx5.out.mono Kbwx.out.size))⟩
            obtain ⟨ms9, hm1, hm2, hm3⟩ := KC0.out.fs
            have c53 := KC0.out.b5.cell 3 _ rfl
            obtain ⟨wa, hwa⟩ : ∃ wa, w5.alloc (.cells #[.slice ta s tc, .int .i64 (s : Nat)] 83) = wa := ⟨_, rfl⟩
            have hba : Below w5.heap.size w5 wa := by rw [← hwa]; exact (Below.refl _ _).alloc (Nat.le_refl _) _
            have KRa : Kept (wa.rangeAt w5.heap.size 0 [Value.slice ta s tc, Value.int .i64 (s : Nat)]) := ⟨by rw [← hwa]; exact (Bk.new w5 83 [.slice ta s tc, .int .i64 (s : Nat)]).range⟩
            have KCa := Kept.mk (KC0.out.later hba)
            have KPa := Kept.mk (KPw.out.later hba (Nat.le_refl _))
            have KOa := Kept.mk (hm2.later hba)
            have KMa : Kept (∀ m ∈ ms9, Own .u8 5 wa W2.heap.size m.v m.xs ∧ AllB m.xs) := ⟨fun m hm => ⟨(hm3 m hm).1.later hba (Nat.le_refl _), (hm3 m hm).2⟩⟩
            have Km1 := Kept.mk hm1
            have Kwa := Kept.mk hba.size
            have Kl9 : Kept (ms9.length = fl.length) := ⟨by rw [← hm1, List.length_map]⟩
            have KBxa : Kept (Below wx.heap.size wx wa) := ⟨KBx5.out.trans (hba.mono KBx5.out.size)⟩
            have hlm9 : (ms9.map ctC).length ≤ 1000000 := by rw [List.length_map]; have := Kl9.out; have := Kll.out; omega
            have KcW : Kept (W2.heap.size ≤ w5.heap.size) := ⟨KC0.out.fx.size⟩
            clear hba hm1 hm2 hm3
            go_upto_region 38 with (at_builtin; go_loud (refine wpList_plain rfl (fun K hK => wp_append_K _ _ 33 83 rfl 2 32 i1 z1 Tryz.underlying33 hi1 hz1 hsz1 hbb1 hcc1 (by decide) (by decide) W2.heap.size _ _ rfl KOa.out [Value.slice ta s tc, Value.int .i64 (s : Nat)] rfl (by simp; exact ⟨rfl, rfl⟩) w5.heap.size 1 rfl KRa.out hlm9 (by have := KcW.out; have := Kwa.out; omega) (fun v9 w9 o9 g9 => hK _ _ ?_)); obtain ⟨sa, sc, rfl⟩ := o9.form; have Kg9 := Kept.mk g9; have KO9 := Kept.mk o9; have b59 := KCa.out.b5.grow g9 (fun e => by have := (KOa.out.lt _ e).1; have := Kg5.out; omega); have K59 := Kept.mk b59; have c53 := b59.cell 3 _ rfl; have f53 := b59.frozen 3; clear o9 g9 b59))
            have hl10 : (ms9.map ctC ++ [[Value.slice ta s tc, Value.int .i64 (s : Nat)]]).length = fl.length + 1 := by rw [List.length_append, List.length_map, Kl9.out]; rfl
            rw [hl10] at KO9
            try rw [Kl9.out]
            obtain ⟨wb, hwb⟩ : ∃ wb, w9.setCell ⟨g5, 3, none⟩ (Value.slice sa (fl.length + 1) sc) = wb := ⟨_, rfl⟩
            have KCb : Kept (CS W2 wb g5 D.quota nl (fl ++ [(xs.take s, (xs.take s).length)]) (.slice nva nvn nvc) (.slice sa (fl.length + 1) sc)) := ⟨by
              rw [← hwb]
              exact KCa.out.file (by have := Kg5.out; omega) KPa.out KAp.out Kg9.out ms9 Km1.out KOa.out KMa.out (by rw [KpL.out]; exact KO9.out)⟩
            have d0 : wb.cell? ⟨g16, 0, none⟩ = some (.string xp) := by
              rw [← hwb]
              have h1 := (KBxa.out.cell (p := ⟨g16, 0, none⟩) Kg16.out.1).trans K16.out
              have h2 : w9.cell? ⟨g16, 0, none⟩ = some (.string xp) := cell_of h1 (Kg9.out.block g16 (by have := KBxa.out.size; have := Kg16.out; omega) (fun e => by
                obtain ⟨cu, hcu⟩ := ownsRow_blk KOa.out.1 e.symm
                exact type_ne hcu (show wa.heap[g16]? = _ from (KBxa.out.block g16 Kg16.out.1).trans Kb16.out) (by decide) rfl))
              exact cell_of h2 (Below.heap_setCell w9 _ _ g16 (by have := Kg16.out; have := Kg5.out; show g16 ≠ g5; omega))
            try rw [hwb]
            clear hwb c53 f53 KOa KCa KPa KO9 KRa hwa hl10 hlm9 K59 Kg9
            have c50 := KCb.out.b5.cell 0 _ rfl
            have f50 := KCb.out.b5.frozen 0
            have c53 := KCb.out.b5.cell 3 _ rfl
            have KPu := Kept.mk (put_any (.slice nva nvn nvc) nl xp (fl.length + 1) wb KCb.out.nm.rd (by have := Knl.out; omega))
            go_wp2_with fail
            refine Calls.mono KPu.out (fun e wc hp => ?_)
            obtain ⟨vn9, rfl, hon, hbc⟩ := hp
            obtain ⟨nwa, nwn, nwc, rfl⟩ := hon.form3
            have c50 := (KCb.out.b5.below hbc).cell 0 _ rfl
            have f50 := (KCb.out.b5.below hbc).frozen 0
            obtain ⟨wd, hwd⟩ : ∃ wd, wc.setCell ⟨g5, 0, none⟩ (Value.slice nwa nwn nwc) = wd := ⟨_, rfl⟩
            have KCd : Kept (CS W2 wd g5 D.quota (putF nl xp (fl.length + 1)) (fl ++ [(xs.take s, (xs.take s).length)]) (.slice nwa nwn nwc) (.slice sa (fl.length + 1) sc)) := ⟨by
              rw [← hwd]
              exact KCb.out.name (by have := Kg5.out; omega) hbc (own_names_mono hon KCb.out.fx.size)⟩
            clear hon hbc KPu KCb d0 c53
            go_wp2
            try rw [hwd]
            go_roundw
            case rel => exact ⟨j + 1, i, _, _, _, _, by omega, by go_num, by go_num, by omega, by rw [KFs.out, KR.out.1, KR.out.2], KCd.out⟩
            case measure => simp [intOf]; omega
          · skip
            have hpos : (0 : Int) < DD' := by omega
            have Kne := Kept.mk hz
            have KCell : Kept (∀ W, Below wy.heap.size wy W → (fun W => W.cell? ⟨g17, 0, none⟩ = some (.slice va' xs.length vc') ∧ W.cell? ⟨g17, 1, none⟩ = some (.int .i64 (s : Nat))) W) := ⟨fun W hW => ⟨(K17.out.below hW).cell 0 _ rfl, (K17.out.below hW).cell 1 _ rfl⟩⟩
            go_upto_region 28 with fail
            clear eD z0' z1' hpos
            have hxc := chs_nn Kvd.out.2 i
            obtain ⟨kq, hkq⟩ : ∃ kq, rmK xs s cs i = kq := ⟨_, rfl⟩
            have hkd : (chs cs i).toNat % (xs.length - s + 1) = kq := hkq
            have Kkl : Kept (kq ≤ xs.length - s ∧ s ≤ xs.length) := ⟨by have := Nat.mod_lt (chs cs i).toNat (show 0 < xs.length - s + 1 by omega); omega⟩
            have Kqk := Kept.mk hkq
            obtain ⟨M, hM⟩ : ∃ M, s + kq = M := ⟨_, rfl⟩
            obtain ⟨a2, c2, hsl2, hrd2⟩ := Ksl2.out M (by omega) (by have := Kkl.out; omega)
            have hMs : M - s = kq := by omega
            rw [hMs] at hsl2 hrd2
            have e2 : IntKind.i64.wrap (DD' + 1) = DD' + 1 := wr64 (by omega) (by omega)
            have e5 : (chs cs i).tmod (DD' + 1) = (kq : Int) := by
              rw [Int.tmod_eq_emod_of_nonneg hxc.1, ← hkd, ← hDD]
              push_cast
              rw [Int.toNat_of_nonneg hxc.1, Int.ofNat_sub (by omega)]
            have e6 : ¬ DD' + 1 = 0 := by omega
            have e7 : IntKind.i64.wrap (kq : Int) = (kq : Int) := wr64 (by omega) (by have := Kkl.out; omega)
            have e8 : IntKind.i64.wrap ((s : Int) + (kq : Int)) = (M : Int) := by rw [← hM]; push_cast; exact wr64 (by omega) (by have := Kkl.out; omega)
            have KXs : Kept ((xs.take M).drop s = (xs.drop s).take kq) := ⟨by rw [List.drop_take, hMs]⟩
            have hsc : (s : Int) ≤ (M : Int) := by omega
            have hMc : (M : Int) ≤ (vc' : Int) := by have := Kcap.out; have := Kkl.out; omega
            obtain ⟨X, hX⟩ : ∃ X, chs cs i = X := ⟨_, rfl⟩
            refine wp_region_noPanic ?_
            refine wp_region_held_drew (S := (fun W => W.cell? ⟨g17, 0, none⟩ = some (.slice va' xs.length vc') ∧ W.cell? ⟨g17, 1, none⟩ = some (.int .i64 (s : Nat)))) (by kernel_rfl) (KCell.out _ KBy5.out.drew) (fun hHeld => ?_)
            obtain ⟨V0, hV0⟩ : ∃ V0, w5.drew = V0 := ⟨_, rfl⟩
            have KW0 : Kept (Below wy.heap.size wy V0) := ⟨by rw [← hV0]; exact KBy5.out.drew⟩
            have Kb50 : Kept (Below w5.heap.size w5 V0) := ⟨by rw [← hV0]; exact (Below.refl _ _).drew⟩
            have KBV0 : Kept (Below w.heap.size w V0) := ⟨KBwy.out.trans (KW0.out.mono KBwy.out.size)⟩
            have KCh := Kept.mk (choice_any (.slice va cs.length vc) cs i V0 (Kvd.out.1.later KBV0.out (Nat.le_refl _)) Kvd.out.2)
            have KT2 := Kept.mk (twin_any (.slice a2 kq c2) ((xs.take M).drop s) V0 (hrd2 _ _ (Kmd.out.1.later KBV0.out (Nat.le_refl _))) (by rw [List.length_drop, List.length_take]; have := Kkl.out; omega))
            rw [hX] at KCh e5
            rw [hV0] at hHeld ⊢
            clear hV0 hkd hX hxc hrd2 hDD hM hMs hkq htl
            refine wpAnyH_takeD (i := 0) (d := some 100) (v := .pointer (some ⟨g17, 0, none⟩)) rfl rfl (by kernel_rfl) (by kernel_rfl) (by kernel_rfl) (fun _ _ _ h => h) (Or.inl ⟨by rfl, fun W hSw => by obtain ⟨hS0, hS1⟩ := hSw; go_simp⟩) (by assumption) ?_
            simp only [Act.put, List.setIfInBounds_toArray, List.set_cons_zero, List.set_cons_succ]
            refine wpAnyH_takeD (i := 1) (d := some 101) (v := .slice va' xs.length vc') rfl rfl (by kernel_rfl) (by kernel_rfl) (by kernel_rfl) (fun _ _ _ h => h) (Or.inl ⟨by rfl, fun W hSw => by obtain ⟨hS0, hS1⟩ := hSw; go_simp⟩) (by assumption) ?_
            simp only [Act.put, List.setIfInBounds_toArray, List.set_cons_zero, List.set_cons_succ]
            refine wpAnyH_takeD (i := 2) (d := some 102) (v := .pointer (some ⟨g17, 1, none⟩)) rfl rfl (by kernel_rfl) (by kernel_rfl) (by kernel_rfl) (fun _ _ _ h => h) (Or.inl ⟨by rfl, fun W hSw => by obtain ⟨hS0, hS1⟩ := hSw; go_simp⟩) (by assumption) ?_
            simp only [Act.put, List.setIfInBounds_toArray, List.set_cons_zero, List.set_cons_succ]
            refine wpAnyH_takeD (i := 3) (d := some 103) (v := .int .i64 (s : Nat)) rfl rfl (by kernel_rfl) (by kernel_rfl) (by kernel_rfl) (fun _ _ _ h => h) (Or.inl ⟨by rfl, fun W hSw => by obtain ⟨hS0, hS1⟩ := hSw; go_simp⟩) (by assumption) ?_
            simp only [Act.put, List.setIfInBounds_toArray, List.set_cons_zero, List.set_cons_succ]
            refine wpAnyH_takeD (i := 4) (d := some 104) (v := .pointer (some ⟨g17, 1, none⟩)) rfl rfl (by kernel_rfl) (by kernel_rfl) (by kernel_rfl) (fun _ _ _ h => h) (Or.inl ⟨by rfl, fun W hSw => by obtain ⟨hS0, hS1⟩ := hSw; go_simp⟩) (by assumption) ?_
            simp only [Act.put, List.setIfInBounds_toArray, List.set_cons_zero, List.set_cons_succ]
            refine wpAnyH_takeD (i := 5) (d := some 105) (v := .int .i64 (s : Nat)) rfl rfl (by kernel_rfl) (by kernel_rfl) (by kernel_rfl) (fun _ _ _ h => h) (Or.inl ⟨by rfl, fun W hSw => by obtain ⟨hS0, hS1⟩ := hSw; go_simp⟩) (by assumption) ?_
            simp only [Act.put, List.setIfInBounds_toArray, List.set_cons_zero, List.set_cons_succ]
            refine wpAnyH_takeD (i := 6) (d := some 106) (v := .slice va cs.length vc) rfl rfl (by kernel_rfl) (by kernel_rfl) (by kernel_rfl) (fun _ _ _ h => h) (Or.inl ⟨by rfl, fun W hSw => by obtain ⟨hS0, hS1⟩ := hSw; go_simp⟩) (by assumption) ?_
            simp only [Act.put, List.setIfInBounds_toArray, List.set_cons_zero, List.set_cons_succ]
            refine wpAnyH_takeD (i := 7) (d := some 107) (v := .int .i64 (i : Nat)) rfl rfl (by kernel_rfl) (by kernel_rfl) (by kernel_rfl) (fun _ _ _ h => h) (Or.inl ⟨by rfl, fun W hSw => by obtain ⟨hS0, hS1⟩ := hSw; go_simp⟩) (by assumption) ?_
            simp only [Act.put, List.setIfInBounds_toArray, List.set_cons_zero, List.set_cons_succ]
            refine wpAnyH_takeD (i := 9) (d := some 109) (v := .int .i64 DD') rfl rfl (by kernel_rfl) (by kernel_rfl) (by kernel_rfl) (fun _ _ _ h => h) (Or.inl ⟨by rfl, fun W hSw => by obtain ⟨hS0, hS1⟩ := hSw; go_simp⟩) (by assumption) ?_
            simp only [Act.put, List.setIfInBounds_toArray, List.set_cons_zero, List.set_cons_succ]
            refine wpAnyH_takeD (i := 10) (d := some 110) (v := .int .i64 (DD' + 1)) rfl rfl (by kernel_rfl) (by kernel_rfl) (by kernel_rfl) (fun _ _ _ h => h) (Or.inl ⟨by rfl, fun W hSw => by obtain ⟨hS0, hS1⟩ := hSw; go_simp⟩) (by assumption) ?_
            simp only [Act.put, List.setIfInBounds_toArray, List.set_cons_zero, List.set_cons_succ]
            refine wpAnyH_ready (rs := [8]) (by kernel_rfl) (by simp) ?_
            refine AllReadyH.cons (o := _) rfl (fun K hK => ?_) AllReadyH.nil
            rw [if_pos (by rfl)]
            go_simp
            refine Calls.mono KCh.out (fun e W1 hp => ?_)
            obtain ⟨rfl, hw⟩ := hp
            have hw := hw.symm
            subst hw
            refine hK.out _ _ hHeld (fun hHeldX => ?_)
            clear hK K hHeldX KCh
            refine wpAnyH_takeD (i := 11) (d := some 111) (v := .int .i64 (kq : Nat)) rfl rfl (by kernel_rfl) (by kernel_rfl) (by kernel_rfl) (fun _ _ _ h => h) (Or.inl ⟨by rfl, fun W hSw => by obtain ⟨hS0, hS1⟩ := hSw; go_simp⟩) (by assumption) ?_
            simp only [Act.put, List.setIfInBounds_toArray, List.set_cons_zero, List.set_cons_succ]
            refine wpAnyH_takeD (i := 12) (d := some 112) (v := .int .i64 (M : Nat)) rfl rfl (by kernel_rfl) (by kernel_rfl) (by kernel_rfl) (fun _ _ _ h => h) (Or.inl ⟨by rfl, fun W hSw => by obtain ⟨hS0, hS1⟩ := hSw; go_simp⟩) (by assumption) ?_
            simp only [Act.put, List.setIfInBounds_toArray, List.set_cons_zero, List.set_cons_succ]
            refine wpAnyH_takeD (i := 13) (d := some 113) (v := .slice a2 kq c2) rfl rfl (by kernel_rfl) (by kernel_rfl) (by kernel_rfl) (fun _ _ _ h => h) (Or.inl ⟨by rfl, fun W hSw => by obtain ⟨hS0, hS1⟩ := hSw; go_simp⟩) (by assumption) ?_
            simp only [Act.put, List.setIfInBounds_toArray, List.set_cons_zero, List.set_cons_succ]
            refine wpAnyH_ready (rs := [14]) (by kernel_rfl) (by simp) ?_
            refine AllReadyH.cons (o := _) rfl (fun K hK => ?_) AllReadyH.nil
            rw [if_pos (by rfl)]
            go_simp
            refine Calls.mono KT2.out (fun e w6 hp => ?_)
            obtain ⟨v6, rfl, ho6, hb6⟩ := hp
            obtain ⟨qa, qc, hv6⟩ := own_form ho6
            have hl6 : ((xs.take M).drop s).length = kq := by rw [KXs.out, List.length_take, List.length_drop]; have := Kkl.out; omega
            rw [hl6] at hv6
            subst hv6
            have Kl6 := Kept.mk hl6
            have KB6 := Kept.mk hb6
            have KO6 := Kept.mk ho6
            have KBw6 : Kept (Below w.heap.size w w6) := ⟨KBV0.out.trans (hb6.mono KBV0.out.size)⟩
            refine hK.out _ _ (KCell.out w6 (KW0.out.trans (hb6.mono KW0.out.size))) (fun hHeldX => ?_)
            have hHeld6 := KCell.out w6 (KW0.out.trans (hb6.mono KW0.out.size))
            clear hK K hHeldX hHeld hb6 ho6 hl6 KT2
            refine wpAnyH_takeD (i := 15) (d := some 20) (v := .slice qa kq qc) rfl rfl (by kernel_rfl) (by kernel_rfl) (by kernel_rfl) (fun _ _ _ h => h) (Or.inl ⟨by rfl, fun W hSw => by obtain ⟨hS0, hS1⟩ := hSw; go_simp⟩) (by assumption) ?_
            simp only [Act.put, List.setIfInBounds_toArray, List.set_cons_zero, List.set_cons_succ]
            refine wpAnyH_done (by kernel_rfl) ?_ _
            refine NoPanic.normal ?_
            clear hHeld6 e2 e5 e6 e7 e8 hsl2 hsc hMc
            obtain ⟨Xs, hXs⟩ : ∃ Xs, (xs.take M).drop s = Xs := ⟨_, rfl⟩
            rw [hXs] at KO6 Kl6 KXs
            have KXA : Kept (AllB Xs) := ⟨by rw [← hXs]; exact AllIn.drop (AllIn.take Kmd.out.2 M) s⟩
            clear hXs
            have hy := chs_nn Kvd.out.2 (i + 1)
            have KCy : Kept (∀ W, Below w.heap.size w W → Calls Tryz.prog 30 #[.slice va cs.length vc, .int .i64 ((i : Int) + 1)] W fun e w' => e = .returned (.int .i64 (chs cs (i + 1))) ∧ w' = W) := ⟨fun W hW => choice_any (.slice va cs.length vc) cs (i + 1) W (Kvd.out.1.later hW (Nat.le_refl _)) Kvd.out.2⟩
            have e9 : IntKind.i64.wrap ((i : Int) + 1) = (i : Int) + 1 := wr64 (by omega) (by have := KLn.out; omega)
            by_cases hodd : chs cs (i + 1) % 2 = 1
            · have h2 : (chs cs (i + 1)).tmod 2 = 1 := by rw [Int.tmod_eq_emod_of_nonneg hy.1]; exact hodd
              have Kodd := Kept.mk hodd
              obtain ⟨y, hye⟩ : ∃ y, chs cs (i + 1) = y := ⟨_, rfl⟩
              rw [hye] at KCy h2
              clear hodd hy hye
              go_wp2
              go_loopw [117] (fun jv wr => ∃ n : Nat, n ≤ kq ∧ jv = .int .i64 n ∧ Own .u8 5 wr V0.heap.size (.slice qa kq qc) (List.replicate n 0 ++ Xs.drop n) ∧ Below V0.heap.size V0 wr) (fun jv _ => kq - (intOf jv).toNat)
              case atStart => exact ⟨0, Nat.zero_le _, rfl, by simpa using KO6.out, KB6.out⟩
              case round =>
                obtain ⟨n, hn, rfl, hown, hbel⟩ := hrel
                have KOn := Kept.mk hown
                have KBn := Kept.mk hbel
                have KBnw : Kept (Below w.heap.size w wr) := ⟨KBV0.out.trans (hbel.mono KBV0.out.size)⟩
                clear hown hbel
                by_cases hn2 : n < kq
                · have hni : (n : Int) < (kq : Int) := by omega
                  have hn0 : (0 : Int) ≤ (n : Int) := by omega
                  have hlen : (List.replicate n 0 ++ Xs.drop n).length = kq := by rw [List.length_append, List.length_replicate, List.length_drop, Kl6.out]; omega
                  obtain ⟨gm, rfl⟩ : ∃ gm, qa = some ⟨gm, 0, none⟩ := by
                    rcases KOn.out.2 with ⟨h1, h2⟩ | ⟨g', cap, cur, h1, -⟩
                    · omega
                    · injection h1 with h1; exact ⟨g', h1⟩
                  have hcm : wr.cell? ⟨gm, n, none⟩ = some (.int .u8 ((List.replicate n 0 ++ Xs.drop n).getD n 0)) := by
                    have := World.ownsRow.cells KOn.out (g := gm) rfl n (.int .u8 ((List.replicate n 0 ++ Xs.drop n).getD n 0)) (by
                      have hlt : n < (List.replicate n 0 ++ Xs.drop n).length := by rw [hlen]; exact hn2
                      unfold cellsK
                      rw [List.getElem?_map, List.getElem?_eq_getElem hlt]
                      simp [List.getD, List.getElem?_eq_getElem hlt])
                    rw [add_plain, Nat.zero_add] at this
                    exact this
                  have hfm : wr.frozen? ⟨gm, n, none⟩ = false := by
                    obtain ⟨cur, hcur⟩ := ownsRow_blk KOn.out (g := gm) rfl
                    simp [World.frozen?, hcur]
                  obtain ⟨wq, hwq⟩ : ∃ wq, wr.setCell ⟨gm, n, none⟩ (.int .u8 0) = wq := ⟨_, rfl⟩
                  have KOq : Kept (Own .u8 5 wq V0.heap.size (.slice (some ⟨gm, 0, none⟩) kq qc) (List.replicate (n + 1) 0 ++ Xs.drop (n + 1))) := ⟨by
                    have h := KOn.out.setq n 0
                    rw [hwq, zero_step Xs (by rw [Kl6.out]; exact hn2)] at h
                    exact h⟩
                  have KBq : Kept (Below V0.heap.size V0 wq) := ⟨by rw [← hwq]; exact KBn.out.setCell (p := ⟨gm, n, none⟩) ((KOn.out.lt gm rfl).1) _⟩
                  have e4 : IntKind.i64.wrap ((n : Int) + 1) = (n : Int) + 1 := wr64 (by omega) (by have := Kkl.out; omega)
                  generalize (List.replicate n 0 ++ Xs.drop n).getD n 0 = zz at *
                  clear hlen
                  go_wp2_with fail
                  refine Calls.mono (KCy.out _ KBnw.out) (fun e wy2 hp => ?_)
                  obtain ⟨rfl, hw⟩ := hp
                  subst hw
                  go_wp2
                  go_roundw
                  case rel => exact ⟨n + 1, by omega, by go_num, KOq.out, KBq.out⟩
                  case measure => simp [intOf]; omega
                · skip
                  have hji5 : ¬ (n : Int) < (kq : Int) := by omega
                  have KY := Kept.mk (show Rd .u8 anyB wr (.slice qa kq qc) (List.replicate kq (0 : Int)) from by have h := KOn.out; rw [show n = kq by omega, List.drop_of_length_le (by rw [Kl6.out]; omega), List.append_nil] at h; exact own_rd_any h)
                  have KBv := KBn
                  have KBy' : Kept (Below wy.heap.size wy wr) := ⟨KW0.out.trans (KBv.out.mono KW0.out.size)⟩
                  have KBx' : Kept (Below wx.heap.size wx wr) := ⟨KBxy.out.trans (KBy'.out.mono KBxy.out.size)⟩
                  have KPq : Kept (Own .u8 5 wr wy.heap.size (.slice ta s tc) (xs.take s)) := ⟨KP5.out.later (Kb50.out.trans (KBv.out.mono Kb50.out.size)) (Nat.le_refl _)⟩
                  have KYl : Kept ((List.replicate kq (0 : Int)).length = kq) := ⟨List.length_replicate⟩
                  have KYA : Kept (AllB (List.replicate kq (0 : Int))) := ⟨fun y hy => by rw [List.eq_of_mem_replicate hy]; omega⟩
                  have KR : Kept (rmL xs s cs i = xs.take s ++ (List.replicate kq (0 : Int)) ∧ rmN xs s i = i + 2) := ⟨by rw [KDf.out, KDn.out, if_neg Kne.out, if_neg Kne.out, Kqk.out, if_pos Kodd.out]; exact ⟨rfl, rfl⟩⟩
                  have hsl9 : (xs.take s).length ≤ 1000000 := by rw [List.length_take]; have := Kmx2.out; omega
                  have hkq9 : kq ≤ 1000000 := by have := Kkl.out; have := Kmx2.out; omega
                  go_upto_region 36 with (at_builtin; go_loud (refine wpList_append_rd _ rfl _ _ 23 rfl .u8 anyB 1 wy.heap.size 5 i8 z8 Tryz.underlying23 hi8 hz8 hs8 hb8 hc8 (by omega) (.slice ta s tc) (xs.take s) rfl KPq.out _ (List.replicate kq (0 : Int)) rfl KY.out (by have h1 := KYl.out; omega) KBy'.out.size ?_; intro v8 w8 ho8 g8 hat8; obtain ⟨ua, uc, hv8⟩ := own_form ho8; obtain ⟨nu, hnu⟩ : ∃ nu, (xs.take s ++ (List.replicate kq (0 : Int))).length = nu := ⟨_, rfl⟩; rw [hnu] at hv8; subst hv8; have KpL := Kept.mk hnu; have KB8 := Kept.mk (KBx'.out.grown g8 KBx'.out.size (fun q hq => by have := (KPq.out.lt q hq).1; have := KBxy.out.size; omega)); have KP8 := Kept.mk ho8; clear ho8 g8 hat8 hnu))
                  have KPw : Kept (Own .u8 5 w8 W2.heap.size (.slice ua nu uc) (xs.take s ++ (List.replicate kq (0 : Int)))) := ⟨KP8.out.mono (by have := KBxy.out.size; have := Kg16.out; omega)⟩
                  have KAp : Kept (AllB (xs.take s ++ (List.replicate kq (0 : Int)))) := ⟨fun y hy => (List.mem_append.1 hy).elim (AllIn.take Kmd.out.2 s y) (KYA.out y)⟩
                  have e8i : IntKind.i64.wrap ((i : Int) + 2) = (i : Int) + 2 := wr64 (by omega) (by have := KLn.out; omega)
                  clear KP8 hsl9 hkq9
                  go_upto_region 37 with fail
                  clear e8i
                  have KC0 : Kept (CS W2 w8 g5 D.quota nl fl (.slice nva nvn nvc) (.slice fva fl.length fvc)) := ⟨KCS.out.later (Below.trans Kbwx.out (KB8.out.mono Kbwx.out.size))⟩
                  obtain ⟨ms9, hm1, hm2, hm3⟩ := KC0.out.fs
                  have c53 := KC0.out.b5.cell 3 _ rfl
                  obtain ⟨wa, hwa⟩ : ∃ wa, w8.alloc (.cells #[.slice ua nu uc, .int .i64 (nu : Nat)] 83) = wa := ⟨_, rfl⟩
                  have hba : Below w8.heap.size w8 wa := by rw [← hwa]; exact (Below.refl _ _).alloc (Nat.le_refl _) _
                  have KRa : Kept (wa.rangeAt w8.heap.size 0 [Value.slice ua nu uc, Value.int .i64 (nu : Nat)]) := ⟨by rw [← hwa]; exact (Bk.new w8 83 [.slice ua nu uc, .int .i64 (nu : Nat)]).range⟩
                  have KCa := Kept.mk (KC0.out.later hba)
                  have KPa := Kept.mk (KPw.out.later hba (Nat.le_refl _))
                  have KOa := Kept.mk (hm2.later hba)
                  have KMa : Kept (∀ m ∈ ms9, Own .u8 5 wa W2.heap.size m.v m.xs ∧ AllB m.xs) := ⟨fun m hm => ⟨(hm3 m hm).1.later hba (Nat.le_refl _), (hm3 m hm).2⟩⟩
                  have Km1 := Kept.mk hm1
                  have Kwa := Kept.mk hba.size
                  have Kl9 : Kept (ms9.length = fl.length) := ⟨by rw [← hm1, List.length_map]⟩
                  have KBxa : Kept (Below wx.heap.size wx wa) := ⟨KB8.out.trans (hba.mono KB8.out.size)⟩
                  have hlm9 : (ms9.map ctC).length ≤ 1000000 := by rw [List.length_map]; have := Kl9.out; have := Kll.out; omega
                  have KcW : Kept (W2.heap.size ≤ w8.heap.size) := ⟨KC0.out.fx.size⟩
                  clear hba hm1 hm2 hm3
                  go_upto_region 38 with (at_builtin; go_loud (refine wpList_plain rfl (fun K hK => wp_append_K _ _ 33 83 rfl 2 32 i1 z1 Tryz.underlying33 hi1 hz1 hsz1 hbb1 hcc1 (by decide) (by decide) W2.heap.size _ _ rfl KOa.out [Value.slice ua nu uc, Value.int .i64 (nu : Nat)] rfl (by simp; exact ⟨rfl, rfl⟩) w8.heap.size 1 rfl KRa.out hlm9 (by have := KcW.out; have := Kwa.out; omega) (fun v9 w9 o9 g9 => hK _ _ ?_)); obtain ⟨sa, sc, rfl⟩ := o9.form; have Kg9 := Kept.mk g9; have KO9 := Kept.mk o9; have b59 := KCa.out.b5.grow g9 (fun e => by have := (KOa.out.lt _ e).1; have := Kg5.out; omega); have K59 := Kept.mk b59; have c53 := b59.cell 3 _ rfl; have f53 := b59.frozen 3; clear o9 g9 b59))
                  have hl10 : (ms9.map ctC ++ [[Value.slice ua nu uc, Value.int .i64 (nu : Nat)]]).length = fl.length + 1 := by rw [List.length_append, List.length_map, Kl9.out]; rfl
                  rw [hl10] at KO9
                  try rw [Kl9.out]
                  obtain ⟨wb, hwb⟩ : ∃ wb, w9.setCell ⟨g5, 3, none⟩ (Value.slice sa (fl.length + 1) sc) = wb := ⟨_, rfl⟩
                  have KCb : Kept (CS W2 wb g5 D.quota nl (fl ++ [(xs.take s ++ (List.replicate kq (0 : Int)), (xs.take s ++ (List.replicate kq (0 : Int))).length)]) (.slice nva nvn nvc) (.slice sa (fl.length + 1) sc)) := ⟨by
                    rw [← hwb]
                    exact KCa.out.file (by have := Kg5.out; omega) KPa.out KAp.out Kg9.out ms9 Km1.out KOa.out KMa.out (by rw [KpL.out]; exact KO9.out)⟩
                  have d0 : wb.cell? ⟨g16, 0, none⟩ = some (.string xp) := by
                    rw [← hwb]
                    have h1 := (KBxa.out.cell (p := ⟨g16, 0, none⟩) Kg16.out.1).trans K16.out
                    have h2 : w9.cell? ⟨g16, 0, none⟩ = some (.string xp) := cell_of h1 (Kg9.out.block g16 (by have := KBxa.out.size; have := Kg16.out; omega) (fun e => by
                      obtain ⟨cu, hcu⟩ := ownsRow_blk KOa.out.1 e.symm
                      exact type_ne hcu (show wa.heap[g16]? = _ from (KBxa.out.block g16 Kg16.out.1).trans Kb16.out) (by decide) rfl))
                    exact cell_of h2 (Below.heap_setCell w9 _ _ g16 (by have := Kg16.out; have := Kg5.out; show g16 ≠ g5; omega))
                  try rw [hwb]
                  clear hwb c53 f53 KOa KCa KPa KO9 KRa hwa hl10 hlm9 K59 Kg9
                  have c50 := KCb.out.b5.cell 0 _ rfl
                  have f50 := KCb.out.b5.frozen 0
                  have c53 := KCb.out.b5.cell 3 _ rfl
                  have KPu := Kept.mk (put_any (.slice nva nvn nvc) nl xp (fl.length + 1) wb KCb.out.nm.rd (by have := Knl.out; omega))
                  go_wp2_with fail
                  refine Calls.mono KPu.out (fun e wc hp => ?_)
                  obtain ⟨vn9, rfl, hon, hbc⟩ := hp
                  obtain ⟨nwa, nwn, nwc, rfl⟩ := hon.form3
                  have c50 := (KCb.out.b5.below hbc).cell 0 _ rfl
                  have f50 := (KCb.out.b5.below hbc).frozen 0
                  obtain ⟨wd, hwd⟩ : ∃ wd, wc.setCell ⟨g5, 0, none⟩ (Value.slice nwa nwn nwc) = wd := ⟨_, rfl⟩
                  have KCd : Kept (CS W2 wd g5 D.quota (putF nl xp (fl.length + 1)) (fl ++ [(xs.take s ++ (List.replicate kq (0 : Int)), (xs.take s ++ (List.replicate kq (0 : Int))).length)]) (.slice nwa nwn nwc) (.slice sa (fl.length + 1) sc)) := ⟨by
                    rw [← hwd]
                    exact KCb.out.name (by have := Kg5.out; omega) hbc (own_names_mono hon KCb.out.fx.size)⟩
                  clear hon hbc KPu KCb d0 c53
                  go_wp2
                  try rw [hwd]
                  go_roundw
                  case rel => exact ⟨j + 1, i + 2, _, _, _, _, by omega, by go_num, by go_num, by omega, by rw [KFs.out, KR.out.1, KR.out.2], KCd.out⟩
                  case measure => simp [intOf]; omega
            · have h2 : (chs cs (i + 1)).tmod 2 = 0 := by rw [Int.tmod_eq_emod_of_nonneg hy.1]; omega
              have Kodd := Kept.mk hodd
              obtain ⟨y, hye⟩ : ∃ y, chs cs (i + 1) = y := ⟨_, rfl⟩
              rw [hye] at KCy h2
              clear hodd hy hye
              go_wp2
              go_loopw [117] (fun jv wr => ∃ n : Nat, n ≤ kq ∧ jv = .int .i64 n ∧ Below V0.heap.size V0 wr ∧ Own .u8 5 wr V0.heap.size (.slice qa kq qc) Xs) (fun jv _ => kq - (intOf jv).toNat)
              case atStart => exact ⟨0, Nat.zero_le _, rfl, KB6.out, KO6.out⟩
              case round =>
                obtain ⟨n, hn, rfl, hbel, hown⟩ := hrel
                have KOn := Kept.mk hown
                have KBn := Kept.mk hbel
                have KBnw : Kept (Below w.heap.size w wr) := ⟨KBV0.out.trans (hbel.mono KBV0.out.size)⟩
                clear hown hbel
                by_cases hn2 : n < kq
                · have hni : (n : Int) < (kq : Int) := by omega
                  have e4 : IntKind.i64.wrap ((n : Int) + 1) = (n : Int) + 1 := wr64 (by omega) (by have := Kkl.out; omega)
                  go_wp2_with fail
                  refine Calls.mono (KCy.out _ KBnw.out) (fun e wy2 hp => ?_)
                  obtain ⟨rfl, hw⟩ := hp
                  subst hw
                  go_wp2
                  go_roundw
                  case rel => exact ⟨n + 1, by omega, by go_num, KBn.out, KOn.out⟩
                  case measure => simp [intOf]; omega
                · skip
                  have hji5 : ¬ (n : Int) < (kq : Int) := by omega
                  have KY := Kept.mk (show Rd .u8 anyB wr (.slice qa kq qc) Xs from own_rd_any KOn.out)
                  have KBv := KBn
                  have KBy' : Kept (Below wy.heap.size wy wr) := ⟨KW0.out.trans (KBv.out.mono KW0.out.size)⟩
                  have KBx' : Kept (Below wx.heap.size wx wr) := ⟨KBxy.out.trans (KBy'.out.mono KBxy.out.size)⟩
                  have KPq : Kept (Own .u8 5 wr wy.heap.size (.slice ta s tc) (xs.take s)) := ⟨KP5.out.later (Kb50.out.trans (KBv.out.mono Kb50.out.size)) (Nat.le_refl _)⟩
                  have KYl : Kept (Xs.length = kq) := ⟨Kl6.out⟩
                  have KYA : Kept (AllB Xs) := ⟨KXA.out⟩
                  have KR : Kept (rmL xs s cs i = xs.take s ++ Xs ∧ rmN xs s i = i + 2) := ⟨by rw [KDf.out, KDn.out, if_neg Kne.out, if_neg Kne.out, Kqk.out, if_neg Kodd.out]; rw [KXs.out]; exact ⟨rfl, rfl⟩⟩
                  have hsl9 : (xs.take s).length ≤ 1000000 := by rw [List.length_take]; have := Kmx2.out; omega
                  have hkq9 : kq ≤ 1000000 := by have := Kkl.out; have := Kmx2.out; omega
                  go_upto_region 36 with (at_builtin; go_loud (refine wpList_append_rd _ rfl _ _ 23 rfl .u8 anyB 1 wy.heap.size 5 i8 z8 Tryz.underlying23 hi8 hz8 hs8 hb8 hc8 (by omega) (.slice ta s tc) (xs.take s) rfl KPq.out _ Xs rfl KY.out (by have h1 := KYl.out; omega) KBy'.out.size ?_; intro v8 w8 ho8 g8 hat8; obtain ⟨ua, uc, hv8⟩ := own_form ho8; obtain ⟨nu, hnu⟩ : ∃ nu, (xs.take s ++ Xs).length = nu := ⟨_, rfl⟩; rw [hnu] at hv8; subst hv8; have KpL := Kept.mk hnu; have KB8 := Kept.mk (KBx'.out.grown g8 KBx'.out.size (fun q hq => by have := (KPq.out.lt q hq).1; have := KBxy.out.size; omega)); have KP8 := Kept.mk ho8; clear ho8 g8 hat8 hnu))
                  have KPw : Kept (Own .u8 5 w8 W2.heap.size (.slice ua nu uc) (xs.take s ++ Xs)) := ⟨KP8.out.mono (by have := KBxy.out.size; have := Kg16.out; omega)⟩
                  have KAp : Kept (AllB (xs.take s ++ Xs)) := ⟨fun y hy => (List.mem_append.1 hy).elim (AllIn.take Kmd.out.2 s y) (KYA.out y)⟩
                  have e8i : IntKind.i64.wrap ((i : Int) + 2) = (i : Int) + 2 := wr64 (by omega) (by have := KLn.out; omega)
                  clear KP8 hsl9 hkq9
                  go_upto_region 37 with fail
                  clear e8i
                  have KC0 : Kept (CS W2 w8 g5 D.quota nl fl (.slice nva nvn nvc) (.slice fva fl.length fvc)) := ⟨KCS.out.later (Below.trans Kbwx.out (KB8.out.mono Kbwx.out.size))⟩
                  obtain ⟨ms9, hm1, hm2, hm3⟩ := KC0.out.fs
                  have c53 := KC0.out.b5.cell 3 _ rfl
                  obtain ⟨wa, hwa⟩ : ∃ wa, w8.alloc (.cells #[.slice ua nu uc, .int .i64 (nu : Nat)] 83) = wa := ⟨_, rfl⟩
                  have hba : Below w8.heap.size w8 wa := by rw [← hwa]; exact (Below.refl _ _).alloc (Nat.le_refl _) _
                  have KRa : Kept (wa.rangeAt w8.heap.size 0 [Value.slice ua nu uc, Value.int .i64 (nu : Nat)]) := ⟨by rw [← hwa]; exact (Bk.new w8 83 [.slice ua nu uc, .int .i64 (nu : Nat)]).range⟩
                  have KCa := Kept.mk (KC0.out.later hba)
                  have KPa := Kept.mk (KPw.out.later hba (Nat.le_refl _))
                  have KOa := Kept.mk (hm2.later hba)
                  have KMa : Kept (∀ m ∈ ms9, Own .u8 5 wa W2.heap.size m.v m.xs ∧ AllB m.xs) := ⟨fun m hm => ⟨(hm3 m hm).1.later hba (Nat.le_refl _), (hm3 m hm).2⟩⟩
                  have Km1 := Kept.mk hm1
                  have Kwa := Kept.mk hba.size
                  have Kl9 : Kept (ms9.length = fl.length) := ⟨by rw [← hm1, List.length_map]⟩
                  have KBxa : Kept (Below wx.heap.size wx wa) := ⟨KB8.out.trans (hba.mono KB8.out.size)⟩
                  have hlm9 : (ms9.map ctC).length ≤ 1000000 := by rw [List.length_map]; have := Kl9.out; have := Kll.out; omega
                  have KcW : Kept (W2.heap.size ≤ w8.heap.size) := ⟨KC0.out.fx.size⟩
                  clear hba hm1 hm2 hm3
                  go_upto_region 38 with (at_builtin; go_loud (refine wpList_plain rfl (fun K hK => wp_append_K _ _ 33 83 rfl 2 32 i1 z1 Tryz.underlying33 hi1 hz1 hsz1 hbb1 hcc1 (by decide) (by decide) W2.heap.size _ _ rfl KOa.out [Value.slice ua nu uc, Value.int .i64 (nu : Nat)] rfl (by simp; exact ⟨rfl, rfl⟩) w8.heap.size 1 rfl KRa.out hlm9 (by have := KcW.out; have := Kwa.out; omega) (fun v9 w9 o9 g9 => hK _ _ ?_)); obtain ⟨sa, sc, rfl⟩ := o9.form; have Kg9 := Kept.mk g9; have KO9 := Kept.mk o9; have b59 := KCa.out.b5.grow g9 (fun e => by have := (KOa.out.lt _ e).1; have := Kg5.out; omega); have K59 := Kept.mk b59; have c53 := b59.cell 3 _ rfl; have f53 := b59.frozen 3; clear o9 g9 b59))
                  have hl10 : (ms9.map ctC ++ [[Value.slice ua nu uc, Value.int .i64 (nu : Nat)]]).length = fl.length + 1 := by rw [List.length_append, List.length_map, Kl9.out]; rfl
                  rw [hl10] at KO9
                  try rw [Kl9.out]
                  obtain ⟨wb, hwb⟩ : ∃ wb, w9.setCell ⟨g5, 3, none⟩ (Value.slice sa (fl.length + 1) sc) = wb := ⟨_, rfl⟩
                  have KCb : Kept (CS W2 wb g5 D.quota nl (fl ++ [(xs.take s ++ Xs, (xs.take s ++ Xs).length)]) (.slice nva nvn nvc) (.slice sa (fl.length + 1) sc)) := ⟨by
                    rw [← hwb]
                    exact KCa.out.file (by have := Kg5.out; omega) KPa.out KAp.out Kg9.out ms9 Km1.out KOa.out KMa.out (by rw [KpL.out]; exact KO9.out)⟩
                  have d0 : wb.cell? ⟨g16, 0, none⟩ = some (.string xp) := by
                    rw [← hwb]
                    have h1 := (KBxa.out.cell (p := ⟨g16, 0, none⟩) Kg16.out.1).trans K16.out
                    have h2 : w9.cell? ⟨g16, 0, none⟩ = some (.string xp) := cell_of h1 (Kg9.out.block g16 (by have := KBxa.out.size; have := Kg16.out; omega) (fun e => by
                      obtain ⟨cu, hcu⟩ := ownsRow_blk KOa.out.1 e.symm
                      exact type_ne hcu (show wa.heap[g16]? = _ from (KBxa.out.block g16 Kg16.out.1).trans Kb16.out) (by decide) rfl))
                    exact cell_of h2 (Below.heap_setCell w9 _ _ g16 (by have := Kg16.out; have := Kg5.out; show g16 ≠ g5; omega))
                  try rw [hwb]
                  clear hwb c53 f53 KOa KCa KPa KO9 KRa hwa hl10 hlm9 K59 Kg9
                  have c50 := KCb.out.b5.cell 0 _ rfl
                  have f50 := KCb.out.b5.frozen 0
                  have c53 := KCb.out.b5.cell 3 _ rfl
                  have KPu := Kept.mk (put_any (.slice nva nvn nvc) nl xp (fl.length + 1) wb KCb.out.nm.rd (by have := Knl.out; omega))
                  go_wp2_with fail
                  refine Calls.mono KPu.out (fun e wc hp => ?_)
                  obtain ⟨vn9, rfl, hon, hbc⟩ := hp
                  obtain ⟨nwa, nwn, nwc, rfl⟩ := hon.form3
                  have c50 := (KCb.out.b5.below hbc).cell 0 _ rfl
                  have f50 := (KCb.out.b5.below hbc).frozen 0
                  obtain ⟨wd, hwd⟩ : ∃ wd, wc.setCell ⟨g5, 0, none⟩ (Value.slice nwa nwn nwc) = wd := ⟨_, rfl⟩
                  have KCd : Kept (CS W2 wd g5 D.quota (putF nl xp (fl.length + 1)) (fl ++ [(xs.take s ++ Xs, (xs.take s ++ Xs).length)]) (.slice nwa nwn nwc) (.slice sa (fl.length + 1) sc)) := ⟨by
                    rw [← hwd]
                    exact KCb.out.name (by have := Kg5.out; omega) hbc (own_names_mono hon KCb.out.fx.size)⟩
                  clear hon hbc KPu KCb d0 c53
                  go_wp2
                  try rw [hwd]
                  go_roundw
                  case rel => exact ⟨j + 1, i + 2, _, _, _, _, by omega, by go_num, by go_num, by omega, by rw [KFs.out, KR.out.1, KR.out.2], KCd.out⟩
                  case measure => simp [intOf]; omega
        · skip
          have hji : ¬ (j : Int) < (L.length : Int) := by omega
          have KE : Kept (crashF D cs (foldersF D.pend) = { names := nl, lasting := nl, pend := [], files := fl, quota := D.quota, offAt := 0, count := 0, off := false }) := ⟨by
            have h1 := KFo.out
            rw [List.take_of_length_le (by omega)] at h1
            unfold crashF
            rw [KhL.out, KKN.out, h1]⟩
          have c50 := KCS.out.b5.cell 0 _ rfl
          have c51 := KCS.out.b5.cell 1 _ rfl
          have f51 := KCS.out.b5.frozen 1
          obtain ⟨wb, hwb⟩ : ∃ wb, wr.setCell ⟨g5, 1, none⟩ (Value.slice nva nvn nvc) = wb := ⟨_, rfl⟩
          have K5b : Kept (Bk wb g5 36 [.slice nva nvn nvc, .slice nva nvn nvc, .slice none 0 0, .slice fva fl.length fvc, .int .i64 D.quota, .slice none 0 0, .int .i64 0, .int .i64 0, .bool false]) := ⟨by rw [← hwb]; exact KCS.out.b5.set 1 _⟩
          have K4b : Kept (Bk wb g4 36 [.slice none 0 0, .slice none 0 0, .slice none 0 0, .slice none 0 0, .int .i64 0, .slice none 0 0, .int .i64 0, .int .i64 0, .bool false]) := ⟨by rw [← hwb]; exact KKr.out.2.store (by have := Kg5.out; omega)⟩
          have KBb : Kept (Below w.heap.size w wb) := ⟨by rw [← hwb]; exact KBwr.out.setCell (p := ⟨g5, 1, none⟩) (by show w.heap.size ≤ g5; have := Kg5.out; omega) _⟩
          have KDb : Kept (DM (Gb G w w3.heap.size) wb { names := nl, lasting := nl, pend := [], files := fl, quota := D.quota, offAt := 0, count := 0, off := false } ⟨.slice nva nvn nvc, .slice nva nvn nvc, .slice none 0 0, .slice fva fl.length fvc⟩) := ⟨by
            obtain ⟨ms9, hm1, hm2, hm3⟩ := KCS.out.fs
            have st : ∀ q, W2.heap.size ≤ q → wb.heap[q]? = wr.heap[q]? := fun q hq => by rw [← hwb]; exact Below.heap_setCell wr _ _ q (by have := Kg5.out; show q ≠ g5; omega)
            have hn := own_gb (G := G) (w := w) (n := w3.heap.size) (KCS.out.nm.far (w' := wb) (fun q hq => st q (KCS.out.nm.lt q hq).1)) (by have := Kg5.out; omega)
            refine ⟨hn, hn, RdK.nil _ _ _, ms9, hm1, own_gb (hm2.far (w' := wb) (fun q hq => st q (hm2.lt q hq).1)) (by have := Kg5.out; omega), fun m hm => ⟨?_, (hm3 m hm).2⟩⟩
            have ho := (hm3 m hm).1.far (w' := wb) (fun q hq => st q ((hm3 m hm).1.lt q hq).1)
            exact ho.rd.weak (fun q _ hq => .inr (by have := (ho.lt q hq).1; have := Kg5.out; omega))⟩
          go_upto_region 41 with fail
          try rw [hwb]
          clear hwb c50 c51 f51
          have KR := Kept.mk K5b.out.range
          obtain ⟨wz, hwz⟩ : ∃ wz, wb.setRow g4 #[.slice nva nvn nvc, .slice nva nvn nvc, .slice none 0 0, .slice fva fl.length fvc, .int .i64 D.quota, .slice none 0 0, .int .i64 0, .int .i64 0, .bool false] = wz := ⟨_, rfl⟩
          have Krow : Kept (wz.heap[g4]? = some (.cells #[.slice nva nvn nvc, .slice nva nvn nvc, .slice none 0 0, .slice fva fl.length fvc, .int .i64 D.quota, .slice none 0 0, .int .i64 0, .int .i64 0, .bool false] 36 (0, 0))) := ⟨by rw [← hwz]; exact setRow_heap wb g4 _ _ _ _ K4b.out⟩
          have KBz : Kept (Below w.heap.size w wz) := ⟨by rw [← hwz]; exact below_row KBb.out (by have := Kg.out; omega) _⟩
          have KEz : Kept (DM (Gn G w) wz { names := nl, lasting := nl, pend := [], files := fl, quota := D.quota, offAt := 0, count := 0, off := false } ⟨.slice nva nvn nvc, .slice nva nvn nvc, .slice none 0 0, .slice fva fl.length fvc⟩) := ⟨by rw [← hwz]; exact KDb.out.row (by have := Kg.out; omega) (by have := Kg.out; omega) _⟩
          have hone := Kept.mk (dm_ones KDb.out D.quota 0 0 false)
          go_wp2_with (first | (refine wpList_load_mid rfl 36 _ rfl g5 0 rfl _ _ KR.out Tryz.underlying36 rfl infoDisk ?_) | (refine BigFrame.wpList_want rfl (fun K hK => wp_store_row 36 _ _ rfl g4 #[.slice nva nvn nvc, .slice nva nvn nvc, .slice none 0 0, .slice fva fl.length fvc, .int .i64 D.quota, .slice none 0 0, .int .i64 0, .int .i64 0, .bool false] rfl rfl 36 _ K4b.out infoDisk rfl hone.out (hK _ _ ?_)); rw [hwz]))
          refine bodyPost_ret (results_row1 rfl _ _ g4 36 #[.slice nva nvn nvc, .slice nva nvn nvc, .slice none 0 0, .slice fva fl.length fvc, .int .i64 D.quota, .slice none 0 0, .int .i64 0, .int .i64 0, .bool false] (0, 0) _ rfl Krow.out Tryz.underlying36 rfl infoDisk) rfl ?_
          rw [KE.out]
          exact ⟨⟨.slice nva nvn nvc, .slice nva nvn nvc, .slice none 0 0, .slice fva fl.length fvc⟩, rfl, KEz.out, by have := KBz.out; first | exact this | rwa [hgw] at this⟩
end Go.Proofs.YtegdadkejheagaaGreatDoor
