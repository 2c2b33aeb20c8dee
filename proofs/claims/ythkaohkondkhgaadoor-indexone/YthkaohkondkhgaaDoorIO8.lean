/-
  Set.
-/
import Derived.Test.YthkaohkondkhgaaDoorIO7
namespace Go.Proofs.YthkaohkondkhgaaDoor
open Go.RowKit

theorem orE_any (x y : Int) : [x, y].foldl lsF 0 = 0 ↔ x = 0 ∧ y = 0 := by
  simp only [List.foldl_cons, List.foldl_nil, lsF_eq]
  by_cases hx : x = 0
  · subst hx
    by_cases hy : y = 0
    · subst hy; simp
    · simp [hy]
  · by_cases hy : y = 0
    · subst hy; simp [hx]
    · simp only [if_neg hx, if_neg hy, if_true]
      split <;> simp [hx, hy]
/-- Slots that were laid one by one, sorted: which they are. -/
structure SetE (es ws L : List SlC) (p : ByteArray) (E : Int) : Prop where
  bad : E ≠ 0 → L = []
  good : E = 0 → (∀ x ∈ ws, x.pt = p) ∧ chkE L = 0 ∧ L.Perm (es.filter (othF p) ++ ws)
set_option maxHeartbeats 4000000 in
set_option maxRecDepth 100000 in
theorem set_any (p : ByteArray) (v u : Value) (es ws : List SlC) (w : World) (hg : Gl w) (hr : RdZ w v es) (hs : RdZ w u ws) (hl : es.length ≤ 1000) (hm : ws.length ≤ 1000) :
    Calls Tryd.prog 18 #[v, .string p, u] w fun x w' => ∃ v' E L, x = .returned (.tuple #[v', .int .i64 E]) ∧ RdZ w' v' L ∧ L.length ≤ 2000 ∧ SetE es ws L p E ∧ Below w.heap.size w w' := by
  have KCk := Kept.mk (check_any v es w hg hr (by omega))
  have KSn : Kept (∀ W, Below w.heap.size w W → Calls Tryd.prog 35 #[.string p, u] W fun e w' => ∃ E, e = .returned (.int .i64 E) ∧ (E = 0 → pathF p = true ∧ ∀ x ∈ ws, x.pt = p) ∧ Below W.heap.size W w') := ⟨fun W hW => setName_any p u ws W (hg.later hW) (hs.later hW) (by omega)⟩
  have KG := Kept.mk hg
  have KE := Kept.mk hr
  have KW := Kept.mk hs
  obtain ⟨a, c, hv, hlc, -⟩ := hr
  subst hv
  obtain ⟨a2, c2, hv, hlc2, -⟩ := hs
  subst hv
  clear hg
  obtain ⟨E1, hE1⟩ : ∃ E1, chkE es = E1 := ⟨_, rfl⟩
  rw [hE1] at KCk
  clear hE1
  go_enter Tryd.func18, Tryd.ntmps18
  go_wp2_with fail
  refine Calls.mono KCk.out (fun x w1 hp => ?_)
  obtain ⟨rfl, hb1⟩ := hp
  have KB1 := Kept.mk hb1
  have KSn1 := Kept.mk (KSn.out w1 hb1)
  clear hb1 KCk KSn
  go_wp2_with fail
  refine Calls.mono KSn1.out (fun x w2 hp => ?_)
  obtain ⟨E2, rfl, hE2, hb2⟩ := hp
  have KB2 := Kept.mk (KB1.out.trans (hb2.mono KB1.out.size))
  have KE2 := Kept.mk hE2
  clear hb2 hE2 KSn1
  have KB3 := Kept.mk (KB2.out.alloc KB2.out.size (.cells #[.int .i64 E1, .int .i64 E2] 26))
  have KLe := Kept.mk (fleast_any [E1, E2] w2.heap.size (w2.alloc (.cells #[.int .i64 E1, .int .i64 E2] 26)) (heap_alloc_new w2 _) (by simp))
  obtain ⟨E3, hE3⟩ : ∃ E3, [E1, E2].foldl lsF 0 = E3 := ⟨_, rfl⟩
  rw [hE3] at KLe
  have KE3 : Kept (E3 = 0 → ∀ x ∈ ws, x.pt = p) := ⟨fun h => by
    have := (orE_any E1 E2).1 (hE3.trans h)
    exact (KE2.out this.2).2⟩
  clear hE3
  go_wp2_with fail
  refine Calls.mono KLe.out (fun x w3 hp => ?_)
  obtain ⟨rfl, hw3⟩ := hp
  rw [hw3]
  clear hw3
  obtain ⟨w4, hw4⟩ : ∃ w4, w2.alloc (.cells #[.int .i64 E1, .int .i64 E2] 26) = w4 := ⟨_, rfl⟩
  rw [hw4] at KB3 ⊢
  clear hw4 KLe KB1 KB2 KE2
  go_wp2
  go_loopw [9, 24] (fun mv kv wr => ∃ k : Nat, k ≤ es.length ∧ kv = .int .i64 k ∧ (∃ am cm, mv = .slice am ((es.take k).filter (othF p)).length cm) ∧ OwnZ wr w.heap.size mv ((es.take k).filter (othF p)) ∧ Below w.heap.size w wr) (fun _ kv _ => es.length - (intOf kv).toNat)
  case atStart => exact ⟨0, Nat.zero_le _, rfl, ⟨none, 0, rfl⟩, OwnZ.nil _ _, KB3.out⟩
  case round =>
    obtain ⟨k, hk, rfl, ⟨am, cm, rfl⟩, hO, hbel⟩ := hrel
    have KBr := Kept.mk hbel
    have KO := Kept.mk hO
    have KK := Kept.mk KE.out.ok
    have KR : Kept (0 < es.length → ∃ b off, a = some ⟨b, off, none⟩ ∧ b < w.heap.size ∧ ∀ i (hi : i < es.length), w.rangeAt b (off + i * 37) (es[i]'hi).l) := ⟨by
      obtain ⟨a', c', hv, -, -, h⟩ := KE.out
      injection hv with h1 h2 h3
      subst h1
      exact h⟩
    by_cases hlt : k < es.length
    · have hki : (k : Int) < (es.length : Int) := by omega
      obtain ⟨b, off, hab, hbl, hrg⟩ := KR.out (by omega)
      subst hab
      have hR : Kept (wr.rangeAt b (off + k * 37) (es[k]'hlt).l) := ⟨fun j u hu => by
        rw [hbel.cell (p := ⟨b, off + k * 37 + j, none⟩) hbl]
        exact hrg k hlt j u hu⟩
      have hko := KK.out _ (List.getElem_mem hlt)
      have KI := Kept.mk (SlC.info hko)
      have Kok := Kept.mk hko
      have KfL := Kept.mk (SlC.len hko)
      obtain ⟨x2, hx2, hBx, hzx, hbx, hcx⟩ := SlC.box wr hko
      have KBx := Kept.mk (KBr.out.trans (hBx.mono KBr.out.size))
      have KOx := Kept.mk (KO.out.later hBx (Nat.le_refl _))
      have Kcx := Kept.mk hcx
      have KRx : Kept (x2.rangeAt wr.heap.size 0 (es[k]'hlt).l) := ⟨fun j u hu => by
        unfold World.cell?
        simp only [hbx]
        rw [Nat.zero_add, List.getElem?_toArray]
        exact hu⟩
      have KOw : Kept (Calls Tryd.prog 36 #[.agg (es[k]'hlt).l.toArray] x2 fun x w' => x = .returned (.agg (es[k]'hlt).l.toArray) ∧ Below x2.heap.size x2 w') := ⟨own_any hko x2⟩
      have KI2 : Kept ((Tryd.prog.info? 41).map (·.size) = some (es[k]'hlt).l.toArray.size) := ⟨by rw [List.size_toArray]; exact KI.out⟩
      have KSz : Kept ((es[k]'hlt).l.toArray.size = 37) := ⟨by rw [List.size_toArray]; exact KfL.out⟩
      have KOn : Kept ((es[k]'hlt).l.toArray.all (·.oneCell') = true) := ⟨by rw [Array.all_eq_true_iff_forall_mem]; intro x hx; exact SlC.ones _ x (by simpa using hx)⟩
      have KTk : Kept (es.take (k + 1) = es.take k ++ [es[k]'hlt]) := ⟨by rw [List.take_add_one, List.getElem?_eq_getElem hlt]; rfl⟩
      obtain ⟨e, he⟩ : ∃ e, es[k]'hlt = e := ⟨_, rfl⟩
      rw [he] at hR KI Kok KfL hx2 Kcx KRx KOw KI2 KSz KOn KTk
      clear he hbel hO hrg hko hbx hBx hcx hzx
      have KFl : Kept ((es.take (k + 1)).filter (othF p) = (es.take k).filter (othF p) ++ if othF p e then [e] else []) := ⟨by
        rw [KTk.out, List.filter_append]
        congr 1
        simp [List.filter]
        split <;> simp_all⟩
      have KM : Kept (((es.take k).filter (othF p)).length ≤ 1000) := ⟨by
        have h1 := List.length_filter_le (othF p) (es.take k)
        rw [List.length_take] at h1
        omega⟩
      obtain ⟨M, hM⟩ : ∃ M, (es.take k).filter (othF p) = M := ⟨_, rfl⟩
      rw [hM] at KFl KM KO KOx ⊢
      clear hM
      have APPK : Kept (∀ W, Below x2.heap.size x2 W → ∃ x4, W.alloc (.cells e.l.toArray 41) = x4 ∧ x4.rangeAt W.heap.size 0 e.l ∧ Below x2.heap.size x2 x4) := ⟨fun W hW => by
        obtain ⟨x4, hx4, hB4, hz4, hb4, -⟩ := SlC.box W Kok.out
        refine ⟨x4, hx4, fun j u hu => ?_, hW.trans (hB4.mono hW.size)⟩
        unfold World.cell?
        simp only [hb4]
        rw [Nat.zero_add, List.getElem?_toArray]
        exact hu⟩
      have hq : (!(e.pt.toList == p.toList)) = othF p e := str_neq e.pt p
      obtain ⟨q, hqq⟩ : ∃ q, othF p e = q := ⟨_, rfl⟩
      rw [hqq] at hq KFl
      obtain ⟨c0, -⟩ := Kcx.out x2 (CC.refl _)
      clear hqq
      go_upto_region 6 with (first | (refine wpList_load_mid rfl 41 _ rfl b (off + k * 37) rfl e.l _ hR.out Tryd.underlying41 rfl KI.out ?_) | (refine BigFrame.wpList_want rfl (fun K hK => wp_store_row 41 _ _ rfl wr.heap.size e.l.toArray rfl rfl 41 _ (heap_alloc_new wr _) KI2.out (by rw [KSz.out]; rfl) KOn.out (hK _ _ ?_)); rw [World.setRow_alloc_new]))
      try rw [hx2]
      cases q with
      | false =>
        go_wp2
        go_roundw
        case rel =>
          refine ⟨k + 1, hlt, by go_num, ⟨am, cm, ?_⟩, ?_, KBx.out⟩
          · rw [KFl.out]; simp
          · rw [KFl.out]; simpa using KOx.out
        case measure => simp [intOf]; omega
      | true =>
        go_wp2_with (refine wpList_load_mid rfl 41 _ rfl wr.heap.size 0 rfl e.l _ KRx.out Tryd.underlying41 rfl KI.out ?_)
        refine Calls.mono KOw.out (fun x w5 hp => ?_)
        obtain ⟨rfl, hb5⟩ := hp
        obtain ⟨x6, hx6, hR6, hB6⟩ := APPK.out w5 hb5
        have KR6 := Kept.mk hR6
        have KO6 := Kept.mk (KOx.out.later hB6 (Nat.le_refl _))
        have KB6 := Kept.mk (KBx.out.trans (hB6.mono KBx.out.size))
        have hsz6 : w.heap.size ≤ x6.heap.size := KB6.out.size
        clear hb5 hR6 hB6
        go_wp2_with (first | (refine wpList_sliceZ rfl _ rfl e.l KfL.out rfl ?_; rw [hx6]) | (at_builtin; refine wpList_append_Z _ rfl _ _ rfl w.heap.size (.slice am M.length cm) M rfl KO6.out e Kok.out w5.heap.size 1 rfl KR6.out (by have := KM.out; omega) hsz6 ?_; intro v7 w7 hown hgrow; obtain ⟨a7, c7, rfl, -⟩ := hown.form; have KO7 := Kept.mk hown; have KG7 := Kept.mk hgrow; clear hown hgrow))
        have KB7 : Kept (Below w.heap.size w w7) := ⟨KB6.out.grown KG7.out hsz6 (fun g hg => (KO6.out.lt g hg).1)⟩
        go_roundw
        case rel =>
          refine ⟨k + 1, hlt, by go_num, ⟨a7, c7, ?_⟩, ?_, KB7.out⟩
          · rw [KFl.out]; simp
          · rw [KFl.out]; simpa using KO7.out
        case measure => simp [intOf]; omega
    · have hki : ¬ (k : Int) < (es.length : Int) := by omega
      obtain rfl : k = es.length := by omega
      rw [List.take_length] at KO ⊢
      have KM : Kept ((es.filter (othF p)).length ≤ 1000) := ⟨by have h1 := List.length_filter_le (othF p) es; omega⟩
      clear hbel hO
      obtain ⟨F, hF⟩ : ∃ F, es.filter (othF p) = F := ⟨_, rfl⟩
      have KF := Kept.mk hF
      rw [hF] at KM KO ⊢
      clear hF
      have KFo := KO
      have KFb := KBr
      go_wp2
      go_loopw [9, 40] (fun mv kv wr => ∃ k : Nat, k ≤ ws.length ∧ kv = .int .i64 k ∧ (∃ am cm, mv = .slice am (F ++ ws.take k).length cm) ∧ OwnZ wr w.heap.size mv (F ++ ws.take k) ∧ Below w.heap.size w wr) (fun _ kv _ => ws.length - (intOf kv).toNat)
      case atStart => exact ⟨0, Nat.zero_le _, rfl, ⟨am, cm, by simp⟩, by simpa using KFo.out, KFb.out⟩
      case round =>
        obtain ⟨k, hk, rfl, ⟨am, cm, rfl⟩, hO, hbel⟩ := hrel
        have KBr := Kept.mk hbel
        have KO := Kept.mk hO
        have KK2 := Kept.mk KW.out.ok
        have KR2 : Kept (0 < ws.length → ∃ b off, a2 = some ⟨b, off, none⟩ ∧ b < w.heap.size ∧ ∀ i (hi : i < ws.length), w.rangeAt b (off + i * 37) (ws[i]'hi).l) := ⟨by
          obtain ⟨a', c', hv, -, -, h⟩ := KW.out
          injection hv with h1 h2 h3
          subst h1
          exact h⟩
        by_cases hlt : k < ws.length
        · have hki : (k : Int) < (ws.length : Int) := by omega
          obtain ⟨b, off, hab, hbl, hrg⟩ := KR2.out (by omega)
          subst hab
          have hR : Kept (wr.rangeAt b (off + k * 37) (ws[k]'hlt).l) := ⟨fun j u hu => by
            rw [hbel.cell (p := ⟨b, off + k * 37 + j, none⟩) hbl]
            exact hrg k hlt j u hu⟩
          have hko := KK2.out _ (List.getElem_mem hlt)
          have KI := Kept.mk (SlC.info hko)
          have Kok := Kept.mk hko
          have KfL := Kept.mk (SlC.len hko)
          obtain ⟨x2, hx2, hBx, hzx, hbx, hcx⟩ := SlC.box wr hko
          have KBx := Kept.mk (KBr.out.trans (hBx.mono KBr.out.size))
          have KOx := Kept.mk (KO.out.later hBx (Nat.le_refl _))
          have Kcx := Kept.mk hcx
          have KRx : Kept (x2.rangeAt wr.heap.size 0 (ws[k]'hlt).l) := ⟨fun j u hu => by
            unfold World.cell?
            simp only [hbx]
            rw [Nat.zero_add, List.getElem?_toArray]
            exact hu⟩
          have KOw : Kept (Calls Tryd.prog 36 #[.agg (ws[k]'hlt).l.toArray] x2 fun x w' => x = .returned (.agg (ws[k]'hlt).l.toArray) ∧ Below x2.heap.size x2 w') := ⟨own_any hko x2⟩
          have KI2 : Kept ((Tryd.prog.info? 41).map (·.size) = some (ws[k]'hlt).l.toArray.size) := ⟨by rw [List.size_toArray]; exact KI.out⟩
          have KSz : Kept ((ws[k]'hlt).l.toArray.size = 37) := ⟨by rw [List.size_toArray]; exact KfL.out⟩
          have KOn : Kept ((ws[k]'hlt).l.toArray.all (·.oneCell') = true) := ⟨by rw [Array.all_eq_true_iff_forall_mem]; intro x hx; exact SlC.ones _ x (by simpa using hx)⟩
          have KTk : Kept (ws.take (k + 1) = ws.take k ++ [ws[k]'hlt]) := ⟨by rw [List.take_add_one, List.getElem?_eq_getElem hlt]; rfl⟩
          obtain ⟨e, he⟩ : ∃ e, ws[k]'hlt = e := ⟨_, rfl⟩
          rw [he] at hR KI Kok KfL hx2 Kcx KRx KOw KI2 KSz KOn KTk
          clear he hbel hO hrg hko hbx hBx hcx hzx
          have KM2 : Kept ((F ++ ws.take k).length ≤ 2000) := ⟨by
            have h1 := KM.out
            rw [List.length_append, List.length_take]
            omega⟩
          have KFl : Kept (F ++ ws.take (k + 1) = (F ++ ws.take k) ++ [e]) := ⟨by rw [KTk.out, List.append_assoc]⟩
          obtain ⟨M, hM⟩ : ∃ M, F ++ ws.take k = M := ⟨_, rfl⟩
          rw [hM] at KFl KM2 KO KOx ⊢
          clear hM
          have KM := KM2
          have APPK : Kept (∀ W, Below x2.heap.size x2 W → ∃ x4, W.alloc (.cells e.l.toArray 41) = x4 ∧ x4.rangeAt W.heap.size 0 e.l ∧ Below x2.heap.size x2 x4) := ⟨fun W hW => by
            obtain ⟨x4, hx4, hB4, hz4, hb4, -⟩ := SlC.box W Kok.out
            refine ⟨x4, hx4, fun j u hu => ?_, hW.trans (hB4.mono hW.size)⟩
            unfold World.cell?
            simp only [hb4]
            rw [Nat.zero_add, List.getElem?_toArray]
            exact hu⟩
          go_upto_region 12 with (first | (refine wpList_load_mid rfl 41 _ rfl b (off + k * 37) rfl e.l _ hR.out Tryd.underlying41 rfl KI.out ?_) | (refine BigFrame.wpList_want rfl (fun K hK => wp_store_row 41 _ _ rfl wr.heap.size e.l.toArray rfl rfl 41 _ (heap_alloc_new wr _) KI2.out (by rw [KSz.out]; rfl) KOn.out (hK _ _ ?_)); rw [World.setRow_alloc_new]))
          try rw [hx2]
          go_wp2_with (refine wpList_load_mid rfl 41 _ rfl wr.heap.size 0 rfl e.l _ KRx.out Tryd.underlying41 rfl KI.out ?_)
          refine Calls.mono KOw.out (fun x w5 hp => ?_)
          obtain ⟨rfl, hb5⟩ := hp
          obtain ⟨x6, hx6, hR6, hB6⟩ := APPK.out w5 hb5
          have KR6 := Kept.mk hR6
          have KO6 := Kept.mk (KOx.out.later hB6 (Nat.le_refl _))
          have KB6 := Kept.mk (KBx.out.trans (hB6.mono KBx.out.size))
          have hsz6 : w.heap.size ≤ x6.heap.size := KB6.out.size
          clear hb5 hR6 hB6
          go_wp2_with (first | (refine wpList_sliceZ rfl _ rfl e.l KfL.out rfl ?_; rw [hx6]) | (at_builtin; refine wpList_append_Z _ rfl _ _ rfl w.heap.size (.slice am M.length cm) M rfl KO6.out e Kok.out w5.heap.size 1 rfl KR6.out (by have := KM.out; omega) hsz6 ?_; intro v7 w7 hown hgrow; obtain ⟨a7, c7, rfl, -⟩ := hown.form; have KO7 := Kept.mk hown; have KG7 := Kept.mk hgrow; clear hown hgrow))
          have KB7 : Kept (Below w.heap.size w w7) := ⟨KB6.out.grown KG7.out hsz6 (fun g hg => (KO6.out.lt g hg).1)⟩
          go_roundw
          case rel =>
            refine ⟨k + 1, hlt, by go_num, ⟨a7, c7, ?_⟩, ?_, KB7.out⟩
            · rw [KFl.out]; simp
            · rw [KFl.out]; simpa using KO7.out
          case measure => simp [intOf]; omega
        · have hki : ¬ (k : Int) < (ws.length : Int) := by omega
          obtain rfl : k = ws.length := by omega
          rw [List.take_length] at KO ⊢
          have KM2 : Kept ((F ++ ws).length ≤ 2000) := ⟨by have h1 := KM.out; rw [List.length_append]; omega⟩
          obtain ⟨M, hM⟩ : ∃ M, F ++ ws = M := ⟨_, rfl⟩
          have KMe := Kept.mk hM
          rw [hM] at KM2 KO ⊢
          clear hbel hO hM
          have KSo := Kept.mk (sortZ_any (.slice am M.length cm) M wr w.heap.size KO.out (by have := KM2.out; omega))
          go_wp2_with fail
          refine Calls.mono KSo.out (fun x w3 hp => ?_)
          obtain ⟨rfl, L, hperm, hpw, hrd, hgb⟩ := hp
          have hB3 := hgb.below (B := w.heap.size) KBr.out.size (fun g hg => (KO.out.lt g hg).1)
          have KB3 := Kept.mk (KBr.out.trans hB3)
          have KL := Kept.mk hrd
          have hLM : L.length = M.length := hperm.length_eq
          have KPm := Kept.mk hperm
          have KCk := Kept.mk (check_any (.slice am M.length cm) L w3 (KG.out.later KB3.out) hrd (by have := KM2.out; omega))
          obtain ⟨E4, hE4⟩ : ∃ E4, chkE L = E4 := ⟨_, rfl⟩
          rw [hE4] at KCk
          have KE4 := Kept.mk hE4
          clear hrd hgb hB3 hpw hperm hE4 KSo
          go_wp2_with fail
          refine Calls.mono KCk.out (fun x w4 hp => ?_)
          obtain ⟨rfl, hb4⟩ := hp
          have KB4 := Kept.mk (KB3.out.trans (hb4.mono KB3.out.size))
          have KL4 := Kept.mk (KL.out.later hb4)
          have KB5 := Kept.mk (KB4.out.alloc KB4.out.size (.cells #[.int .i64 E3, .int .i64 E4] 26))
          have KL5 := Kept.mk (KL4.out.later ((Below.refl _ _).alloc (Nat.le_refl _) (.cells #[.int .i64 E3, .int .i64 E4] 26)))
          have KLe := Kept.mk (fleast_any [E3, E4] w4.heap.size (w4.alloc (.cells #[.int .i64 E3, .int .i64 E4] 26)) (heap_alloc_new w4 _) (by simp))
          obtain ⟨E5, hE5⟩ : ∃ E5, [E3, E4].foldl lsF 0 = E5 := ⟨_, rfl⟩
          rw [hE5] at KLe
          have KE5 : Kept (E5 = 0 → E3 = 0 ∧ E4 = 0) := ⟨fun h => (orE_any E3 E4).1 (hE5.trans h)⟩
          clear hE5 hb4 KCk
          go_wp2_with fail
          refine Calls.mono KLe.out (fun x w6 hp => ?_)
          obtain ⟨rfl, hw6⟩ := hp
          rw [hw6]
          clear hw6
          obtain ⟨w7, hw7⟩ : ∃ w7, w4.alloc (.cells #[.int .i64 E3, .int .i64 E4] 26) = w7 := ⟨_, rfl⟩
          rw [hw7] at KB5 KL5 ⊢
          clear hw7 KLe
          by_cases h0 : E5 = 0
          · subst h0
            have KSe : Kept (SetE es ws L p 0) := ⟨⟨fun h => absurd rfl h, fun _ => ⟨KE3.out (KE5.out rfl).1, by rw [KE4.out]; exact (KE5.out rfl).2, by rw [KF.out, KMe.out]; exact KPm.out⟩⟩⟩
            go_wp2
            go_ret2
            exact ⟨_, _, L, rfl, KL5.out, by have := KM2.out; omega, KSe.out, KB5.out⟩
          · have hE5b : (E5 != 0) = true := by simpa using h0
            have KSe : Kept (SetE es ws [] p E5) := ⟨⟨fun _ => rfl, fun h => absurd h h0⟩⟩
            go_wp2
            go_ret2
            exact ⟨_, _, [], rfl, RdZ.nil _, by simp, KSe.out, KB5.out⟩
end Go.Proofs.YthkaohkondkhgaaDoor
