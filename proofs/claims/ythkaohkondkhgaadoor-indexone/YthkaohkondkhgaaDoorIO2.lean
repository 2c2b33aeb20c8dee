/-
  strings.Clone; index.own.
-/
import Derived.Test.YthkaohkondkhgaaDoorIS1
namespace Go.Proofs.YthkaohkondkhgaaDoor
open Go.RowKit

set_option maxHeartbeats 1000000 in
set_option maxRecDepth 100000 in
theorem sclone_any (s : ByteArray) (w : World) (hl : s.size ≤ 281474976710656) :
    Calls Tryd.prog 59 #[.string s] w fun x w' => x = .returned (.string s) ∧ Below w.heap.size w w' := by
  have KC := Kept.mk (Tryd.stringslite_Clone s w hl)
  go_enter Tryd.func59, Tryd.ntmps59
  go_wp2_with fail
  refine Calls.mono KC.out (fun x w1 hp => ?_)
  obtain ⟨rfl, hb⟩ := hp
  go_wp2
  go_ret
  exact ⟨rfl, hb⟩
set_option maxHeartbeats 1000000 in
set_option maxRecDepth 100000 in
theorem own_any {e : SlC} (he : e.ok) (w : World) :
    Calls Tryd.prog 36 #[.agg e.l.toArray] w fun x w' => x = .returned (.agg e.l.toArray) ∧ Below w.heap.size w w' := by
  obtain ⟨w1, hw1, hB1, hz1, hbk, -⟩ := SlC.box w he
  obtain ⟨w2, hw2, hB2, hz2, hb2⟩ := box_zero w1
  have KB2 := Kept.mk (hB1.trans (hB2.mono (by omega)))
  have KB12 := Kept.mk hB2
  have hS2 : BlS w2 w.heap.size e := (show BlS w1 w.heap.size e from hbk).far hB2 (by omega)
  have KS2 := Kept.mk hS2
  have c0 : w2.cell? ⟨w.heap.size, 0, none⟩ = some (.string e.pt) := hS2.cell rfl
  have KC := Kept.mk (sclone_any e.pt w2 (by have := he.2.2.2.2.2.2; omega))
  have hg : w.heap.size < w1.heap.size := by omega
  have Kg := Kept.mk hg
  have hsz2 : w1.heap.size < w2.heap.size := by omega
  have Ksz2 := Kept.mk hsz2
  have Kz := Kept.mk hb2
  have KL : Kept (e.l.toArray.size = 37) := ⟨by rw [List.size_toArray]; exact SlC.len he⟩
  have KI : Kept ((Tryd.prog.info? 41).map (·.size) = some e.l.toArray.size) := ⟨by rw [KL.out]; exact infoZ37⟩
  have KIl : Kept ((Tryd.prog.info? 41).map (·.size) = some e.l.length) := ⟨SlC.info he⟩
  have KOn : Kept (e.l.toArray.all (·.oneCell') = true) := ⟨by rw [Array.all_eq_true_iff_forall_mem]; intro x hx; exact SlC.ones _ x (by simpa using hx)⟩
  obtain ⟨g2, hg2⟩ : ∃ g2, w1.heap.size = g2 := ⟨_, rfl⟩
  have Kg2 := Kept.mk hg2
  clear hB1 hB2 hz1 hz2 hbk hb2 hS2 he hg hsz2 hg2
  go_enter Tryd.func36, Tryd.ntmps36
  go_wp2_with fail
  refine Calls.mono KC.out (fun x w3 hp => ?_)
  obtain ⟨rfl, hb3⟩ := hp
  have KB3 := Kept.mk hb3
  have hS3 : BlS w3 w.heap.size e := KS2.out.far hb3 (by have := Kg.out; have := Ksz2.out; omega)
  have c3 := hS3.cell (k := 0) (u := .string e.pt) rfl
  have f3 := hS3.frozen 0
  have KS4 : Kept (BlS (w3.setCell ⟨w.heap.size, 0, none⟩ (.string e.pt)) w.heap.size e) := ⟨hS3.setPt e.pt⟩
  have Kz3 : Kept ((w3.setCell ⟨w.heap.size, 0, none⟩ (.string e.pt)).heap[w1.heap.size]? = some (.cells zS.l.toArray 41 (0, 0))) := ⟨by
    rw [Below.heap_setCell _ _ _ _ (by have := Kg.out; simp only; omega), hb3.block _ Ksz2.out]
    exact Kz.out⟩
  have KB4 : Kept (Below w.heap.size w (w3.setCell ⟨w.heap.size, 0, none⟩ (.string e.pt))) := ⟨(KB2.out.trans (hb3.mono KB2.out.size)).setCell (Nat.le_refl _) _⟩
  obtain ⟨w4, hw4⟩ : ∃ w4, w3.setCell ⟨w.heap.size, 0, none⟩ (.string e.pt) = w4 := ⟨_, rfl⟩
  rw [hw4] at KS4 Kz3 KB4
  have Krg : Kept (w4.rangeAt w.heap.size 0 e.l) := ⟨fun j u hu => by rw [Nat.zero_add]; exact KS4.out.cell hu⟩
  have KZl : Kept (zS.l.toArray.size = 37) := ⟨rfl⟩
  obtain ⟨ZL, hZL⟩ : ∃ ZL, zS.l.toArray = ZL := ⟨_, rfl⟩
  rw [hZL] at Kz3 KZl
  have KBE : Kept (Below w.heap.size w (w4.setRow w1.heap.size e.l.toArray)) := ⟨below_setRow KB4.out (Nat.le_of_lt Kg.out) _⟩
  have KrE : Kept ((w4.setRow w1.heap.size e.l.toArray).heap[w1.heap.size]? = some (.cells e.l.toArray 41 (0, 0))) := ⟨setRow_heap w4 w1.heap.size _ _ _ _ Kz3.out⟩
  obtain ⟨CL, hCL⟩ : ∃ CL, e.l = CL := ⟨_, rfl⟩
  have KCL := Kept.mk hCL
  rw [hCL] at Krg KL KI KIl KOn KBE KrE ⊢
  clear hb3 hS3 hZL hCL Kz KS2 KS4
  go_wp2_with (first | (refine wpList_load_mid rfl 41 _ rfl w.heap.size 0 rfl CL _ Krg.out Tryd.underlying41 rfl KIl.out ?_) | (refine BigFrame.wpList_want rfl (fun K hK => wp_store_row 41 _ _ rfl w1.heap.size CL.toArray rfl rfl 41 _ Kz3.out KI.out (by rw [KL.out, KZl.out]) KOn.out (hK _ _ ?_))))
  generalize w4.setRow w1.heap.size CL.toArray = W9 at *
  refine bodyPost_ret (results_row1 rfl _ _ w1.heap.size 41 CL.toArray (0, 0) _ rfl KrE.out Tryd.underlying41 rfl KI.out) rfl ?_
  exact ⟨by rw [KCL.out], KBE.out⟩


set_option maxHeartbeats 4000000 in
set_option maxRecDepth 100000 in
theorem bsearch_any (v : Value) (es : List SlC) (T : SlC) (hT : T.ok) (w : World) (hr : RdZ w v es) (hl : es.length ≤ 4398046511104) (k : Nat) (hk : k < es.length)
    (h1 : ∀ i (hi : i < es.length), i < k → ordZ (es[i]'hi) T < 0) (h2 : ordZ (es[k]'hk) T = 0) (h3 : ∀ i (hi : i < es.length), k < i → ¬ ordZ (es[i]'hi) T < 0) :
    Calls Tryd.prog 39 #[v, .agg T.l.toArray, .func (.func 38) #[] #[]] w fun e w' => e = .returned (.tuple #[.int .i64 k, .bool true]) ∧ Below w.heap.size w w' := by
  obtain ⟨a, c, rfl, hlc, hok, hrd⟩ := hr
  have KR := Kept.mk hrd
  have KK := Kept.mk hok
  have KT := Kept.mk hT
  have K1 := Kept.mk h1
  have K2 := Kept.mk h2
  have K3 := Kept.mk h3
  have KQ0 : Kept (∀ (e : SlC) (w : World), e.ok → Calls Tryd.prog 38 #[.agg e.l.toArray, .agg T.l.toArray] w fun x w' => x = .returned (.int .i64 (ordZ e T)) ∧ Below w.heap.size w w') := ⟨fun e w he => order_any he hT w⟩
  obtain ⟨x0, hx0, hB0, hz0, hb0, -⟩ := SlC.box w hT
  have KB0 := Kept.mk hB0
  have KTr : Kept (∀ W, CC x0 W → W.rangeAt w.heap.size 0 T.l) := ⟨fun W hW j u hu => by
    rw [hW.cell (p := ⟨w.heap.size, 0 + j, none⟩) (by rw [hz0]; simp only; omega)]
    unfold World.cell?
    simp only [hb0]
    rw [Nat.zero_add, List.getElem?_toArray]
    exact hu⟩
  have KTi := Kept.mk (SlC.info hT)
  obtain ⟨TL, hTL⟩ : ∃ TL, T.l = TL := ⟨_, rfl⟩
  rw [hTL] at KQ0 KTr KTi hx0 ⊢
  clear hrd hok hT h1 h2 h3 hTL hB0 hz0 hb0
  go_enter Tryd.func39, Tryd.ntmps39
  go_wp2
  try rw [hx0]
  go_loopw [9, 10] (fun iv jv wr => ∃ i j : Nat, i ≤ k ∧ k ≤ j ∧ j ≤ es.length ∧ iv = .int .i64 i ∧ jv = .int .i64 j ∧ CC x0 wr) (fun iv jv _ => (intOf jv).toNat - (intOf iv).toNat)
  case atStart => exact ⟨0, es.length, by omega, by omega, Nat.le_refl _, rfl, rfl, CC.refl _⟩
  case round =>
    obtain ⟨i, j, hik, hkj, hjl, rfl, rfl, hbel⟩ := hrel
    have KBr := Kept.mk hbel
    by_cases hij : i < j
    · have hiji : (i : Int) < (j : Int) := by omega
      obtain ⟨h, hh⟩ : ∃ h, (i + j) / 2 = h := ⟨_, rfl⟩
      have hhi : i ≤ h ∧ h < j := by omega
      have e1 : IntKind.i64.wrap ((i : Int) + (j : Int)) = (i : Int) + (j : Int) := wr64 (by omega) (by omega)
      have e2 : IntKind.u64.wrap ((i : Int) + (j : Int)) = (i : Int) + (j : Int) := wru64 (by omega) (by omega)
      have e3 : ((i : Int) + (j : Int)) / 2 = (h : Int) := by omega
      have e4 : IntKind.i64.wrap (h : Int) = (h : Int) := wr64 (by omega) (by omega)
      have e5 : IntKind.i64.wrap ((h : Int) + 1) = (h : Int) + 1 := wr64 (by omega) (by omega)
      have e6 : IntKind.u64.wrap (h : Int) = (h : Int) := wru64 (by omega) (by omega)
      have hlt : h < es.length := by omega
      have hlti : (h : Int) < (es.length : Int) := by omega
      have Kh := Kept.mk hhi
      obtain ⟨b, off, rfl, hbl, hrg⟩ := KR.out (by omega)
      have hR : Kept (∀ W, CC wr W → W.rangeAt b (off + h * 37) (es[h]'hlt).l) := ⟨fun W hW q u hu => by
        rw [hW.cell (p := ⟨b, off + h * 37 + q, none⟩) (by have := (KB0.out.trans (Below.mono hbel KB0.out.size)).size; simp only; omega), hbel.cell (p := ⟨b, off + h * 37 + q, none⟩) (by have := KB0.out.size; simp only; omega), KB0.out.cell (p := ⟨b, off + h * 37 + q, none⟩) hbl]
        exact hrg h hlt q u hu⟩
      have hko := KK.out _ (List.getElem_mem hlt)
      have KI := Kept.mk (SlC.info hko)
      have KO : Kept (∀ W, Calls Tryd.prog 38 #[.agg (es[h]'hlt).l.toArray, .agg TL.toArray] W fun x w' => x = .returned (.int .i64 (ordZ (es[h]'hlt) T)) ∧ Below W.heap.size W w') := ⟨fun W => KQ0.out _ W hko⟩
      obtain ⟨c0, hc0⟩ : ∃ c0, ordZ (es[h]'hlt) T = c0 := ⟨_, rfl⟩
      rw [hc0] at KO
      have Kc0 : Kept (ordZ (es[h]'hlt) T = c0) := ⟨hc0⟩
      clear hrg hko hc0 hbel hh
      obtain ⟨EL, hEL⟩ : ∃ EL, (es[h]'hlt).l = EL := ⟨_, rfl⟩
      rw [hEL] at hR KI KO
      clear hEL
      go_upto_region 5 with fail
      refine wp_region_tail 0 6 1 (by kernel_rfl) (by kernel_rfl) ?_
      simp only [List.take_succ_cons, List.take_zero, List.drop_succ_cons, List.drop_zero, List.foldl_nil]
      have hRc : ∀ W, (∃ m, W = wr.drewN m) → W.rangeAt b (off + h * 37) EL := fun W hW => by
        obtain ⟨m, rfl⟩ := hW
        exact hR.out _ (below_drewN (CC.refl _) m)
      have hTc : ∀ W, (∃ m, W = wr.drewN m) → W.rangeAt w.heap.size 0 TL := fun W hW => by
        obtain ⟨m, rfl⟩ := hW
        exact KTr.out _ (below_drewN KBr.out m)
      have KRc := Kept.mk hRc
      have KTc := Kept.mk hTc
      clear hRc hTc
      go_big_quiet_step (fail)
      go_big_quiet_step (fail)
      go_big_quiet_step (fail)
      go_big_quiet_step (fail)
      refine BigFrame.wpQuiet_want rfl (fun K hK => quiet_load_mid 41 _ rfl b (off + h * 37) rfl EL _ KRc.out Tryd.underlying41 rfl KI.out (hK _ ?_))
      clear hK K
      simp only [Act.put, List.setIfInBounds_toArray, List.set_cons_zero, List.set_cons_succ]
      refine BigFrame.wpQuiet_want rfl (fun K hK => quiet_load_mid 41 _ rfl w.heap.size 0 rfl TL _ KTc.out Tryd.underlying41 rfl KTi.out (hK _ ?_))
      clear hK K
      simp only [Act.put, List.setIfInBounds_toArray, List.set_cons_zero, List.set_cons_succ]
      refine wpQuiet_nil ?_
      intro m
      have KBm : Kept (CC x0 (wr.drewN m)) := ⟨below_drewN KBr.out m⟩
      refine wpTail_step (fun K hK => ?_)
      go_simp
      refine Calls.mono (KO.out _) (fun x w5 hp => ?_)
      obtain ⟨rfl, hb5⟩ := hp
      have KB5 : Kept (CC x0 w5) := ⟨CC.on KBm.out hb5⟩
      clear hb5
      refine hK _ _ ?_
      clear hK K
      refine wpTail_step (fun K hK => ?_)
      go_simp
      refine hK _ _ (wpTail_nil (NoPanic.normal ?_))
      clear hK K
      by_cases hneg : c0 < 0
      · have hhk : h + 1 ≤ k := by
          rcases Nat.lt_trichotomy h k with q | q | q
          · omega
          · subst q
            have := K2.out
            rw [Kc0.out] at this
            omega
          · have q3 := K3.out h hlt q
            rw [Kc0.out] at q3
            omega
        have Khk := Kept.mk hhk
        clear hhk
        go_wp2
        go_roundw
        case rel => exact ⟨h + 1, j, Khk.out, by assumption, by assumption, by go_num, rfl, KB5.out⟩
        case measure => have := Kh.out; simp [intOf]; omega
      · have hhk : k ≤ h := by
          rcases Nat.lt_or_ge h k with q | q
          · exact absurd (Kc0.out ▸ K1.out h hlt q) hneg
          · exact q
        have Khk := Kept.mk hhk
        clear hhk
        go_wp2
        go_roundw
        case rel => exact ⟨i, h, by assumption, Khk.out, by omega, rfl, by go_num, KB5.out⟩
        case measure => have := Kh.out; simp [intOf]; omega
    · have hiji : ¬ (i : Int) < (j : Int) := by omega
      have hik2 : i = k := by omega
      subst hik2
      have hki : (i : Int) < (es.length : Int) := by omega
      obtain ⟨b, off, rfl, hbl, hrg⟩ := KR.out (by omega)
      have KRs : Kept (∀ W, CC wr W → W.rangeAt b (off + i * 37) (es[i]'hk).l) := ⟨fun W hW q u hu => by
        rw [hW.cell (p := ⟨b, off + i * 37 + q, none⟩) (by have := (KB0.out.trans (Below.mono hbel KB0.out.size)).size; simp only; omega), hbel.cell (p := ⟨b, off + i * 37 + q, none⟩) (by have := KB0.out.size; simp only; omega), KB0.out.cell (p := ⟨b, off + i * 37 + q, none⟩) hbl]
        exact hrg i hk q u hu⟩
      have KTs : Kept (∀ W, CC wr W → W.rangeAt w.heap.size 0 TL) := ⟨fun W hW => KTr.out W (CC.on KBr.out hW)⟩
      have hko := KK.out _ (List.getElem_mem hk)
      have KI := Kept.mk (SlC.info hko)
      have KO : Kept (∀ W, Calls Tryd.prog 38 #[.agg (es[i]'hk).l.toArray, .agg TL.toArray] W fun x w' => x = .returned (.int .i64 0) ∧ Below W.heap.size W w') := ⟨fun W => by
        have h := KQ0.out _ W hko
        rwa [K2.out] at h⟩
      have KSd : Kept (CC wr wr.drew) := ⟨Below.drew (CC.refl _)⟩
      clear hrg hko hbel
      obtain ⟨EL, hEL⟩ : ∃ EL, (es[i]'hk).l = EL := ⟨_, rfl⟩
      rw [hEL] at KRs KI KO
      clear hEL
      go_upto_region 8 with fail
      refine wp_region_noPanic ?_
      refine wp_region_held_drew (S := fun W => CC wr W) (by kernel_rfl) KSd.out (fun hHeld => ?_)
      refine wpAnyH_takeD (i := 0) (d := some 35) (v := .int .i64 i) rfl rfl (by kernel_rfl) (by kernel_rfl) (by kernel_rfl) (fun _ _ _ h => h) (Or.inl ⟨by rfl, fun W _ => by go_simp⟩) (by assumption) ?_
      simp only [Act.put, List.setIfInBounds_toArray, List.set_cons_zero, List.set_cons_succ]
      refine wpAnyH_takeD (i := 1) (d := some 36) (v := .int .i64 i) rfl rfl (by kernel_rfl) (by kernel_rfl) (by kernel_rfl) (fun _ _ _ h => h) (Or.inl ⟨by rfl, fun W _ => by go_simp⟩) (by assumption) ?_
      simp only [Act.put, List.setIfInBounds_toArray, List.set_cons_zero, List.set_cons_succ]
      refine wpAnyH_takeD (i := 2) (d := some 37) (v := .int .i64 es.length) rfl rfl (by kernel_rfl) (by kernel_rfl) (by kernel_rfl) (fun _ _ _ h => h) (Or.inl ⟨by rfl, fun W _ => by go_simp⟩) (by assumption) ?_
      simp only [Act.put, List.setIfInBounds_toArray, List.set_cons_zero, List.set_cons_succ]
      refine wpAnyH_takeD (i := 3) (d := some 38) (v := .bool true) rfl rfl (by kernel_rfl) (by kernel_rfl) (by kernel_rfl) (fun _ _ _ h => h) (Or.inl ⟨by rfl, fun W _ => by go_simp⟩) (by assumption) ?_
      simp only [Act.put, List.setIfInBounds_toArray, List.set_cons_zero, List.set_cons_succ]
      refine wpAnyH_takeD (i := 4) (d := some 39) (v := .bool true) rfl rfl (by kernel_rfl) (by kernel_rfl) (by kernel_rfl) (fun _ _ _ h => h) (Or.inl ⟨by rfl, fun W _ => by go_simp⟩) (by assumption) ?_
      simp only [Act.put, List.setIfInBounds_toArray, List.set_cons_zero, List.set_cons_succ]
      refine wpAnyH_takeD (i := 5) (d := some 40) (v := .func (.func 38) #[] #[]) rfl rfl (by kernel_rfl) (by kernel_rfl) (by kernel_rfl) (fun _ _ _ h => h) (Or.inl ⟨by rfl, fun W _ => by go_simp⟩) (by assumption) ?_
      simp only [Act.put, List.setIfInBounds_toArray, List.set_cons_zero, List.set_cons_succ]
      refine wpAnyH_takeD (i := 6) (d := some 41) (v := .slice (some ⟨b, off, none⟩) es.length c) rfl rfl (by kernel_rfl) (by kernel_rfl) (by kernel_rfl) (fun _ _ _ h => h) (Or.inl ⟨by rfl, fun W _ => by go_simp⟩) (by assumption) ?_
      simp only [Act.put, List.setIfInBounds_toArray, List.set_cons_zero, List.set_cons_succ]
      refine wpAnyH_takeD (i := 7) (d := some 42) (v := .int .i64 i) rfl rfl (by kernel_rfl) (by kernel_rfl) (by kernel_rfl) (fun _ _ _ h => h) (Or.inl ⟨by rfl, fun W _ => by go_simp⟩) (by assumption) ?_
      simp only [Act.put, List.setIfInBounds_toArray, List.set_cons_zero, List.set_cons_succ]
      refine wpAnyH_takeD (i := 8) (d := some 43) (v := .pointer (some ⟨b, off + i * 37, none⟩)) rfl rfl (by kernel_rfl) (by kernel_rfl) (by kernel_rfl) (fun _ _ _ h => h) (Or.inl ⟨by rfl, fun W _ => by go_simp⟩) (by assumption) ?_
      simp only [Act.put, List.setIfInBounds_toArray, List.set_cons_zero, List.set_cons_succ]
      refine wpAnyH_takeD (i := 9) (d := some 44) (v := .agg EL.toArray) rfl rfl (by kernel_rfl) (by kernel_rfl) (by kernel_rfl) (fun _ _ _ h => h) (yieldsIf_load_mid (by rfl) _ _ rfl _ _ rfl EL _ (fun W hSw => KRs.out W hSw) Tryd.underlying41 rfl KI.out) (by assumption) ?_
      simp only [Act.put, List.setIfInBounds_toArray, List.set_cons_zero, List.set_cons_succ]
      refine wpAnyH_takeD (i := 10) (d := some 45) (v := .agg TL.toArray) rfl rfl (by kernel_rfl) (by kernel_rfl) (by kernel_rfl) (fun _ _ _ h => h) (yieldsIf_load_mid (by rfl) _ _ rfl _ _ rfl TL _ (fun W hSw => KTs.out W hSw) Tryd.underlying41 rfl KTi.out) (by assumption) ?_
      simp only [Act.put, List.setIfInBounds_toArray, List.set_cons_zero, List.set_cons_succ]
      refine wpAnyH_ready (rs := [11]) (by kernel_rfl) (by simp) ?_
      refine AllReadyH.cons (o := _) rfl (fun K hK => ?_) AllReadyH.nil
      go_simp
      refine Calls.mono (KO.out _) (fun x w5 hp => ?_)
      obtain ⟨rfl, hb5⟩ := hp
      have KS5 : Kept (CC wr w5) := ⟨CC.on KSd.out hb5⟩
      have KB5 : Kept (CC x0 w5) := ⟨CC.on KBr.out KS5.out⟩
      refine hK.out _ _ KS5.out (fun hHeld5 => ?_)
      clear hK K hb5 hHeld
      refine wpAnyH_takeD (i := 12) (d := some 47) (v := .bool true) rfl rfl (by kernel_rfl) (by kernel_rfl) (by kernel_rfl) (fun _ _ _ h => h) (Or.inl ⟨by rfl, fun W _ => by go_simp⟩) (by assumption) ?_
      simp only [Act.put, List.setIfInBounds_toArray, List.set_cons_zero, List.set_cons_succ]
      refine wpAnyH_takeD (i := 13) (d := some 48) (v := .bool true) rfl rfl (by kernel_rfl) (by kernel_rfl) (by kernel_rfl) (fun _ _ _ h => h) (Or.inl ⟨by rfl, fun W _ => by go_simp⟩) (by assumption) ?_
      simp only [Act.put, List.setIfInBounds_toArray, List.set_cons_zero, List.set_cons_succ]
      refine wpAnyH_takeD (i := 14) (d := some 6) (v := .int .i64 i) rfl rfl (by kernel_rfl) (by kernel_rfl) (by kernel_rfl) (fun _ _ _ h => h) (Or.inl ⟨by rfl, fun W _ => by go_simp⟩) (by assumption) ?_
      simp only [Act.put, List.setIfInBounds_toArray, List.set_cons_zero, List.set_cons_succ]
      refine wpAnyH_takeD (i := 15) (d := some 7) (v := .bool true) rfl rfl (by kernel_rfl) (by kernel_rfl) (by kernel_rfl) (fun _ _ _ h => h) (Or.inl ⟨by rfl, fun W _ => by go_simp⟩) (by assumption) ?_
      simp only [Act.put, List.setIfInBounds_toArray, List.set_cons_zero, List.set_cons_succ]
      refine wpAnyH_done (by kernel_rfl) ?_ _
      refine NoPanic.normal ?_
      clear hHeld5
      go_wp2
      go_ret2
      exact ⟨rfl, KB0.out.trans (Below.mono KB5.out KB0.out.size)⟩
end Go.Proofs.YthkaohkondkhgaaDoor
