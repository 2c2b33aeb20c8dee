/-
  Walks: the document's Rests.
-/
import Derived.Test.YtidpdhnbnecddaaWR
namespace Go.Proofs.Ytidpdhnbnecddaa
open Go.RowKit

set_option maxHeartbeats 2000000 in
set_option maxRecDepth 100000 in
theorem rests_any (v u : Value) (a b : List ByteArray) (w : World) (hv : RdS w v a) (hu : RdS w u b) (hM : a.length ≤ 1000) (hN : b.length ≤ 1000) :
    Calls Try.prog 55 #[v, u] w fun e w' => e = .returned (slV w.heap.size (a.length + 1)) ∧ TbSt w w' w.heap.size a b 0 := by
  obtain ⟨i0, hi, hz, hsz, hbt⟩ := info_ints
  obtain ⟨i1, hi1, hz1, hsz1, hbt1⟩ := info_int
  have KA := Kept.mk hv
  have KB := Kept.mk hu
  obtain ⟨pa, ca, rfl⟩ := hv.form
  obtain ⟨pb, cb, rfl⟩ := hu.form
  have hb1 : i0.bytes * (a.length + 1) ≤ 281474976710656 := by rw [hbt]; omega
  have hb2 : a.length + 1 ≤ maxLen := by unfold maxLen; omega
  have hb3 : i1.bytes * (b.length + 1) ≤ 281474976710656 := by rw [hbt1]; omega
  have hb4 : b.length + 1 ≤ maxLen := by unfold maxLen; omega
  have e0 : IntKind.i64.wrap ((a.length : Int) + 1) = (a.length : Int) + 1 := wr64 (by omega) (by omega)
  have e0b : IntKind.i64.wrap ((b.length : Int) + 1) = (b.length : Int) + 1 := wr64 (by omega) (by omega)
  have K2 : Kept (∀ w2, w2.ownsRow w.heap.size 62 1 (.slice (some ⟨w.heap.size, 0, none⟩) (a.length + 1) (a.length + 1)) (a.length + 1) (madeCells (Value.slice none 0 0).cells ((a.length + 1) * 1)).toList → w.grownBy w2 none → TbSt w w2 w.heap.size a b (a.length + 1)) := ⟨fun w2 ho hg => by
    have hb := bk_made ho
    rw [made_cells _ _ rfl] at hb
    exact ⟨⟨_, fun _ => 0, by simp, hb, fun j h1 h2 => by omega⟩, rfl, (Fx.grown hg).below (Nat.le_refl _) (by simp), Nat.le_refl _⟩⟩
  clear hv hu
  go_enter Try.func55, Try.ntmps55
  go_upto_region 4 with (at_make; refine wpList_make_full _ rfl _ _ 95 rfl w.heap.size 62 i0 (.slice none 0 0) 1 Try.underlying95 hi hz hsz .i64 .i64 ((a.length : Int) + 1) ((a.length : Int) + 1) (a.length + 1) rfl rfl (by omega) (by omega) hb1 hb2 (Nat.le_refl _) ?_; intro w2 hown hgrow; have KS := Kept.mk (K2.out w2 hown hgrow); clear hown hgrow K2)
  go_loopw [8] (fun xv wr => ∃ k : Nat, xv = .int .i64 ((k : Int) - 1) ∧ TbSt w wr w.heap.size a b k) (fun xv _ => (intOf xv + 1).toNat)
  case atStart => exact ⟨a.length + 1, by go_num, KS.out⟩
  case round =>
    obtain ⟨k, rfl, hst⟩ := hrel
    have KSt := Kept.mk hst
    clear KS
    cases k with
    | zero =>
      have hge : decide (((0 : Nat) : Int) - 1 ≥ 0) = false := by decide
      clear hst
      go_wp2
      go_ret
      exact ⟨rfl, KSt.out⟩
    | succ k =>
      have hky : ((k + 1 : Nat) : Int) - 1 = (k : Int) := by omega
      rw [hky]
      have hk : k ≤ a.length := by have := hst.le; omega
      have hge : decide ((k : Int) ≥ 0) = true := decide_eq_true (by omega)
      have n0 : (0 : Int) ≤ (k : Int) := by omega
      have n1 : (k : Int) < ((a.length : Nat) : Int) + 1 := by omega
      have e2 : IntKind.i64.wrap ((k : Int) - 1) = (k : Int) - 1 := wr64 (by omega) (by omega)
      have hsz' : w.heap.size ≤ wr.heap.size := hst.bel.size
      clear hst
      go_upto_region 8 with (at_make; refine wpList_make_full _ rfl _ _ 62 rfl wr.heap.size 3 i1 (.int .i64 0) 1 Try.underlying62 hi1 hz1 hsz1 .i64 .i64 ((b.length : Int) + 1) ((b.length : Int) + 1) (b.length + 1) rfl rfl (by omega) (by omega) hb3 hb4 (Nat.le_refl _) ?_; intro w5 hown hgrow; have hbk := bk_made hown; rw [made_cells _ _ rfl, show List.replicate (b.length + 1) (Value.int .i64 0) = intV (List.replicate (b.length + 1) 0) by unfold intV; rw [List.map_replicate]; rfl] at hbk; obtain ⟨⟨u0, dk⟩, fk, hmid⟩ := KSt.out.mid hgrow hbk; have KMid := Kept.mk hmid; clear hmid hbk hown hgrow)
      obtain ⟨rb, hrb⟩ : ∃ rb, wr.heap.size = rb := ⟨_, rfl⟩
      unfold slV at KMid
      rw [hrb] at KMid
      try rw [hrb]
      obtain ⟨w6, hw6⟩ : ∃ w6, w5.setCell ⟨w.heap.size, k, none⟩ (.slice (some ⟨rb, 0, none⟩) (b.length + 1) (b.length + 1)) = w6 := ⟨_, rfl⟩
      rw [hw6] at KMid
      rw [hw6]
      clear hw6 dk fk hrb hsz'
      go_loopw [9] (fun yv wi => ∃ (y : Nat) (R : List Nat), yv = .int .i64 ((y : Int) - 1) ∧ y ≤ b.length + 1 ∧ TbMd w wi w.heap.size a b k rb R ∧ ∀ j, y ≤ j → j ≤ b.length → R[j]? = some (rst (a.drop k) (b.drop j))) (fun yv _ => (intOf yv + 1).toNat)
      case atStart => exact ⟨b.length + 1, _, by go_num, Nat.le_refl _, KMid.out, fun j h1 h2 => by omega⟩
      case round =>
        obtain ⟨y, R, rfl, hy, hmid, hall⟩ := hrel
        have KM := Kept.mk hmid
        have Kall := Kept.mk hall
        clear KMid
        cases y with
        | zero =>
          have hgy : decide (((0 : Nat) : Int) - 1 ≥ 0) = false := by decide
          have KD : Kept (TbSt w wr w.heap.size a b k) := ⟨hmid.done (rowG_eq hmid.rl fun j hj => hall j (Nat.zero_le _) hj)⟩
          clear hmid hall
          go_wp2
          go_roundw
          case rel => exact ⟨k, by go_num, KD.out⟩
          case measure => simp [intOf]
        | succ y =>
          have hyy : ((y + 1 : Nat) : Int) - 1 = (y : Int) := by omega
          rw [hyy]
          have hyb : y ≤ b.length := by omega
          have hgy : decide ((y : Int) ≥ 0) = true := decide_eq_true (by omega)
          have y0 : (0 : Int) ≤ (y : Int) := by omega
          have y1 : (y : Int) < ((b.length : Nat) : Int) + 1 := by omega
          have ey : IntKind.i64.wrap ((y : Int) - 1) = (y : Int) - 1 := wr64 (by omega) (by omega)
          obtain ⟨u0, hu0⟩ : ∃ u0, R[y]? = some u0 := ⟨_, List.getElem?_eq_getElem (by rw [hmid.rl]; omega)⟩
          have KU := Kept.mk hu0
          have KE : Kept (∀ (wz : World) (z : Nat), TbMd w wz w.heap.size a b k rb R → z = rst (a.drop k) (b.drop y) → TbMd w (wz.setCell ⟨rb, y, none⟩ (.int .i64 (z : Int))) w.heap.size a b k rb (R.set y z) ∧ ∀ j, y ≤ j → j ≤ b.length → (R.set y z)[j]? = some (rst (a.drop k) (b.drop j))) := ⟨fun wz z hm hz => ⟨hm.set y z, fun j h1 h2 => by
            by_cases e : j = y
            · subst e
              rw [List.getElem?_set_self (by rw [hm.rl]; omega), hz]
            · rw [List.getElem?_set_ne (fun h => e h.symm)]
              exact Kall.out j (by omega) h2⟩⟩
          have ck := hmid.ck
          have cm := hmid.row.cell y _ (intV_get hu0)
          have fm := hmid.row.frozen y
          have Kall2 := Kall
          clear hu0 hall Kall
          by_cases hkM : k = a.length
          · have hbq : ((k : Int) == (a.length : Int)) = true := by simp [hkM]
            obtain ⟨z, hz0⟩ : ∃ z, b.length - y = z := ⟨_, rfl⟩
            have e4 : IntKind.i64.wrap ((b.length : Int) - (y : Int)) = (z : Int) := by rw [wr64 (by omega) (by omega)]; omega
            have KF := Kept.mk (KE.out _ z KM.out (by rw [hkM, List.drop_length, rst_nil, List.length_drop]; exact hz0.symm))
            clear hmid hz0 hkM
            go_wp2
            go_roundw
            case rel => exact ⟨y, _, by go_num, by omega, KF.out.1, KF.out.2⟩
            case measure => simp [intOf]
          · have hbq : ((k : Int) == (a.length : Int)) = false := by simp; omega
            have hka : k < a.length := by omega
            by_cases hyN : y = b.length
            · have hbq2 : ((y : Int) == (b.length : Int)) = true := by simp [hyN]
              obtain ⟨z, hz0⟩ : ∃ z, a.length - k = z := ⟨_, rfl⟩
              have e4 : IntKind.i64.wrap ((a.length : Int) - (k : Int)) = (z : Int) := by rw [wr64 (by omega) (by omega)]; omega
              have KF := Kept.mk (KE.out _ z KM.out (by rw [hyN, List.drop_length, rst_nil2, List.length_drop]; exact hz0.symm))
              clear hmid hz0 hkM hyN
              go_wp2
              go_roundw
              case rel => exact ⟨y, _, by go_num, by omega, KF.out.1, KF.out.2⟩
              case measure => simp [intOf]
            · have hbq2 : ((y : Int) == (b.length : Int)) = false := by simp; omega
              have hyl : y < b.length := by omega
              have k2 : (k : Int) < (a.length : Int) := by omega
              have y2 : (y : Int) < (b.length : Int) := by omega
              obtain ⟨s, hs⟩ : ∃ s, a[k]? = some s := ⟨_, List.getElem?_eq_getElem hka⟩
              obtain ⟨t, ht⟩ : ∃ t, b[y]? = some t := ⟨_, List.getElem?_eq_getElem hyl⟩
              obtain ⟨pa', ca', hea, -, hra⟩ := KA.out.later hmid.bel (Nat.le_refl _)
              obtain ⟨pb', cb', heb, -, hrb⟩ := KB.out.later hmid.bel (Nat.le_refl _)
              rw [List.length_map] at hea hra heb hrb
              obtain ⟨ba, oa, hpa1, -, hra1⟩ := hra (by omega)
              obtain ⟨bb, ob, hpb1, -, hrb1⟩ := hrb (by omega)
              have hpa : pa = some ⟨ba, oa, none⟩ := by injection hea with h1 h2 h3; rw [h1, hpa1]
              have hpb : pb = some ⟨bb, ob, none⟩ := by injection heb with h1 h2 h3; rw [h1, hpb1]
              subst hpa hpb
              have cs : wr.cell? ⟨ba, oa + k, none⟩ = some (.string s) := hra1 k _ (by rw [List.getElem?_map, hs]; rfl)
              have ct : wr.cell? ⟨bb, ob + y, none⟩ = some (.string t) := hrb1 y _ (by rw [List.getElem?_map, ht]; rfl)
              have hda := dropB_cons hs
              have hdb := dropB_cons ht
              clear hea heb hra hrb hra1 hrb1 hpa1 hpb1 hs ht
              by_cases hst : s = t
              · have hse : (s.toList == t.toList) = true := by rw [hst]; exact beq_self_eq_true _
                go_upto_region 15 with fail
                go_quiet (fail)
                generalize hwq : World.drewN wr _ = wq
                have hq : TbMd w wq w.heap.size a b k rb R := by rw [← hwq]; exact hmid.drewN _
                clear hwq hmid ck cm fm cs ct KM
                obtain ⟨nb, cn, cnj⟩ := hq.next hka
                have ck := hq.ck
                have cm := hq.row.cell y _ (intV_get KU.out)
                have fm := hq.row.frozen y
                have k3 : (0 : Int) ≤ (k : Int) + 1 := by omega
                have k4 : (k : Int) + 1 < ((a.length : Nat) : Int) + 1 := by omega
                have k5 : ((k : Int) + 1).toNat = k + 1 := by omega
                have k6 : IntKind.i64.wrap ((k : Int) + 1) = (k : Int) + 1 := wr64 (by omega) (by omega)
                have y3 : (0 : Int) ≤ (y : Int) + 1 := by omega
                have y4 : (y : Int) + 1 < ((b.length : Nat) : Int) + 1 := by omega
                have y5 : ((y : Int) + 1).toNat = y + 1 := by omega
                have y6 : IntKind.i64.wrap ((y : Int) + 1) = (y : Int) + 1 := wr64 (by omega) (by omega)
                have c1 := cnj (y + 1) (by omega)
                have KF : Kept (∀ m, TbMd w ((wq.drewN m).setCell ⟨rb, y, none⟩ (.int .i64 ((rst (a.drop (k + 1)) (b.drop (y + 1)) : Nat) : Int))) w.heap.size a b k rb (R.set y (rst (a.drop (k + 1)) (b.drop (y + 1)))) ∧ ∀ j, y ≤ j → j ≤ b.length → (R.set y (rst (a.drop (k + 1)) (b.drop (y + 1))))[j]? = some (rst (a.drop k) (b.drop j))) := ⟨fun m => KE.out (wq.drewN m) _ (hq.drewN m) (by rw [hda, hdb, rst_cons, if_pos hst])⟩
                clear hq cnj hda hdb KE hkM hyN hst
                generalize rst (a.drop (k + 1)) (b.drop (y + 1)) = z at *
                go_upto_region 16 with fail
                refine wp_region_last _ 15 (by kernel_rfl) (by kernel_rfl) rfl rfl ?_
                simp only [List.take_succ_cons, List.take_zero]
                repeat (first | go_big_quiet_step (fail) | quiet_step (fail))
                refine wpQuiet_nil ?_
                intro m
                go_wp2
                go_roundw
                case rel => exact ⟨y, _, by go_num, by omega, (KF.out m).1, (KF.out m).2⟩
                case measure => simp [intOf]
              · have hsn : (s.toList == t.toList) = false := by
                  rw [beq_eq_false_iff_ne]
                  intro h
                  apply hst
                  rw [Lib.toList_data, Lib.toList_data] at h
                  apply ByteArray.ext
                  exact Array.ext' h
                go_upto_region 15 with fail
                go_quiet (fail)
                generalize hwq : World.drewN wr _ = wq
                have hq : TbMd w wq w.heap.size a b k rb R := by rw [← hwq]; exact hmid.drewN _
                clear hwq hmid ck cm fm cs ct KM
                obtain ⟨nb, cn, cnj⟩ := hq.next hka
                have ck := hq.ck
                have cm := hq.row.cell y _ (intV_get KU.out)
                have fm := hq.row.frozen y
                have k3 : (0 : Int) ≤ (k : Int) + 1 := by omega
                have k4 : (k : Int) + 1 < ((a.length : Nat) : Int) + 1 := by omega
                have k5 : ((k : Int) + 1).toNat = k + 1 := by omega
                have k6 : IntKind.i64.wrap ((k : Int) + 1) = (k : Int) + 1 := wr64 (by omega) (by omega)
                have y3 : (0 : Int) ≤ (y : Int) + 1 := by omega
                have y4 : (y : Int) + 1 < ((b.length : Nat) : Int) + 1 := by omega
                have y5 : ((y : Int) + 1).toNat = y + 1 := by omega
                have y6 : IntKind.i64.wrap ((y : Int) + 1) = (y : Int) + 1 := wr64 (by omega) (by omega)
                have c1 := cnj y (by omega)
                have hR1 := Kall2.out (y + 1) (Nat.le_refl _) (by omega)
                have c2 := hq.row.cell (y + 1) _ (intV_get hR1)
                obtain ⟨z, hz⟩ : ∃ z, 1 + min (rst (a.drop (k + 1)) (b.drop y)) (rst (a.drop k) (b.drop (y + 1))) = z := ⟨_, rfl⟩
                have hzb : z ≤ 3000 := by
                  have h1 := rst_le _ (a.drop (k + 1)) (b.drop y) (Nat.le_refl _)
                  rw [List.length_drop, List.length_drop] at h1
                  omega
                have KF : Kept (∀ m, TbMd w ((wq.drewN m).setCell ⟨rb, y, none⟩ (.int .i64 (z : Int))) w.heap.size a b k rb (R.set y z) ∧ ∀ j, y ≤ j → j ≤ b.length → (R.set y z)[j]? = some (rst (a.drop k) (b.drop j))) := ⟨fun m => KE.out (wq.drewN m) z (hq.drewN m) (by rw [← hz]; conv => rhs; rw [hda, hdb, rst_cons, if_neg hst, ← hda, ← hdb])⟩
                clear hq cnj hda hdb KE hkM hyN hR1 Kall2 hst
                generalize rst (a.drop (k + 1)) (b.drop y) = z1 at *
                generalize rst (a.drop k) (b.drop (y + 1)) = z2 at *
                have Kw : Kept (wrap64 (1 + min (z1 : Int) (z2 : Int)) = (z : Int)) := ⟨by
                  have : (1 + min (z1 : Int) (z2 : Int)) = (z : Int) := by omega
                  rw [this]
                  unfold wrap64
                  omega⟩
                clear hz hzb
                go_upto_region 10 with fail
                refine wp_region_last _ 24 (by kernel_rfl) (by kernel_rfl) rfl rfl ?_
                simp only [List.take_succ_cons, List.take_zero]
                repeat (first | go_big_quiet_step (fail) | quiet_step (fail))
                refine wpQuiet_nil ?_
                intro m
                go_wp2
                go_roundw
                case rel => exact ⟨y, _, by go_num, by omega, by rw [Kw.out]; exact (KF.out m).1, (KF.out m).2⟩
                case measure => simp [intOf]
end Go.Proofs.Ytidpdhnbnecddaa
