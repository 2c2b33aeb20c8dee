/-
  The document's body.
-/
import Derived.Test.YthkaohkondkhgaaDoorID1
import Derived.Test.YthkaohkondkhgaaDoorShR
import Derived.Test.YthkaohkondkhgaaDoorIZ
namespace Go.Proofs.YthkaohkondkhgaaDoor
open Go.RowKit

set_option maxHeartbeats 4000000 in
set_option maxRecDepth 100000 in
theorem body_any (v : Value) (es : List SlC) (w : World) (hr : RdZ w v es) (hl : es.length ≤ 4096) (hf : ∀ e ∈ es, FitZ e) :
    Calls Tryd.prog 33 #[v] w fun e w' => ∃ v', e = .returned v' ∧ Own .u8 5 w' w.heap.size v' (bodL es) ∧ Below w.heap.size w w' := by
  obtain ⟨i0, z0, hi, hz, hs, hb0, hc⟩ := info8
  obtain ⟨a, c, rfl, hlc, hok, hrd⟩ := hr
  have KR := Kept.mk hrd
  have KK := Kept.mk hok
  have KF := Kept.mk hf
  have hli : (es.length : Int) ≤ 4096 := by omega
  have hcv : IntKind.u64.wrap (es.length : Int) = (es.length : Int) := wru64 (by omega) (by omega)
  obtain ⟨x1, hx1, hB1, hz1, hbk1⟩ : ∃ x1, w.alloc (.cells #[.int .u8 68, .int .u8 73, .int .u8 82, .int .u8 67, .int .u8 0, .int .u8 0, .int .u8 0, .int .u8 2] 5) = x1 ∧ Below w.heap.size w x1 ∧ x1.heap.size = w.heap.size + 1 ∧ BlkK .u8 x1 w.heap.size 5 headB := ⟨_, rfl, (Below.refl _ _).alloc (Nat.le_refl _) _, by simp, heap_alloc_new w _⟩
  have KPb := Kept.mk (Nu.refPutBig_any _ headB es.length 4 x1 (nuRd (hbk1.rd (by decide)) (fun x hx => by unfold headB at hx; simp at hx; omega)) (by omega) (by omega) (by omega) (by omega) (by decide))
  have KB1 := Kept.mk hB1
  clear hrd hok hf hB1 hz1 hbk1
  go_enter Tryd.func33, Tryd.ntmps33
  go_wp2_with fail
  try rw [hx1]
  refine Calls.mono KPb.out (fun x w2 hp => ?_)
  obtain ⟨v2, rfl, hO2, hb2⟩ := hp
  have hO2' : Own .u8 5 w2 x1.heap.size v2 (headB ++ Nu.bigF 4 es.length) := hO2
  have KB2 := Kept.mk (KB1.out.trans (hb2.mono KB1.out.size))
  have KO2 := Kept.mk (hO2'.mono KB1.out.size)
  obtain ⟨a2, c2, rfl, -⟩ := hO2'.rd.form
  have hPl : (headB ++ Nu.bigF 4 (es.length : Int)).length = 12 := by rw [List.length_append, Nu.bigF_length]; rfl
  obtain ⟨PRE, hPRE⟩ : ∃ PRE, headB ++ Nu.bigF 4 (es.length : Int) = PRE := ⟨_, rfl⟩
  have KBod : Kept (bodL es = PRE ++ es.flatMap sbL) := ⟨by unfold bodL; rw [hPRE]⟩
  rw [hPRE] at hPl KO2 ⊢
  have KlP := Kept.mk hPl
  clear hO2 hO2' hb2 hPRE hPl KPb hx1 hcv
  go_wp2
  go_loopw [3, 16] (fun ov kv wr => ∃ k : Nat, k ≤ es.length ∧ kv = .int .i64 k ∧ (∃ ap cp, ov = .slice ap (PRE ++ (es.take k).flatMap sbL).length cp) ∧ Own .u8 5 wr w.heap.size ov (PRE ++ (es.take k).flatMap sbL) ∧ Below w.heap.size w wr) (fun _ kv _ => es.length - (intOf kv).toNat)
  case atStart => exact ⟨0, Nat.zero_le _, rfl, ⟨a2, c2, by simp⟩, by simpa using KO2.out, KB2.out⟩
  case round =>
    obtain ⟨k, hk, rfl, ⟨ap, cp, rfl⟩, hO, hbel⟩ := hrel
    have KBr := Kept.mk hbel
    have KO := Kept.mk hO
    by_cases hlt : k < es.length
    · have hki : (k : Int) < (es.length : Int) := by omega
      obtain ⟨b, off, rfl, hbl, hrg⟩ := KR.out (by omega)
      have hR : Kept (wr.rangeAt b (off + k * 37) (es[k]'hlt).l) := ⟨fun j u hu => by
        rw [hbel.cell (p := ⟨b, off + k * 37 + j, none⟩) hbl]
        exact hrg k hlt j u hu⟩
      have hko := KK.out _ (List.getElem_mem hlt)
      have hkf := KF.out _ (List.getElem_mem hlt)
      have KI := Kept.mk (SlC.info hko)
      obtain ⟨x2, hx2, hBx, hzx, hbx, hcx⟩ := SlC.box wr hko
      have KRx : Kept (∀ W', CC x2 W' → W'.rangeAt wr.heap.size 3 (cellsK .u8 (es[k]'hlt).ids)) := ⟨fun W' hW' j u hu => by
        have hj : j < 32 := by
          have := (List.getElem?_eq_some_iff.1 hu).1
          rw [cellsK_length, hko.1] at this
          exact this
        rw [hW'.cell (p := ⟨wr.heap.size, 3 + j, none⟩) (by rw [hzx]; simp only; omega)]
        unfold World.cell?
        simp only [hbx]
        rw [List.getElem?_toArray, SlC.cI hko hj]
        rw [← hu]
        unfold cellsK
        rw [List.getElem?_map, List.getD_eq_getElem?_getD, List.getElem?_eq_getElem (by rw [hko.1]; exact hj)]
        rfl⟩
      have KBx := Kept.mk (KBr.out.trans (hBx.mono KBr.out.size))
      have KOx := Kept.mk (KO.out.later hBx (Nat.le_refl _))
      have Kcx := Kept.mk hcx
      have KSt : Kept ((es.take (k + 1)).flatMap sbL = (es.take k).flatMap sbL ++ sbL (es[k]'hlt)) := ⟨by
        rw [List.take_add_one, List.getElem?_eq_getElem hlt, List.flatMap_append]
        simp⟩
      have hlb : (PRE ++ (es.take k).flatMap sbL).length + (sbL (es[k]'hlt)).length ≤ 140737488355328 := by
        have h1 := flat_len (es := es.take k) (fun x hx => KF.out x (List.mem_of_mem_take hx))
        have h2 := sb_len (es[k]'hlt) hko.1
        have h3 := slz_ge (es[k]'hlt).pt.size
        have h4 : (es[k]'hlt).pt.size ≤ 200 := hkf.2.2.2.2.2.2.2.2.2
        rw [List.length_append, KlP.out, h2]
        rw [List.length_take] at h1
        omega
      have KLb := Kept.mk hlb
      have h37 := SlC.len hko
      have hones := SlC.ones (es[k]'hlt)
      have KSb : Kept (sbL (es[k]'hlt) = rz 8 ++ (Nu.bigF 4 (es[k]'hlt).tm ++ (rz 12 ++ (Nu.bigF 4 (es[k]'hlt).md ++ (rz 8 ++ (Nu.bigF 4 (es[k]'hlt).sz ++ ((es[k]'hlt).ids ++ (Nu.bigF 2 (4096 * (es[k]'hlt).st + (es[k]'hlt).pt.size) ++ (ptB (es[k]'hlt).pt ++ rz (slz (es[k]'hlt).pt.size - 74 - (es[k]'hlt).pt.size)))))))))) := ⟨rfl⟩
      obtain ⟨-, s0, s1, z0', z1, t0, t1, m0, m1, hps⟩ := hkf
      have hid := hko.1
      have hidA := hko.2.1
      clear hbel hO hrg hko hbx hlb hBx hcx
      generalize sbL (es[k]'hlt) = SB at *
      generalize (es[k]'hlt).l = CL at *
      generalize (es[k]'hlt).tm = TM at *
      generalize (es[k]'hlt).md = MD at *
      generalize (es[k]'hlt).sz = SZ at *
      generalize (es[k]'hlt).ids = IDS at *
      generalize (es[k]'hlt).st = ST at *
      generalize (es[k]'hlt).pt = PT at *
      generalize (es.take k).flatMap sbL = TL at *
      obtain ⟨CUR, hCUR⟩ : ∃ CUR, PRE ++ TL = CUR := ⟨_, rfl⟩
      have KCu := Kept.mk hCUR
      rw [hCUR] at KOx KLb KO ⊢
      clear hCUR KO
      have KI2 : Kept ((Tryd.prog.info? 41).map (·.size) = some CL.toArray.size) := ⟨by rw [List.size_toArray]; exact KI.out⟩
      have KS : Kept (CL.toArray.size = 37) := ⟨by rw [List.size_toArray]; exact h37⟩
      have KOn : Kept (CL.toArray.all (·.oneCell') = true) := ⟨by rw [Array.all_eq_true_iff_forall_mem]; intro x hx; exact hones x (by simpa using hx)⟩
      clear h37 hones
      have ht1 : IntKind.u64.wrap TM = TM := wru64 (by omega) (by omega)
      have hm1 : IntKind.u64.wrap MD = MD := wru64 (by omega) (by omega)
      have hs1' : IntKind.u64.wrap SZ = SZ := wru64 (by omega) (by omega)
      have hsw : IntKind.i64.wrap (4096 * ST) = 4096 * ST := wr64 (by omega) (by omega)
      have hsw2 : IntKind.i64.wrap (4096 * ST + PT.size) = 4096 * ST + PT.size := wr64 (by omega) (by omega)
      have hsw3 : IntKind.u64.wrap (4096 * ST + PT.size) = 4096 * ST + PT.size := wru64 (by omega) (by omega)
      have hmin : min (PT.size : Int) 4095 = PT.size := by omega
      -- the cells of the slot's own block, at any later world
      have KC : Kept (∀ W', CC x2 W' → (W'.cell? ⟨wr.heap.size, 0, none⟩ = some (.string PT) ∧ W'.cell? ⟨wr.heap.size, 1, none⟩ = some (.int .i64 ST) ∧ W'.cell? ⟨wr.heap.size, 2, none⟩ = some (.int .i64 MD) ∧ W'.cell? ⟨wr.heap.size, 35, none⟩ = some (.int .i64 SZ) ∧ W'.cell? ⟨wr.heap.size, 36, none⟩ = some (.int .i64 TM))) := Kcx
      go_upto_region 6 with (first | (refine wpList_load_mid rfl 41 _ rfl b (off + k * 37) rfl CL _ hR.out Tryd.underlying41 rfl KI.out ?_) | (refine BigFrame.wpList_want rfl (fun K hK => wp_store_row 41 _ _ rfl wr.heap.size CL.toArray rfl rfl 41 _ (heap_alloc_new wr _) KI2.out (by rw [KS.out]; rfl) KOn.out (hK _ _ ?_)); rw [World.setRow_alloc_new]))
      try rw [hx2]
      clear hx2
      go_upto_region 7 with (at_make; refine wpList_make_u8 _ rfl _ _ rfl (8 : Int) (8 : Int) 8 rfl rfl rfl rfl (by omega) ?_; intro x3 hbk3 hgr3; have KK3 := Kept.mk hbk3; have KG3 := Kept.mk hgr3; clear hbk3 hgr3)
      have KB3 : Kept (CC x2 x3) := ⟨(Below.refl _ _).grown KG3.out (Nat.le_refl _) (by intro k hk; cases hk)⟩
      rw [show wr.heap.size + 1 = x2.heap.size from hzx.symm]
      have Kzx := Kept.mk hzx
      clear hzx
      obtain ⟨X0, hX0⟩ : ∃ X0, rz 8 = X0 := ⟨_, rfl⟩
      have KE0 := Kept.mk hX0
      have KA0 : Kept (AllIn 0 256 X0) := ⟨hX0 ▸ all_rz 8⟩
      have N0 : Kept (X0.length = 8) := ⟨by rw [← hX0]; exact List.length_replicate⟩
      have KR0 : Kept (Rd .u8 anyB x3 (.slice (some ⟨x2.heap.size, 0, none⟩) 8 8) X0) := ⟨hX0 ▸ KK3.out.rd (by decide)⟩
      clear hX0
      have cc := (KC.out x3 KB3.out).2.2.2.2
      go_upto_region 8 with fail
      have KP0 := Kept.mk (Nu.refPutBig_any (.slice (some ⟨x2.heap.size, 0, none⟩) 8 8) X0 TM 4 x3 (nuRd KR0.out KA0.out) (by omega) (by omega) (by omega) (by omega) (by have := N0.out; omega))
      refine Calls.mono KP0.out (fun x x4 hp => ?_)
      obtain ⟨v4, rfl, hO, hb⟩ := hp
      have hO' : Own .u8 5 x4 x3.heap.size v4 (X0 ++ Nu.bigF 4 TM) := hO
      have KB4 : Kept (CC x2 x4) := ⟨CC.on KB3.out hb⟩
      have hO2 := hO'.mono KB3.out.size
      obtain ⟨X1, hX⟩ : ∃ X1, X0 ++ Nu.bigF 4 TM = X1 := ⟨_, rfl⟩
      rw [hX] at hO2
      have KE1 := Kept.mk hX
      have KA1 : Kept (AllIn 0 256 X1) := ⟨hX ▸ all_app KA0.out (all_big _ _)⟩
      have N1 : Kept (X1.length = 12) := ⟨by have := N0.out; rw [← hX, List.length_append, Nu.bigF_length]; omega⟩
      obtain ⟨a4, c4, rfl, -⟩ := hO2.rd.form
      have KO1 := Kept.mk hO2
      clear hO hO' hO2 hb hX cc KP0
      have hsz5 : x2.heap.size ≤ x4.heap.size := KB4.out.size
      go_upto_region 9 with (at_builtin; refine wpList_append_rz _ rfl _ _ rfl x2.heap.size (.slice a4 X1.length c4) X1 rfl KO1.out (by have := N1.out; omega) 12 rfl (by omega) (by have := N1.out; omega) hsz5 ?_; intro v5 x5 hown hgrow; have KO := Kept.mk hown; have KG := Kept.mk hgrow; clear hown hgrow)
      have hO2 : Own .u8 5 x5 x2.heap.size v5 (X1 ++ rz 12) := KO.out
      have KB5 : Kept (CC x2 x5) := ⟨KB4.out.grown KG.out hsz5 (own_ge KO1.out)⟩
      obtain ⟨X2, hX⟩ : ∃ X2, X1 ++ rz 12 = X2 := ⟨_, rfl⟩
      rw [hX] at hO2
      have KE2 := Kept.mk hX
      have KA2 : Kept (AllIn 0 256 X2) := ⟨hX ▸ all_app KA1.out (all_rz 12)⟩
      have N2 : Kept (X2.length = 24) := ⟨by have := N1.out; rw [← hX, List.length_append, show (rz 12).length = 12 from List.length_replicate]; omega⟩
      obtain ⟨a5, c5, rfl, -⟩ := hO2.rd.form
      have KO2 := Kept.mk hO2
      clear hO2 hX KO KG
      have cc := (KC.out x5 KB5.out).2.2.1
      go_upto_region 10 with fail
      have KP2 := Kept.mk (Nu.refPutBig_any (.slice a5 X2.length c5) X2 MD 4 x5 (nuRd KO2.out.rd KA2.out) (by omega) (by omega) (by omega) (by omega) (by have := N2.out; omega))
      refine Calls.mono KP2.out (fun x x6 hp => ?_)
      obtain ⟨v6, rfl, hO, hb⟩ := hp
      have hO' : Own .u8 5 x6 x5.heap.size v6 (X2 ++ Nu.bigF 4 MD) := hO
      have KB6 : Kept (CC x2 x6) := ⟨CC.on KB5.out hb⟩
      have hO2 := hO'.mono KB5.out.size
      obtain ⟨X3, hX⟩ : ∃ X3, X2 ++ Nu.bigF 4 MD = X3 := ⟨_, rfl⟩
      rw [hX] at hO2
      have KE3 := Kept.mk hX
      have KA3 : Kept (AllIn 0 256 X3) := ⟨hX ▸ all_app KA2.out (all_big _ _)⟩
      have N3 : Kept (X3.length = 28) := ⟨by have := N2.out; rw [← hX, List.length_append, Nu.bigF_length]; omega⟩
      obtain ⟨a6, c6, rfl, -⟩ := hO2.rd.form
      have KO3 := Kept.mk hO2
      clear hO hO' hO2 hb hX cc KP2
      have hsz7 : x2.heap.size ≤ x6.heap.size := KB6.out.size
      go_upto_region 11 with (at_builtin; refine wpList_append_rz _ rfl _ _ rfl x2.heap.size (.slice a6 X3.length c6) X3 rfl KO3.out (by have := N3.out; omega) 8 rfl (by omega) (by have := N3.out; omega) hsz7 ?_; intro v7 x7 hown hgrow; have KO := Kept.mk hown; have KG := Kept.mk hgrow; clear hown hgrow)
      have hO2 : Own .u8 5 x7 x2.heap.size v7 (X3 ++ rz 8) := KO.out
      have KB7 : Kept (CC x2 x7) := ⟨KB6.out.grown KG.out hsz7 (own_ge KO3.out)⟩
      obtain ⟨X4, hX⟩ : ∃ X4, X3 ++ rz 8 = X4 := ⟨_, rfl⟩
      rw [hX] at hO2
      have KE4 := Kept.mk hX
      have KA4 : Kept (AllIn 0 256 X4) := ⟨hX ▸ all_app KA3.out (all_rz 8)⟩
      have N4 : Kept (X4.length = 36) := ⟨by have := N3.out; rw [← hX, List.length_append, show (rz 8).length = 8 from List.length_replicate]; omega⟩
      obtain ⟨a7, c7, rfl, -⟩ := hO2.rd.form
      have KO4 := Kept.mk hO2
      clear hO2 hX KO KG
      have cc := (KC.out x7 KB7.out).2.2.2.1
      go_upto_region 12 with fail
      have KP4 := Kept.mk (Nu.refPutBig_any (.slice a7 X4.length c7) X4 SZ 4 x7 (nuRd KO4.out.rd KA4.out) (by omega) (by omega) (by omega) (by omega) (by have := N4.out; omega))
      refine Calls.mono KP4.out (fun x x8 hp => ?_)
      obtain ⟨v8, rfl, hO, hb⟩ := hp
      have hO' : Own .u8 5 x8 x7.heap.size v8 (X4 ++ Nu.bigF 4 SZ) := hO
      have KB8 : Kept (CC x2 x8) := ⟨CC.on KB7.out hb⟩
      have hO2 := hO'.mono KB7.out.size
      obtain ⟨X5, hX⟩ : ∃ X5, X4 ++ Nu.bigF 4 SZ = X5 := ⟨_, rfl⟩
      rw [hX] at hO2
      have KE5 := Kept.mk hX
      have KA5 : Kept (AllIn 0 256 X5) := ⟨hX ▸ all_app KA4.out (all_big _ _)⟩
      have N5 : Kept (X5.length = 40) := ⟨by have := N4.out; rw [← hX, List.length_append, Nu.bigF_length]; omega⟩
      obtain ⟨a8, c8, rfl, -⟩ := hO2.rd.form
      have KO5 := Kept.mk hO2
      clear hO hO' hO2 hb hX cc KP4
      obtain ⟨x9, hy, hBy, hzy, hbky⟩ := box_id x8 IDS
      have KIr : Kept (x8.rangeAt wr.heap.size 3 (cellsK .u8 IDS)) := ⟨KRx.out x8 KB8.out⟩
      have KIl : Kept ((Tryd.prog.info? 39).map (·.size) = some (cellsK .u8 IDS).length) := ⟨by rw [cellsK_length, hid]; exact info_id⟩
      have KDz : Kept ((cellsK .u8 IDS).toArray.size = 32) := ⟨by rw [List.size_toArray, cellsK_length, hid]⟩
      have KDi : Kept ((Tryd.prog.info? 39).map (·.size) = some (cellsK .u8 IDS).toArray.size) := ⟨by rw [KDz.out]; exact info_id⟩
      have KDo := Kept.mk (cellsK_all .u8 IDS)
      have KDr : Kept (Rd .u8 anyB x9 (.slice (some ⟨x8.heap.size, 0, none⟩) 32 32) IDS) := ⟨by have h := hbky.rd (by rw [hid]; omega); rwa [hid] at h⟩
      have KB9 : Kept (CC x2 x9) := ⟨CC.on KB8.out hBy⟩
      have KOy : Kept (Own .u8 5 x9 x2.heap.size (.slice a8 X5.length c8) X5) := ⟨KO5.out.later hBy (Nat.le_refl _)⟩
      have Kid := Kept.mk hid
      clear hBy hzy hbky hid
      obtain ⟨CI, hCI⟩ : ∃ CI, cellsK .u8 IDS = CI := ⟨_, rfl⟩
      rw [hCI] at KIr KIl KDz KDi KDo hy
      clear hCI
      go_upto_region 13 with (first | (refine wpList_load_mid rfl 39 _ rfl wr.heap.size 3 rfl CI _ KIr.out Tryd.underlying39 rfl KIl.out ?_) | (refine BigFrame.wpList_want rfl (fun K hK => wp_store_row 39 _ _ rfl x8.heap.size CI.toArray rfl rfl 39 _ (heap_alloc_new x8 _) KDi.out (by rw [KDz.out]; rfl) KDo.out (hK _ _ ?_)); rw [World.setRow_alloc_new]))
      rw [hy]
      clear hy
      have hsz10 : x2.heap.size ≤ x9.heap.size := KB9.out.size
      go_upto_region 14 with (at_builtin; refine wpList_append_rd _ rfl _ _ 25 rfl .u8 anyB 1 x2.heap.size 5 i0 z0 Tryd.underlying25 hi hz hs hb0 hc (by omega) (.slice a8 X5.length c8) X5 rfl KOy.out _ IDS rfl KDr.out (by have := N5.out; have := Kid.out; omega) hsz10 ?_; intro v10 x10 hown hgrow _; have KO := Kept.mk hown; have KG := Kept.mk hgrow; clear hown hgrow)
      have hO2 : Own .u8 5 x10 x2.heap.size v10 (X5 ++ IDS) := KO.out
      have KB10 : Kept (CC x2 x10) := ⟨KB9.out.grown KG.out hsz10 (own_ge KOy.out)⟩
      obtain ⟨X6, hX⟩ : ∃ X6, X5 ++ IDS = X6 := ⟨_, rfl⟩
      rw [hX] at hO2
      have KE6 := Kept.mk hX
      have KA6 : Kept (AllIn 0 256 X6) := ⟨hX ▸ all_app KA5.out hidA⟩
      have N6 : Kept (X6.length = 72) := ⟨by have := N5.out; rw [← hX, List.length_append, Kid.out]; omega⟩
      obtain ⟨a10, c10, rfl, -⟩ := hO2.rd.form
      have KO6 := Kept.mk hO2
      clear hO2 hX KO KG
      obtain ⟨cc, cc1, -⟩ := KC.out x10 KB10.out
      go_upto_region 15 with fail
      have KP6 := Kept.mk (Nu.refPutBig_any (.slice a10 X6.length c10) X6 (4096 * ST + PT.size) 2 x10 (nuRd KO6.out.rd KA6.out) (by omega) (by omega) (by omega) (by omega) (by have := N6.out; omega))
      refine Calls.mono KP6.out (fun x x11 hp => ?_)
      obtain ⟨v11, rfl, hO, hb⟩ := hp
      have hO' : Own .u8 5 x11 x10.heap.size v11 (X6 ++ Nu.bigF 2 (4096 * ST + PT.size)) := hO
      have KB11 : Kept (CC x2 x11) := ⟨CC.on KB10.out hb⟩
      have hO2 := hO'.mono KB10.out.size
      obtain ⟨X7, hX⟩ : ∃ X7, X6 ++ Nu.bigF 2 (4096 * ST + PT.size) = X7 := ⟨_, rfl⟩
      rw [hX] at hO2
      have KE7 := Kept.mk hX
      have KA7 : Kept (AllIn 0 256 X7) := ⟨hX ▸ all_app KA6.out (all_big _ _)⟩
      have N7 : Kept (X7.length = 74) := ⟨by have := N6.out; rw [← hX, List.length_append, Nu.bigF_length]; omega⟩
      obtain ⟨a11, c11, rfl, -⟩ := hO2.rd.form
      have KO7 := Kept.mk hO2
      clear hO hO' hO2 hb hX cc cc1 KP6
      have cc := (KC.out x11 KB11.out).1
      have hsz12 : x2.heap.size ≤ x11.heap.size := KB11.out.size
      go_upto_region 16 with (at_builtin; refine wpList_append_s _ rfl _ _ rfl x2.heap.size (.slice a11 X7.length c11) X7 rfl KO7.out PT rfl (by have := N7.out; omega) hsz12 ?_; intro v12 x12 hown hgrow; have KO := Kept.mk hown; have KG := Kept.mk hgrow; clear hown hgrow)
      have hO2 : Own .u8 5 x12 x2.heap.size v12 (X7 ++ ptB PT) := KO.out
      have KB12 : Kept (CC x2 x12) := ⟨KB11.out.grown KG.out hsz12 (own_ge KO7.out)⟩
      obtain ⟨X8, hX⟩ : ∃ X8, X7 ++ ptB PT = X8 := ⟨_, rfl⟩
      rw [hX] at hO2
      have KE8 := Kept.mk hX
      have KA8 : Kept (AllIn 0 256 X8) := ⟨hX ▸ all_app KA7.out (all_pt _)⟩
      have N8 : Kept (X8.length = 74 + PT.size) := ⟨by have := N7.out; rw [← hX, List.length_append, ptB_length]; omega⟩
      obtain ⟨a12, c12, rfl, -⟩ := hO2.rd.form
      have KO8 := Kept.mk hO2
      clear hO2 hX KO KG
      clear cc
      obtain ⟨x13, hy⟩ : ∃ x13, x12.alloc (.cells #[.int .u8 0] 5) = x13 := ⟨_, rfl⟩
      have KB13 : Kept (CC x2 x13) := ⟨by rw [← hy]; exact KB12.out.alloc KB12.out.size _⟩
      have KR1 : Kept (Rd .u8 anyB x13 (.slice (some ⟨x12.heap.size, 0, none⟩) 1 1) [0]) := ⟨by rw [← hy]; exact Rd.one .u8 x12 0 5⟩
      have KOy : Kept (Own .u8 5 x13 x2.heap.size (.slice a12 X8.length c12) X8) := ⟨by rw [← hy]; exact KO8.out.alloc _⟩
      have hsz14 : x2.heap.size ≤ x13.heap.size := KB13.out.size
      go_upto_region 17 with (at_builtin; refine wpList_append_rd _ rfl _ _ 25 rfl .u8 anyB 1 x2.heap.size 5 i0 z0 Tryd.underlying25 hi hz hs hb0 hc (by omega) (.slice a12 X8.length c12) X8 rfl KOy.out _ [0] rfl KR1.out (by have := N8.out; simp; omega) hsz14 ?_; intro v14 x14 hown hgrow _; have KO := Kept.mk hown; have KG := Kept.mk hgrow; clear hown hgrow)
      clear hy
      have hO2 : Own .u8 5 x14 x2.heap.size v14 (X8 ++ [0]) := KO.out
      have KB14 : Kept (CC x2 x14) := ⟨KB13.out.grown KG.out hsz14 (own_ge KOy.out)⟩
      obtain ⟨X9, hX⟩ : ∃ X9, X8 ++ [0] = X9 := ⟨_, rfl⟩
      rw [hX] at hO2
      have KE9 := Kept.mk hX
      have KA9 : Kept (AllIn 0 256 X9) := ⟨hX ▸ all_app KA8.out (fun x hx => by simp at hx; omega)⟩
      have N9 : Kept (X9.length = 74 + PT.size + 1) := ⟨by have := N8.out; rw [← hX, List.length_append, List.length_singleton]; omega⟩
      obtain ⟨a14, c14, rfl, -⟩ := hO2.rd.form
      have KO9 := Kept.mk hO2
      clear hO2 hX KO KG
      have hsz9 := slz_ge PT.size
      obtain ⟨Z, hZ⟩ : ∃ Z, slz PT.size = Z := ⟨_, rfl⟩
      have h8 : Z % 8 = 0 ∧ Z ≤ 82 + PT.size ∧ 75 + PT.size ≤ Z := by rw [← hZ]; exact ⟨by unfold slz; omega, hsz9.2, hsz9.1⟩
      have Kh8 := Kept.mk h8
      clear hsz9 h8
      go_loopw [6] (fun ev wq => ∃ j : Nat, 75 + PT.size + j ≤ Z ∧ (∃ ae ce, ev = .slice ae (X9 ++ rz j).length ce) ∧ Own .u8 5 wq x2.heap.size ev (X9 ++ rz j) ∧ CC x2 wq) (fun ev _ => Z - slLen ev)
      case atStart => exact ⟨0, by have := Kh8.out; omega, ⟨_, _, by rw [show rz 0 = [] from rfl, List.append_nil]⟩, by rw [show rz 0 = [] from rfl, List.append_nil]; exact KO9.out, KB14.out⟩
      case round =>
        obtain ⟨j, hj, ⟨ae, ce, rfl⟩, hOe, hbe⟩ := hrel
        obtain ⟨XE, hXE⟩ : ∃ XE, X9 ++ rz j = XE := ⟨_, rfl⟩
        have hlx : XE.length = 75 + PT.size + j := by rw [← hXE, List.length_append, N9.out, show (rz j).length = j from List.length_replicate]; omega
        rw [hXE] at hOe ⊢
        have KXE := Kept.mk hXE
        have KOe := Kept.mk hOe
        have KBe := Kept.mk hbe
        have Kj := Kept.mk hj
        obtain ⟨L, hLe⟩ : ∃ L, XE.length = L := ⟨_, rfl⟩
        rw [hLe] at hlx ⊢
        have KLe := Kept.mk hLe
        have Khl := Kept.mk hlx
        clear hXE hOe hbe hj hLe hlx
        by_cases hend : L = Z
        · have hq : (L : Int).tmod 8 = 0 := by rw [Int.tmod_eq_emod_of_nonneg (by omega)]; have := Kh8.out; omega
          have hq2 : (L : Int) % 8 = 0 := by have := Kh8.out; omega
          have KSB : Kept (XE = SB) := ⟨by
            have h1 := Kj.out
            have h2 := Kh8.out
            have h3 := Khl.out
            rw [KSb.out, ← KXE.out, ← KE9.out, ← KE8.out, ← KE7.out, ← KE6.out, ← KE5.out, ← KE4.out, ← KE3.out, ← KE2.out, ← KE1.out, ← KE0.out, hZ, show Z - 74 - PT.size = j + 1 by omega]
            simp only [List.append_assoc]
            rfl⟩
          have KRe : Kept (Rd .u8 anyB wr (.slice ae L ce) SB) := ⟨by rw [← KSB.out, ← KLe.out]; exact KOe.out.rd.any⟩
          have KOz : Kept (Own .u8 5 wr w.heap.size (.slice ap CUR.length cp) CUR) := ⟨KOx.out.later KBe.out (Nat.le_refl _)⟩
          have KBz : Kept (Below w.heap.size w wr) := ⟨KBx.out.trans (KBe.out.mono KBx.out.size)⟩
          have hwz : w.heap.size ≤ wr.heap.size := KBz.out.size
          go_wp2_with (at_builtin; refine wpList_append_rd _ rfl _ _ 25 rfl .u8 anyB 1 w.heap.size 5 i0 z0 Tryd.underlying25 hi hz hs hb0 hc (by omega) (.slice ap CUR.length cp) CUR rfl KOz.out _ SB rfl KRe.out (by have := KLb.out; omega) hwz ?_; intro v6 w6 hown hgrow hat6; obtain ⟨a6', c6', rfl, -⟩ := hown.rd.form; have KO6 := Kept.mk hown; have KG6 := Kept.mk hgrow; clear hown hgrow hat6)
          go_roundw
          case rel =>
            refine ⟨k + 1, hlt, by go_num, ⟨a6', c6', ?_⟩, ?_, ?_⟩
            · rw [KSt.out, ← List.append_assoc, KCu.out, List.length_append]
            · rw [KSt.out, ← List.append_assoc, KCu.out, ← List.length_append]; exact KO6.out
            · exact KBz.out.grown KG6.out hwz (own_ge KOz.out)
          case measure => simp [intOf]; omega
        · obtain ⟨bq, hbq⟩ : ∃ bq, (L : Int) % 8 = bq := ⟨_, rfl⟩
          have hq : (L : Int).tmod 8 = bq := by rw [Int.tmod_eq_emod_of_nonneg (by omega)]; exact hbq
          have hq0 : ¬ bq = 0 := by have h1 := Kh8.out; have h2 := Khl.out; have h3 := Kj.out; omega
          have hq1 : (bq != 0) = true := by simpa using hq0
          have Kq0 := Kept.mk hq0
          have KHe := Kept.mk hend
          clear hend hq0
          obtain ⟨y, hy⟩ : ∃ y, wr.alloc (.cells #[.int .u8 0] 5) = y := ⟨_, rfl⟩
          have KBy : Kept (CC x2 y) := ⟨by rw [← hy]; exact KBe.out.alloc KBe.out.size _⟩
          have KRy : Kept (Rd .u8 anyB y (.slice (some ⟨wr.heap.size, 0, none⟩) 1 1) [0]) := ⟨by rw [← hy]; exact Rd.one .u8 wr 0 5⟩
          have KOq : Kept (Own .u8 5 y x2.heap.size (.slice ae L ce) XE) := ⟨by rw [← hy, ← KLe.out]; exact KOe.out.alloc _⟩
          have hsy : x2.heap.size ≤ y.heap.size := KBy.out.size
          go_wp2_with (at_builtin; refine wpList_append_rd _ rfl _ _ 25 rfl .u8 anyB 1 x2.heap.size 5 i0 z0 Tryd.underlying25 hi hz hs hb0 hc (by omega) (.slice ae L ce) XE rfl KOq.out _ [0] rfl KRy.out (by have h1 := KLe.out; have h2 := Khl.out; have h3 := Kh8.out; have h4 := Kj.out; simp; omega) hsy ?_; intro v6 w6 hown hgrow hat6; obtain ⟨a6', c6', rfl, -⟩ := hown.rd.form; have KO6 := Kept.mk hown; have KG6 := Kept.mk hgrow; clear hown hgrow hat6)
          go_roundw
          case rel =>
            have e1 : XE ++ [0] = X9 ++ rz (j + 1) := by
              rw [← KXE.out, List.append_assoc, show rz j ++ [0] = rz (j + 1) from by unfold rz; rw [List.replicate_succ']]
            refine ⟨j + 1, ?_, ⟨a6', c6', ?_⟩, ?_, ?_⟩
            · have h1 := Kh8.out; have h2 := Khl.out; have h3 := Kj.out; have h4 := Kq0.out; have h5 := KHe.out; omega
            · rw [← e1, List.length_append]; rfl
            · rw [← e1]; have h := KO6.out; rw [List.length_append] at h; exact h
            · exact KBy.out.grown KG6.out hsy (own_ge KOq.out)
          case measure => have h1 := KLe.out; have h2 := Khl.out; have h3 := Kj.out; have h5 := KHe.out; simp [slLen]; omega
    · have hki : ¬ (k : Int) < (es.length : Int) := by omega
      have hkk : k = es.length := by omega
      subst hkk
      rw [List.take_length] at KO ⊢
      have KOb : Kept (Own .u8 5 wr w.heap.size (.slice ap (bodL es).length cp) (bodL es)) := ⟨by rw [KBod.out]; exact KO.out⟩
      rw [← KBod.out]
      clear hO hbel KO
      go_wp2
      go_ret
      refine ⟨_, rfl, ?_, KBr.out⟩
      exact KOb.out
end Go.Proofs.YthkaohkondkhgaaDoor
