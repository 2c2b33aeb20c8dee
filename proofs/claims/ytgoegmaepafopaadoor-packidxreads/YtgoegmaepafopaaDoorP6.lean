/-
  Walks: appendRows. (By tools/gen_px6.py.)
-/
import Derived.Test.YtgoegmaepafopaaDoorP5
namespace Go.Proofs.YtgoegmaepafopaaDoor
open Go.RowKit

theorem Gb.side {ob lb : Option Nat} {w w1 w2 : World} {v1 l2 : Value} (h : Gb ob w w1 v1) (k : Gb lb w1 w2 l2) (hl : ∀ g, lb = some g → w.heap.size ≤ g) : Gb ob w w2 v1 :=
  ⟨k.os.trans h.os, k.tape.trans h.tape, k.output.trans h.output, Nat.le_trans h.size k.size, fun i hi hne => (k.block i (Nat.lt_of_lt_of_le hi h.size) (fun e => by have := hl i e.symm; omega)).trans (h.block i hi hne), h.at_⟩
theorem own_side {lb : Option Nat} {w1 w2 : World} {v1 l2 : Value} {base : Nat} {xs : List Int} (h : Own .u8 5 w1 base v1 xs) (k : Gb lb w1 w2 l2) (hne : ∀ g, v1.ownBlock = some g → lb ≠ some g) : Own .u8 5 w2 base v1 xs :=
  h.far fun g hg => k.block g (h.lt g hg).2 (fun e => hne g hg e.symm)
theorem Own.eq {k : IntKind} {e : TypeId} {w : World} {base : Nat} {v : Value} {xs ys : List Int} (h : Own k e w base v xs) (hx : xs = ys) : Own k e w base v ys := hx ▸ h
theorem lngs_get {rs : List RowC} {k : Nat} (h : k < rs.length) : lng (lngs rs) k = decide (2147483648 ≤ (rowI rs k).pl) := by
  rw [lng_get (by simpa [lngs] using h), rowI_get h]
  simp [lngs]

set_option maxHeartbeats 4000000 in
set_option maxRecDepth 100000 in
theorem appendRows_any (v p : Value) (xs : List Int) (rs : List RowC) (w : World) (base : Nat) (ho : Own .u8 5 w base p xs) (hbw : base ≤ w.heap.size) (hr : RdR w v rs) (hl : rs.length ≤ 4096) (hx : xs.length ≤ 1000000) (hnr : ∀ b off c, v = .slice (some ⟨b, off, none⟩) rs.length c → p.ownBlock ≠ some b) :
    Calls Tryd.prog 37 #[p, v] w fun e w' => ∃ v', e = .returned v' ∧ Own .u8 5 w' base v' (xs ++ idsB rs rs.length ++ crcB rs rs.length ++ accL (shortI rs (lngs rs)) rs.length ++ accL (longI rs (lngs rs)) rs.length) ∧ Gb p.ownBlock w w' v' := by
  obtain ⟨i0, z0, hi, hz, hs, hb0, hc⟩ := info8
  have KOp := Kept.mk ho
  obtain ⟨pa, pc, rfl, -, -, -⟩ := ho.rd.form
  obtain ⟨a, c, rfl, hlc, hcm, hac, hok, hrd⟩ := hr
  have KK := Kept.mk hok
  have KR : Kept (0 < rs.length → ∃ b off, a = some ⟨b, off, none⟩ ∧ b < w.heap.size ∧ ∀ wr v1, Gb (Value.slice pa xs.length pc).ownBlock w wr v1 → ∀ i, i < rs.length → wr.rangeAt b (off + i * 34) (rowI rs i).l) := ⟨fun h0 => by
    obtain ⟨b, off, rfl, h1, h2⟩ := hrd h0
    refine ⟨b, off, rfl, h1, fun wr v1 hg i hi j u hu => ?_⟩
    rw [World.cell?_of_block (w := w) (a := ⟨b, off + i * 34 + j, none⟩) (hg.block b h1 (fun e => hnr b off c rfl e.symm))]
    exact h2 i hi j u hu⟩
  clear ho hrd hok hnr
  go_enter Tryd.func37, Tryd.ntmps37
  go_wp2_with fail
  go_loopw [0, 15] (fun ov iv wr => ∃ k : Nat, k ≤ rs.length ∧ iv = .int .i64 k ∧ Own .u8 5 wr base ov (xs ++ idsB rs k) ∧ Gb (Value.slice pa xs.length pc).ownBlock w wr ov) (fun _ iv _ => rs.length - (intOf iv).toNat)
  case atStart => exact ⟨0, Nat.zero_le _, rfl, by simpa [idsB, accL] using KOp.out, Gb.refl _ _⟩
  case round =>
    obtain ⟨k, hk, rfl, how, hg⟩ := hrel
    have hbwr := Nat.le_trans hbw hg.size
    have KG := Kept.mk hg
    have KOw := Kept.mk how
    obtain ⟨oa, oc, rfl, -, -, -⟩ := how.rd.form
    clear hg how KOp
    have hlen := idsB_len KK.out hk
    by_cases hlt : k < rs.length
    · obtain ⟨b, off, rfl, hbl, hrg⟩ := KR.out (by omega)
      have hoR := rowI_ok KK.out hlt
      have hR : Kept (wr.rangeAt b (off + k * 34) (rowI rs k).l) := ⟨hrg wr _ KG.out k hlt⟩
      obtain ⟨w2, hw2, hB2, hlt2, -, -, hcC, hcP, hRI⟩ := box_row wr 39 hoR
      have KL2 : Kept ((rowI rs k).l.toArray.size = 34) := ⟨by rw [List.size_toArray]; exact RowC.len hoR⟩
      have KI2 : Kept ((Tryd.prog.info? 39).map (·.size) = some (rowI rs k).l.toArray.size) := ⟨by rw [KL2.out]; exact info_row1⟩
      have KI : Kept ((Tryd.prog.info? 39).map (·.size) = some (rowI rs k).l.length) := ⟨by rw [RowC.len hoR]; exact info_row1⟩
      have KO : Kept ((rowI rs k).l.toArray.all (·.oneCell') = true) := ⟨all_oneCell_toArray (RowC.ones _)⟩
      have hki : (k : Int) < (rs.length : Int) := by omega
      have e2 : IntKind.i64.wrap ((k : Int) + 1) = (k : Int) + 1 := wr64 (by omega) (by omega)
      have KSt : Kept (idsB rs (k + 1) = idsB rs k ++ (rowI rs k).ids) := ⟨accL_succ _ _⟩
      have KOb := Kept.mk (KOw.out.later hB2 (Nat.le_refl _))
      have KGb := Kept.mk (KG.out.on hB2)
      have KRI := Kept.mk hRI
      have hbw2 : base ≤ w2.heap.size := by omega
      have KLn : Kept (((xs ++ idsB rs k).length + (rowI rs k).ids.length) * 1 ≤ 140737488355328) := ⟨by rw [List.length_append, hlen, hoR.1]; omega⟩
      have KH : Kept ((rowI rs k).ids.length = 32) := ⟨hoR.1⟩
      clear hrg hoR hB2 hcC hcP hRI hlen hlt2
      generalize hZ : xs ++ idsB rs k = Z at *
      have KZ := Kept.mk hZ
      clear hZ
      generalize (rowI rs k).l = CL at *
      generalize (rowI rs k).ids = I at *
      go_wp2_with (first | (refine wpList_load_mid rfl 39 _ rfl b (off + k * 34) rfl CL _ hR.out Tryd.underlying39 rfl KI.out ?_) | (refine BigFrame.wpList_want rfl (fun K hK => wp_store_row 39 _ _ rfl wr.heap.size CL.toArray rfl rfl 39 _ (heap_alloc_new wr _) KI2.out (by rw [KL2.out]; rfl) KO.out (hK _ _ ?_)); rw [World.setRow_alloc_new]) | (at_builtin; refine wpList_append_rd _ rfl _ _ 22 rfl .u8 anyB 1 base 5 i0 z0 Tryd.underlying22 hi hz hs hb0 hc (by omega) (.slice oa Z.length oc) Z rfl KOb.out _ I rfl KRI.out KLn.out hbw2 ?_; intro v2 w3 hown hgrow hat2; have KO2 := Kept.mk hown; have KG2 := Kept.mk hgrow; have KA2 := Kept.mk hat2; clear hown hgrow hat2))
      go_roundw
      case rel => exact ⟨k + 1, by omega, by go_num, by rw [KSt.out, ← List.append_assoc, KZ.out]; exact KO2.out, KGb.out.grow KG2.out KA2.out⟩
      case measure => simp [intOf]; omega
    · have hki : ¬ (k : Int) < (rs.length : Int) := by omega
      obtain rfl : k = rs.length := by omega
      generalize hX : xs ++ idsB rs rs.length = X at *
      have hXl : X.length ≤ 1200000 := by rw [← hX, List.length_append, hlen]; omega
      have KX := Kept.mk hX
      clear hX hlen
      go_wp2_with fail
      go_loopw [0, 26] (fun ov iv wr => ∃ k : Nat, k ≤ rs.length ∧ iv = .int .i64 k ∧ Own .u8 5 wr base ov (X ++ crcB rs k) ∧ Gb (Value.slice pa xs.length pc).ownBlock w wr ov) (fun _ iv _ => rs.length - (intOf iv).toNat)
      case atStart => exact ⟨0, Nat.zero_le _, rfl, by simpa [crcB, accL] using KOw.out, KG.out⟩
      case round =>
        clear KOw KG hbwr
        obtain ⟨k, hk, rfl, how, hg⟩ := hrel
        have hbwr := Nat.le_trans hbw hg.size
        have KG := Kept.mk hg
        have KOw := Kept.mk how
        obtain ⟨oa, oc, rfl, -, -, -⟩ := how.rd.form
        clear hg how
        have hlen := crcB_len rs k
        by_cases hlt : k < rs.length
        · obtain ⟨b, off, rfl, hbl, hrg⟩ := KR.out (by omega)
          have hoR := rowI_ok KK.out hlt
          have hR : Kept (wr.rangeAt b (off + k * 34) (rowI rs k).l) := ⟨hrg wr _ KG.out k hlt⟩
          obtain ⟨w2, hw2, hB2, hlt2, -, -, hcC, hcP, hRI⟩ := box_row wr 39 hoR
          have KL2 : Kept ((rowI rs k).l.toArray.size = 34) := ⟨by rw [List.size_toArray]; exact RowC.len hoR⟩
          have KI2 : Kept ((Tryd.prog.info? 39).map (·.size) = some (rowI rs k).l.toArray.size) := ⟨by rw [KL2.out]; exact info_row1⟩
          have KI : Kept ((Tryd.prog.info? 39).map (·.size) = some (rowI rs k).l.length) := ⟨by rw [RowC.len hoR]; exact info_row1⟩
          have KO : Kept ((rowI rs k).l.toArray.all (·.oneCell') = true) := ⟨all_oneCell_toArray (RowC.ones _)⟩
          have hki : (k : Int) < (rs.length : Int) := by omega
          have e2 : IntKind.i64.wrap ((k : Int) + 1) = (k : Int) + 1 := wr64 (by omega) (by omega)
          have KSt : Kept (crcB rs (k + 1) = crcB rs k ++ Nu.bigF 4 (rowI rs k).crc) := ⟨accL_succ _ _⟩
          have hOb := KOw.out.later hB2 (Nat.le_refl _)
          have KGb := Kept.mk (KG.out.on hB2)
          have hbw2 : base ≤ w2.heap.size := by omega
          have hcr := hoR.2.2
          have KC := Kept.mk (appendNumber_any _ _ (rowI rs k).crc 4 w2 base hOb hbw2 (by omega) (by omega) (by omega) (by omega) (by omega) (by rw [List.length_append, hlen]; omega))
          have e7 : IntKind.u64.wrap (rowI rs k).crc = (rowI rs k).crc := wru64 (by omega) (by omega)
          clear hrg hoR hB2 hcP hRI hlen hcr hOb hlt2
          generalize hZ : X ++ crcB rs k = Z at *
          have KZ := Kept.mk hZ
          clear hZ
          generalize (rowI rs k).l = CL at *
          generalize (rowI rs k).crc = y at *
          go_wp2_with (first | (refine wpList_load_mid rfl 39 _ rfl b (off + k * 34) rfl CL _ hR.out Tryd.underlying39 rfl KI.out ?_) | (refine BigFrame.wpList_want rfl (fun K hK => wp_store_row 39 _ _ rfl wr.heap.size CL.toArray rfl rfl 39 _ (heap_alloc_new wr _) KI2.out (by rw [KL2.out]; rfl) KO.out (hK _ _ ?_)); rw [World.setRow_alloc_new]))
          refine Calls.mono KC.out (fun e w3 hp => ?_)
          obtain ⟨v2, rfl, hO2, hG2⟩ := hp
          have KO2 := Kept.mk hO2
          have KG2 := Kept.mk (KGb.out.trans hG2)
          clear hO2 hG2
          go_wp2
          go_roundw
          case rel => exact ⟨k + 1, by omega, by go_num, by rw [KSt.out, ← List.append_assoc, KZ.out]; exact KO2.out, KG2.out⟩
          case measure => simp [intOf]; omega
        · have hki : ¬ (k : Int) < (rs.length : Int) := by omega
          obtain rfl : k = rs.length := by omega
          generalize hY : X ++ crcB rs rs.length = Y at *
          have hYl : Y.length ≤ 1300000 := by rw [← hY, List.length_append, hlen]; omega
          have KY := Kept.mk hY
          clear hY hlen hXl
          go_wp2_with fail
          go_loopw [0, 9, 38] (fun ov lv iv wr => ∃ k : Nat, k ≤ rs.length ∧ iv = .int .i64 k ∧ Own .u8 5 wr base ov (Y ++ accL (shortI rs (lngs rs)) k) ∧ Own .u8 5 wr base lv (accL (longI rs (lngs rs)) k) ∧ Gb (Value.slice pa xs.length pc).ownBlock w wr ov ∧ (∀ g, lv.ownBlock = some g → w.heap.size ≤ g) ∧ (∀ g, ov.ownBlock = some g → lv.ownBlock ≠ some g)) (fun _ _ iv _ => rs.length - (intOf iv).toNat)
          case atStart => exact ⟨0, Nat.zero_le _, rfl, by simpa [accL] using KOw.out, Own.nil _ _ _ _, KG.out, (fun g hg => by simp [Value.ownBlock] at hg), (fun g _ hg => by simp [Value.ownBlock] at hg)⟩
          case round =>
            clear KOw KG hbwr
            obtain ⟨k, hk, rfl, how, hlw, hg, hge, hne⟩ := hrel
            have hbwr := Nat.le_trans hbw hg.size
            have KG := Kept.mk hg
            have KOw := Kept.mk how
            have KLw := Kept.mk hlw
            have KGe := Kept.mk hge
            have KNe := Kept.mk hne
            obtain ⟨oa, oc, rfl, -, -, -⟩ := how.rd.form
            obtain ⟨la, lc, rfl, -, -, -⟩ := hlw.rd.form
            clear hg how hlw hge hne
            have hlen := shorts_len rs (lngs rs) k
            have hll := longs_len rs (lngs rs) k
            have hnl := nl_le (lngs rs) k
            by_cases hlt : k < rs.length
            · obtain ⟨b, off, rfl, hbl, hrg⟩ := KR.out (by omega)
              have hoR := rowI_ok KK.out hlt
              have hR : Kept (wr.rangeAt b (off + k * 34) (rowI rs k).l) := ⟨hrg wr _ KG.out k hlt⟩
              obtain ⟨w2, hw2, hB2, hlt2, -, -, hcC, hcP, hRI⟩ := box_row wr 39 hoR
              have KL2 : Kept ((rowI rs k).l.toArray.size = 34) := ⟨by rw [List.size_toArray]; exact RowC.len hoR⟩
              have KI2 : Kept ((Tryd.prog.info? 39).map (·.size) = some (rowI rs k).l.toArray.size) := ⟨by rw [KL2.out]; exact info_row1⟩
              have KI : Kept ((Tryd.prog.info? 39).map (·.size) = some (rowI rs k).l.length) := ⟨by rw [RowC.len hoR]; exact info_row1⟩
              have KO : Kept ((rowI rs k).l.toArray.all (·.oneCell') = true) := ⟨all_oneCell_toArray (RowC.ones _)⟩
              have hki : (k : Int) < (rs.length : Int) := by omega
              have e2 : IntKind.i64.wrap ((k : Int) + 1) = (k : Int) + 1 := wr64 (by omega) (by omega)
              have KSt : Kept (accL (shortI rs (lngs rs)) (k + 1) = accL (shortI rs (lngs rs)) k ++ shortI rs (lngs rs) k) := ⟨accL_succ _ _⟩
              have KSl : Kept (accL (longI rs (lngs rs)) (k + 1) = accL (longI rs (lngs rs)) k ++ longI rs (lngs rs) k) := ⟨accL_succ _ _⟩
              have KSh : Kept (shortI rs (lngs rs) k = Nu.bigF 4 (if lng (lngs rs) k = true then 2147483648 + (nl (lngs rs) k : Int) else (rowI rs k).pl)) := ⟨rfl⟩
              have KLo : Kept (longI rs (lngs rs) k = if lng (lngs rs) k = true then Nu.bigF 8 (rowI rs k).pl else []) := ⟨rfl⟩
              have KLg := Kept.mk (lngs_get hlt)
              have hOb := KOw.out.later hB2 (Nat.le_refl _)
              have hLb := KLw.out.later hB2 (Nat.le_refl _)
              have KOb := Kept.mk hOb
              have KLb := Kept.mk hLb
              have KGb := Kept.mk (KG.out.on hB2)
              have hbw2 : base ≤ w2.heap.size := by omega
              have hcr := hoR.2.2.2.2
              have KYl : Kept ((Y ++ accL (shortI rs (lngs rs)) k).length + 20 ≤ 140737488355328) := ⟨by rw [List.length_append, hlen]; omega⟩
              have KLl : Kept ((accL (longI rs (lngs rs)) k).length + 20 ≤ 140737488355328) := ⟨by rw [hll]; omega⟩
              have q1 : ((accL (longI rs (lngs rs)) k).length : Int) / 8 = (nl (lngs rs) k : Int) := by rw [hll]; omega
              have q2 : ((accL (longI rs (lngs rs)) k).length : Int).tdiv 8 = (nl (lngs rs) k : Int) := by rw [Int.tdiv_eq_ediv_of_nonneg (by omega)]; exact q1
              clear hrg hoR hB2 hcC hRI hlen hll hOb hLb hlt2
              generalize nl (lngs rs) k = q at *
              generalize shortI rs (lngs rs) k = SH at *
              generalize longI rs (lngs rs) k = LO at *
              generalize hZ : Y ++ accL (shortI rs (lngs rs)) k = Z at *
              have KZ := Kept.mk hZ
              clear hZ
              generalize accL (longI rs (lngs rs)) k = L at *
              generalize (rowI rs k).l = CL at *
              generalize (rowI rs k).pl = y at *
              generalize lng (lngs rs) k = lg at *
              have e3 : IntKind.u64.wrap (q : Int) = (q : Int) := wru64 (by omega) (by omega)
              have e4 : IntKind.u64.wrap (2147483648 + (q : Int)) = 2147483648 + (q : Int) := wru64 (by omega) (by omega)
              have e5 : IntKind.i64.wrap (q : Int) = (q : Int) := wr64 (by omega) (by omega)
              by_cases hy : 2147483648 ≤ y
              · have hd : decide (2147483648 ≤ y) = true := decide_eq_true hy
                rw [hd] at KLg
                have KE : Kept (lg = true) := KLg
                have KLL : Kept (LO = Nu.bigF 8 y) := ⟨by rw [KLo.out, if_pos KE.out]⟩
                have KSS : Kept (SH = Nu.bigF 4 (2147483648 + (q : Int))) := ⟨by rw [KSh.out, if_pos KE.out]⟩
                have KC := Kept.mk (appendNumber_any _ _ y 8 w2 base KLb.out hbw2 (by omega) (by omega) (by omega) (by omega) (by omega) KLl.out)
                clear hcr hy
                go_wp2_with (first | (refine wpList_load_mid rfl 39 _ rfl b (off + k * 34) rfl CL _ hR.out Tryd.underlying39 rfl KI.out ?_) | (refine BigFrame.wpList_want rfl (fun K hK => wp_store_row 39 _ _ rfl wr.heap.size CL.toArray rfl rfl 39 _ (heap_alloc_new wr _) KI2.out (by rw [KL2.out]; rfl) KO.out (hK _ _ ?_)); rw [World.setRow_alloc_new]))
                refine Calls.mono KC.out (fun e w3 hp => ?_)
                obtain ⟨v2, rfl, hO2, hG2⟩ := hp
                have KO2 := Kept.mk hO2
                have KGl := Kept.mk hG2
                have hO3 := own_side KOb.out hG2 KNe.out
                have hbw3 : base ≤ w3.heap.size := Nat.le_trans hbw2 hG2.size
                have KC2 := Kept.mk (appendNumber_any _ _ (2147483648 + (q : Int)) 4 w3 base hO3 hbw3 (by omega) (by omega) (by omega) (by omega) (by omega) KYl.out)
                have hOlt : ∀ g, (Value.slice oa Z.length oc).ownBlock = some g → v2.ownBlock ≠ some g := fun g hg e => by
                  rcases hG2.at_ with e2 | ⟨q, e2, hq⟩
                  · rw [e2] at e
                    exact KNe.out g hg e
                  · rw [e2] at e
                    injection e with e
                    have := (KOb.out.lt g hg).2
                    omega
                have hGe2 : ∀ g, v2.ownBlock = some g → w.heap.size ≤ g := fun g hg => by
                  rcases hG2.at_ with e2 | ⟨q, e2, hq⟩
                  · exact KGe.out g (by rw [← e2]; exact hg)
                  · rw [e2] at hg
                    injection hg with hg
                    have := KGb.out.size
                    omega
                have KOl := Kept.mk hOlt
                have KG2 := Kept.mk hGe2
                have KG3 := Kept.mk (KGb.out.side hG2 KGe.out)
                clear hO2 hG2 hO3 hOlt hGe2
                go_wp2_with fail
                refine Calls.mono KC2.out (fun e w4 hp => ?_)
                obtain ⟨v4, rfl, hO4, hG4⟩ := hp
                have KO4 := Kept.mk hO4
                have KL4 := Kept.mk (own_side KO2.out hG4 (fun g hg e => KOl.out g e hg))
                have KG4 := Kept.mk (KG3.out.trans hG4)
                have KN4 : Kept (∀ g, v4.ownBlock = some g → v2.ownBlock ≠ some g) := ⟨fun g hg e => by
                  rcases hG4.at_ with e2 | ⟨q, e2, hq⟩
                  · exact KOl.out g (by rw [← e2]; exact hg) e
                  · rw [e2] at hg
                    injection hg with hg
                    have := (KO2.out.lt g e).2
                    omega⟩
                clear hO4 hG4
                go_wp2
                go_roundw
                case rel => exact ⟨k + 1, by omega, by go_num, by rw [KSt.out, ← List.append_assoc, KZ.out, KSS.out]; exact KO4.out, by rw [KSl.out, KLL.out]; exact KL4.out, KG4.out, KG2.out, KN4.out⟩
                case measure => simp [intOf]; omega
              · have hd : decide (2147483648 ≤ y) = false := decide_eq_false hy
                rw [hd] at KLg
                have KLL : Kept (LO = []) := ⟨by rw [KLo.out, if_neg (by rw [KLg.out]; decide)]⟩
                have KSS : Kept (SH = Nu.bigF 4 y) := ⟨by rw [KSh.out, if_neg (by rw [KLg.out]; decide)]⟩
                have KC := Kept.mk (appendNumber_any _ _ y 4 w2 base KOb.out hbw2 (by omega) (by omega) (by omega) (by omega) (by omega) KYl.out)
                clear hcr hy
                go_wp2_with (first | (refine wpList_load_mid rfl 39 _ rfl b (off + k * 34) rfl CL _ hR.out Tryd.underlying39 rfl KI.out ?_) | (refine BigFrame.wpList_want rfl (fun K hK => wp_store_row 39 _ _ rfl wr.heap.size CL.toArray rfl rfl 39 _ (heap_alloc_new wr _) KI2.out (by rw [KL2.out]; rfl) KO.out (hK _ _ ?_)); rw [World.setRow_alloc_new]))
                refine Calls.mono KC.out (fun e w4 hp => ?_)
                obtain ⟨v4, rfl, hO4, hG4⟩ := hp
                have KO4 := Kept.mk hO4
                have KL4 := Kept.mk (own_side KLb.out hG4 (fun g hg e => KNe.out g e hg))
                have KG4 := Kept.mk (KGb.out.trans hG4)
                have KN4 : Kept (∀ g, v4.ownBlock = some g → (Value.slice la L.length lc).ownBlock ≠ some g) := ⟨fun g hg e => by
                  rcases hG4.at_ with e2 | ⟨q, e2, hq⟩
                  · exact KNe.out g (by rw [← e2]; exact hg) e
                  · rw [e2] at hg
                    injection hg with hg
                    have := (KLb.out.lt g e).2
                    omega⟩
                clear hO4 hG4
                go_wp2
                go_roundw
                case rel => exact ⟨k + 1, by omega, by go_num, by rw [KSt.out, ← List.append_assoc, KZ.out, KSS.out]; exact KO4.out, by rw [KSl.out, KLL.out, List.append_nil]; exact KL4.out, KG4.out, KGe.out, KN4.out⟩
                case measure => simp [intOf]; omega
            · have hki : ¬ (k : Int) < (rs.length : Int) := by omega
              obtain rfl : k = rs.length := by omega
              have KLn : Kept (((Y ++ accL (shortI rs (lngs rs)) rs.length).length + (accL (longI rs (lngs rs)) rs.length).length) * 1 ≤ 140737488355328) := ⟨by rw [List.length_append, hlen, hll]; omega⟩
              have KRl := Kept.mk KLw.out.rd
              clear hlen hll hnl
              generalize hZ : Y ++ accL (shortI rs (lngs rs)) rs.length = Z at *
              generalize hL : accL (longI rs (lngs rs)) rs.length = L at *
              have KZ := Kept.mk (And.intro hZ hL)
              clear hZ hL
              go_wp2_with (at_builtin; refine wpList_append_rd _ rfl _ _ 22 rfl .u8 _ 1 base 5 i0 z0 Tryd.underlying22 hi hz hs hb0 hc (by omega) (.slice oa Z.length oc) Z rfl KOw.out _ L rfl KRl.out KLn.out hbwr ?_; intro v2 w3 hown hgrow hat2; have KO2 := Kept.mk hown; have KG2 := Kept.mk hgrow; have KA2 := Kept.mk hat2; clear hown hgrow hat2)
              go_ret
              exact ⟨_, rfl, KO2.out.eq (by rw [← KZ.out.1, ← KZ.out.2, ← KY.out, ← KX.out]; simp only [List.append_assoc]), KG.out.grow KG2.out KA2.out⟩
end Go.Proofs.YtgoegmaepafopaaDoor
