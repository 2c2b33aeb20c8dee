/-
  Walks: the law ShaChains.
-/
import Derived.Test.YtpleamahaogfiaaDoorM3
import Derived.Test.YtpleamahaogfiaaDoorA
namespace Go.Proofs.YtpleamahaogfiaaDoor
open Go.RowKit

set_option maxHeartbeats 400000 in
theorem rfirst_any (w : World) : Calls Tryd.prog 24 #[] w fun e w' => e = .returned St.first.agg ∧ Below w.heap.size w w' := by
  go_enter Tryd.func24, Tryd.ntmps24
  go_wp2
  refine bodyPost_ret (v := St.first.agg) (results_cell_row (p := 0) (ty := 23) Tryd.results24 _ _ w.heap.size 23 _ (0, 0) _ rfl (heap_alloc_new w _) Tryd.underlying23 rfl rfl) rfl ⟨rfl, (Below.refl _ _).alloc (Nat.le_refl _) _⟩

set_option maxHeartbeats 4000000 in
set_option maxRecDepth 100000 in
theorem shaChains_walk (v : Value) (xs : List Int) (w : World) (hp : Rd w v xs) (hl : xs.length + 4096 ≤ 140737488355328) (hB : Tab w ksK) :
    Calls Tryd.prog 7 #[v] w fun e w' => e = .returned (.bool true) ∧ Below w.heap.size w w' := by
  have HB := Kept.mk hB
  have hn : 0 < w.heap.size := hB.1
  have hAx := hp.allB
  obtain ⟨a, c, rfl, -, hlc, hcm, -⟩ := hp.form
  have HP : Kept (Rd w (.slice a xs.length c) xs) := ⟨hp⟩
  clear hB hp
  unfold maxLen at hcm
  obtain ⟨i0, z0, hi, hz, hs, hb, hc, -⟩ := info5
  have hAd : AllB (padF xs.length) := padF_allB xs.length
  have hzl := zcF_lt xs.length
  have HPL : Kept ((padF xs.length).length = 1 + zcF xs.length + 8) := ⟨by rw [padF, padP_length]⟩
  go_enter Tryd.func7, Tryd.ntmps7
  go_wp2_with fail
  refine Calls.mono (awake_any w HB.out) (fun e w1 hp => ?_)
  obtain ⟨rfl, BB1⟩ := hp
  go_wp2_with fail
  refine Calls.mono (twin_any _ xs w1 (HP.out.later BB1 (Nat.le_refl _)) (by omega)) (fun e w2 hp => ?_)
  obtain ⟨v2, rfl, ho2, hb2⟩ := hp
  have s1 := BB1.size
  have BB2 : Below w.heap.size w w2 := BB1.trans (hb2.mono s1)
  have s2 := hb2.size
  clear hb2
  go_wp2_with fail
  refine Calls.mono (pad_any (xs.length : Int) xs.length w2 (by rw [if_neg (by omega), Int.toNat_natCast]) (by omega) (by omega)) (fun e w3 hp => ?_)
  obtain ⟨v3, rfl, ho3, hb3⟩ := hp
  have s3 := hb3.size
  have HO2 := Kept.mk (ho2.later hb3 (Nat.le_refl _))
  have HR3 := Kept.mk (Rd.own ho3 hAd)
  have BB3 : Below w.heap.size w w3 := BB2.trans (hb3.mono (by omega))
  clear hb3 ho2 ho3 BB2 BB1
  go_upto_region 5 with (at_builtin; refine wpList_append_rd _ rfl _ _ 28 rfl w1.heap.size 5 i0 z0 Tryd.underlying28 hi hz hs hb hc v2 xs rfl HO2.out v3 (padF xs.length) rfl HR3.out (by rw [HPL.out]; omega) (by omega) ?_; intro v4 w4 hown hgrow hat)
  have BB4 : Below w.heap.size w w4 := BB3.grown hgrow (by omega) (fun k hk => Nat.le_trans s1 (own_ge HO2.out k hk))
  have hr4 := Rd.own hown (hAx.append hAd)
  clear hown hgrow hat HO2 HR3 BB3 hi hz hs hb hc
  obtain ⟨a4, c4, hv4, -, hlc4, hcm4, -⟩ := hr4.form
  subst hv4
  have HR4 := Kept.mk hr4
  clear hr4
  have hlen : (xs ++ padF xs.length).length = xs.length + (1 + zcF xs.length + 8) := by rw [List.length_append, HPL.out]
  have hmod := pad_whole xs.length
  have HSW := Kept.mk (sumS_whole ksK xs)
  have hAz : AllB (xs ++ padF xs.length) := hAx.append hAd
  generalize hzs : xs ++ padF xs.length = zs at *
  clear hzs
  rw [← hlen] at hmod
  generalize hN : zs.length = n at *
  obtain ⟨q, rfl⟩ : ∃ q, n = 64 * q := ⟨n / 64, by omega⟩
  unfold maxLen at hcm4
  have hqb : 64 * q ≤ 140737488355328 := by omega
  clear hmod hlen
  have hq0 : ((64 * q : Nat) : Int) % 64 = 0 := by omega
  go_wp2_with fail
  refine Calls.mono (rfirst_any w4) (fun e w5 hp => ?_)
  obtain ⟨rfl, hb5⟩ := hp
  have s4 := BB4.size
  have s5 := hb5.size
  have BB5 : Below w.heap.size w w5 := BB4.trans (hb5.mono s4)
  have HR5 := Kept.mk (HR4.out.later hb5 (Nat.le_refl _))
  clear hb5 HR4 BB4
  simp only [St.agg_list]
  have HI := Kept.mk (info23 St.first.list rfl)
  have HO := Kept.mk (all_oneCell_toArray (cellsU32_one St.first.list))
  have HT : Kept ((w5.alloc (.cells #[.int .u32 0, .int .u32 0, .int .u32 0, .int .u32 0, .int .u32 0, .int .u32 0, .int .u32 0, .int .u32 0] 23)).there w5.heap.size 0 8) := ⟨(alloc_blk w5 zeros8 23).there 8 rfl⟩
  generalize hva : Value.agg (cellsU32 St.first.list).toArray = va
  have HVA := Kept.mk hva
  clear hva
  go_upto_region 8 with (refine wpList_store_mid rfl 23 _ _ rfl w5.heap.size 0 (cellsU32 St.first.list).toArray rfl HVA.out.symm HT.out HI.out.2 HO.out ?_)
  have BH : Blk ((w5.alloc (.cells #[.int .u32 0, .int .u32 0, .int .u32 0, .int .u32 0, .int .u32 0, .int .u32 0, .int .u32 0, .int .u32 0] 23)).setCells w5.heap.size 0 (cellsU32 St.first.list)) w5.heap.size 23 St.first.list := (alloc_blk w5 zeros8 23).over rfl
  have hb6 : Below w5.heap.size w5 ((w5.alloc (.cells #[.int .u32 0, .int .u32 0, .int .u32 0, .int .u32 0, .int .u32 0, .int .u32 0, .int .u32 0, .int .u32 0] 23)).setCells w5.heap.size 0 (cellsU32 St.first.list)) := below_cells (Nat.le_refl _) _ 0 w5 _ ((Below.refl _ _).alloc (Nat.le_refl _) _)
  have hz6 : w5.heap.size < ((w5.alloc (.cells #[.int .u32 0, .int .u32 0, .int .u32 0, .int .u32 0, .int .u32 0, .int .u32 0, .int .u32 0, .int .u32 0] 23)).setCells w5.heap.size 0 (cellsU32 St.first.list)).heap.size := by rw [size_setCells]; simp
  clear HI HO HT HVA
  simp only [Act.put]
  generalize (w5.alloc (.cells #[.int .u32 0, .int .u32 0, .int .u32 0, .int .u32 0, .int .u32 0, .int .u32 0, .int .u32 0, .int .u32 0] 23)).setCells w5.heap.size 0 (cellsU32 St.first.list) = w6 at *
  have HAZ := Kept.mk hAz
  clear hAz
  go_wp2
  go_loopw [5] (fun i wr => ∃ (k : Nat), k ≤ q ∧ i = .int .i64 (64 * (k : Int)) ∧ Blk wr w5.heap.size 23 (thruF ksK zs St.first k).list ∧ Below w5.heap.size w5 wr ∧ w5.heap.size < wr.heap.size) (fun i _ => 64 * q + 64 - (intOf i).toNat)
  case atStart => exact ⟨0, by omega, rfl, BH, hb6, hz6⟩
  case round =>
    clear BH hb6 hz6
    obtain ⟨k, hk, rfl, b0, hbel, hsz⟩ := hrel
    by_cases hlt : k < q
    · obtain ⟨b, off, c', hv, hlc', hcm', hblt, hcell⟩ := HR5.out.open2 (by omega)
      injection hv with e4 e5 e6
      subst e6
      have hA : AllB ((zs.drop (64 * k)).take 64) := (HAZ.out.drop _).take _
      have hl64 : ((zs.drop (64 * k)).take 64).length = 64 := by simp; omega
      have BD : Blk8 (wr.alloc (.cells #[.int .u8 0, .int .u8 0, .int .u8 0, .int .u8 0, .int .u8 0, .int .u8 0, .int .u8 0, .int .u8 0, .int .u8 0, .int .u8 0, .int .u8 0, .int .u8 0, .int .u8 0, .int .u8 0, .int .u8 0, .int .u8 0, .int .u8 0, .int .u8 0, .int .u8 0, .int .u8 0, .int .u8 0, .int .u8 0, .int .u8 0, .int .u8 0, .int .u8 0, .int .u8 0, .int .u8 0, .int .u8 0, .int .u8 0, .int .u8 0, .int .u8 0, .int .u8 0, .int .u8 0, .int .u8 0, .int .u8 0, .int .u8 0, .int .u8 0, .int .u8 0, .int .u8 0, .int .u8 0, .int .u8 0, .int .u8 0, .int .u8 0, .int .u8 0, .int .u8 0, .int .u8 0, .int .u8 0, .int .u8 0, .int .u8 0, .int .u8 0, .int .u8 0, .int .u8 0, .int .u8 0, .int .u8 0, .int .u8 0, .int .u8 0, .int .u8 0, .int .u8 0, .int .u8 0, .int .u8 0, .int .u8 0, .int .u8 0, .int .u8 0, .int .u8 0] 24)) wr.heap.size 24 (List.replicate 64 0) := alloc_blk8 wr (List.replicate 64 0) 24
      have B0 : Blk (wr.alloc (.cells #[.int .u8 0, .int .u8 0, .int .u8 0, .int .u8 0, .int .u8 0, .int .u8 0, .int .u8 0, .int .u8 0, .int .u8 0, .int .u8 0, .int .u8 0, .int .u8 0, .int .u8 0, .int .u8 0, .int .u8 0, .int .u8 0, .int .u8 0, .int .u8 0, .int .u8 0, .int .u8 0, .int .u8 0, .int .u8 0, .int .u8 0, .int .u8 0, .int .u8 0, .int .u8 0, .int .u8 0, .int .u8 0, .int .u8 0, .int .u8 0, .int .u8 0, .int .u8 0, .int .u8 0, .int .u8 0, .int .u8 0, .int .u8 0, .int .u8 0, .int .u8 0, .int .u8 0, .int .u8 0, .int .u8 0, .int .u8 0, .int .u8 0, .int .u8 0, .int .u8 0, .int .u8 0, .int .u8 0, .int .u8 0, .int .u8 0, .int .u8 0, .int .u8 0, .int .u8 0, .int .u8 0, .int .u8 0, .int .u8 0, .int .u8 0, .int .u8 0, .int .u8 0, .int .u8 0, .int .u8 0, .int .u8 0, .int .u8 0, .int .u8 0, .int .u8 0] 24)) w5.heap.size 23 (thruF ksK zs St.first k).list := b0.alloc _
      have hbel' : Below w5.heap.size w5 (wr.alloc (.cells #[.int .u8 0, .int .u8 0, .int .u8 0, .int .u8 0, .int .u8 0, .int .u8 0, .int .u8 0, .int .u8 0, .int .u8 0, .int .u8 0, .int .u8 0, .int .u8 0, .int .u8 0, .int .u8 0, .int .u8 0, .int .u8 0, .int .u8 0, .int .u8 0, .int .u8 0, .int .u8 0, .int .u8 0, .int .u8 0, .int .u8 0, .int .u8 0, .int .u8 0, .int .u8 0, .int .u8 0, .int .u8 0, .int .u8 0, .int .u8 0, .int .u8 0, .int .u8 0, .int .u8 0, .int .u8 0, .int .u8 0, .int .u8 0, .int .u8 0, .int .u8 0, .int .u8 0, .int .u8 0, .int .u8 0, .int .u8 0, .int .u8 0, .int .u8 0, .int .u8 0, .int .u8 0, .int .u8 0, .int .u8 0, .int .u8 0, .int .u8 0, .int .u8 0, .int .u8 0, .int .u8 0, .int .u8 0, .int .u8 0, .int .u8 0, .int .u8 0, .int .u8 0, .int .u8 0, .int .u8 0, .int .u8 0, .int .u8 0, .int .u8 0, .int .u8 0] 24)) := hbel.alloc (by omega) _
      have hsz' : (wr.alloc (.cells #[.int .u8 0, .int .u8 0, .int .u8 0, .int .u8 0, .int .u8 0, .int .u8 0, .int .u8 0, .int .u8 0, .int .u8 0, .int .u8 0, .int .u8 0, .int .u8 0, .int .u8 0, .int .u8 0, .int .u8 0, .int .u8 0, .int .u8 0, .int .u8 0, .int .u8 0, .int .u8 0, .int .u8 0, .int .u8 0, .int .u8 0, .int .u8 0, .int .u8 0, .int .u8 0, .int .u8 0, .int .u8 0, .int .u8 0, .int .u8 0, .int .u8 0, .int .u8 0, .int .u8 0, .int .u8 0, .int .u8 0, .int .u8 0, .int .u8 0, .int .u8 0, .int .u8 0, .int .u8 0, .int .u8 0, .int .u8 0, .int .u8 0, .int .u8 0, .int .u8 0, .int .u8 0, .int .u8 0, .int .u8 0, .int .u8 0, .int .u8 0, .int .u8 0, .int .u8 0, .int .u8 0, .int .u8 0, .int .u8 0, .int .u8 0, .int .u8 0, .int .u8 0, .int .u8 0, .int .u8 0, .int .u8 0, .int .u8 0, .int .u8 0, .int .u8 0] 24)).heap.size = wr.heap.size + 1 := by simp
      have hsrc : ∀ (m j : Nat) (u : Value), (cellsU8 ((zs.drop (64 * k)).take 64))[j]? = some u → ((wr.alloc (.cells #[.int .u8 0, .int .u8 0, .int .u8 0, .int .u8 0, .int .u8 0, .int .u8 0, .int .u8 0, .int .u8 0, .int .u8 0, .int .u8 0, .int .u8 0, .int .u8 0, .int .u8 0, .int .u8 0, .int .u8 0, .int .u8 0, .int .u8 0, .int .u8 0, .int .u8 0, .int .u8 0, .int .u8 0, .int .u8 0, .int .u8 0, .int .u8 0, .int .u8 0, .int .u8 0, .int .u8 0, .int .u8 0, .int .u8 0, .int .u8 0, .int .u8 0, .int .u8 0, .int .u8 0, .int .u8 0, .int .u8 0, .int .u8 0, .int .u8 0, .int .u8 0, .int .u8 0, .int .u8 0, .int .u8 0, .int .u8 0, .int .u8 0, .int .u8 0, .int .u8 0, .int .u8 0, .int .u8 0, .int .u8 0, .int .u8 0, .int .u8 0, .int .u8 0, .int .u8 0, .int .u8 0, .int .u8 0, .int .u8 0, .int .u8 0, .int .u8 0, .int .u8 0, .int .u8 0, .int .u8 0, .int .u8 0, .int .u8 0, .int .u8 0, .int .u8 0] 24)).drewN m).cell? ((⟨b, off + 64 * k, none⟩ : Addr).add j) = some u := fun m j u hj => by
        obtain ⟨hj', rfl⟩ := cellsU8_get hj
        rw [add_plain]
        have e := hbel'.cell (p := ⟨b, off + (64 * k + j), none⟩) hblt
        rw [hcell (64 * k + j) (by omega)] at e
        rw [Nat.add_assoc, getD_part _ _ _ (by omega)]
        exact e
      have HSRC := Kept.mk hsrc
      have HBD := Kept.mk BD
      have HB0 := Kept.mk B0
      clear hsrc hcell BD B0 b0
      rw [e4]
      clear e4 e5
      go_upto_region 12 with fail
      generalize wr.alloc (.cells #[.int .u8 0, .int .u8 0, .int .u8 0, .int .u8 0, .int .u8 0, .int .u8 0, .int .u8 0, .int .u8 0, .int .u8 0, .int .u8 0, .int .u8 0, .int .u8 0, .int .u8 0, .int .u8 0, .int .u8 0, .int .u8 0, .int .u8 0, .int .u8 0, .int .u8 0, .int .u8 0, .int .u8 0, .int .u8 0, .int .u8 0, .int .u8 0, .int .u8 0, .int .u8 0, .int .u8 0, .int .u8 0, .int .u8 0, .int .u8 0, .int .u8 0, .int .u8 0, .int .u8 0, .int .u8 0, .int .u8 0, .int .u8 0, .int .u8 0, .int .u8 0, .int .u8 0, .int .u8 0, .int .u8 0, .int .u8 0, .int .u8 0, .int .u8 0, .int .u8 0, .int .u8 0, .int .u8 0, .int .u8 0, .int .u8 0, .int .u8 0, .int .u8 0, .int .u8 0, .int .u8 0, .int .u8 0, .int .u8 0, .int .u8 0, .int .u8 0, .int .u8 0, .int .u8 0, .int .u8 0, .int .u8 0, .int .u8 0, .int .u8 0, .int .u8 0] 24) = wt at *
      have e1 : (0 : Int) ≤ 64 * (k : Int) := by omega
      have e2 : 64 * (k : Int) + 64 ≤ 64 * (q : Int) := by omega
      have e3 : 64 * (q : Int) ≤ (c4 : Int) := by omega
      refine wp_region_last _ 6 (by kernel_rfl) (by kernel_rfl) rfl rfl ?_
      simp only [List.take_succ_cons, List.take_zero]
      repeat (go_big_quiet_step (fail))
      refine wpQuiet_nil ?_
      intro m
      refine wp_copy _ _ _ _ _ rfl _ _ rfl rfl (run_copy_row Tryd.prog (wt.drewN m) 28 28 3 5 wr.heap.size 0 64 64 ⟨b, off + 64 * k, none⟩ (64 * k + 64 - 64 * k) (c4 - 64 * k) (cellsU8 (List.replicate 64 0)).toArray 24 (cellsU8 ((zs.drop (64 * k)).take 64)) Tryd.underlying28 rfl HBD.out (by rw [cellsU8_length, hl64]; simp only [Nat.min_def]; split <;> omega) (HSRC.out m) (by simp only [List.size_toArray, cellsU8_length, hl64, List.length_replicate]; try omega) (cellsU8_one _)) ?_
      have hrow : (List.take 0 (cellsU8 (List.replicate 64 0)).toArray.toList ++ cellsU8 ((zs.drop (64 * k)).take 64) ++ List.drop (0 + (cellsU8 ((zs.drop (64 * k)).take 64)).length) (cellsU8 (List.replicate 64 0)).toArray.toList).toArray = (cellsU8 ((zs.drop (64 * k)).take 64)).toArray := by
        rw [cellsU8_length, hl64]
        simp [cellsU8]
      rw [hrow]
      have hne : w5.heap.size ≠ wr.heap.size := by omega
      have B0 : Blk ((wt.drewN m).setRow wr.heap.size (cellsU8 ((zs.drop (64 * k)).take 64)).toArray) w5.heap.size 23 (thruF ksK zs St.first k).list := (setRow_other _ _ _ _ hne).trans HB0.out
      have B2 : Blk8 ((wt.drewN m).setRow wr.heap.size (cellsU8 ((zs.drop (64 * k)).take 64)).toArray) wr.heap.size 24 ((zs.drop (64 * k)).take 64) := setRow_heap _ _ _ _ _ _ HBD.out
      have hbel2 : Below w5.heap.size w5 ((wt.drewN m).setRow wr.heap.size (cellsU8 ((zs.drop (64 * k)).take 64)).toArray) := below_setRow (below_drewN hbel' m) (by omega) _
      have hsz2 : ((wt.drewN m).setRow wr.heap.size (cellsU8 ((zs.drop (64 * k)).take 64)).toArray).heap.size = wr.heap.size + 1 := by simpa using hsz'
      generalize (wt.drewN m).setRow wr.heap.size (cellsU8 ((zs.drop (64 * k)).take 64)).toArray = W at *
      have BK : Tab W ksK := HB.out.far (BB5.trans (hbel2.mono (by omega))) hn
      have HC : Kept (Calls Tryd.prog 10 #[.agg (cellsU32 (thruF ksK zs St.first k).list).toArray, .agg (cellsU8 ((zs.drop (64 * k)).take 64)).toArray] W fun e w' => e = .returned (.agg (cellsU32 (thruF ksK zs St.first (k + 1)).list).toArray) ∧ Below W.heap.size W w') := ⟨block_any _ _ _ _ ksK W hl64 hA ksK_length BK (thruF_ok St.first_ok k) ⟨rfl⟩ ⟨rfl⟩⟩
      have hl1 : (thruF ksK zs St.first k).list.length = 8 := rfl
      have hl2 : (thruF ksK zs St.first (k + 1)).list.length = 8 := rfl
      clear HSRC hrow HBD HB0 hbel' hsz' BK
      generalize (thruF ksK zs St.first k).list = tl at *
      generalize hnl : (thruF ksK zs St.first (k + 1)).list = nl at *
      have HNL : Kept ((thruF ksK zs St.first (k + 1)).list = nl) := ⟨hnl⟩
      clear hnl
      generalize (zs.drop (64 * k)).take 64 = bs' at *
      have HR0 : Kept (W.rangeAt w5.heap.size 0 (cellsU32 tl)) := ⟨B0.range⟩
      have HR2 : Kept (W.rangeAt wr.heap.size 0 (cellsU8 bs')) := ⟨B2.range⟩
      have HI0 := Kept.mk (info23 tl hl1)
      have HI1 := Kept.mk (info23 nl hl2)
      have HI2 := Kept.mk (info24 bs' hl64)
      have HO := Kept.mk (all_oneCell_toArray (cellsU32_one nl))
      have HB0 := Kept.mk B0
      clear B0 B2 hA e1 e2 e3
      go_wp2_with (first | (refine wpList_load_mid rfl 23 _ rfl w5.heap.size 0 rfl (cellsU32 tl) _ HR0.out Tryd.underlying23 rfl HI0.out.1 ?_) | (refine wpList_load_mid rfl 24 _ rfl wr.heap.size 0 rfl (cellsU8 bs') _ HR2.out Tryd.underlying24 rfl HI2.out ?_))
      refine Calls.mono HC.out (fun e wa hp => ?_)
      obtain ⟨rfl, hba⟩ := hp
      have HT2 : Kept (wa.there w5.heap.size 0 (cellsU32 nl).toArray.size) := ⟨(HB0.out.far hba (by omega)).there _ (by simp only [List.size_toArray, cellsU32_length, hl1, hl2])⟩
      go_wp2_with (refine wpList_store_mid rfl 23 _ _ rfl w5.heap.size 0 (cellsU32 nl).toArray rfl rfl HT2.out HI1.out.2 HO.out ?_)
      go_roundw
      case rel =>
        refine ⟨k + 1, by omega, by go_num, ?_, ?_, ?_⟩
        · rw [HNL.out]
          exact (HB0.out.far hba (by omega)).over (by rw [hl1, hl2])
        · exact below_cells (Nat.le_refl _) _ 0 w5 wa (hbel2.trans (hba.mono (by omega)))
        · rw [size_setCells]
          have := hba.size
          omega
      case measure => simp [intOf]; omega
    · obtain rfl : k = q := by omega
      have hsw := HSW.out
      rw [show 64 * k / 64 = k from by omega] at hsw
      rw [hsw] at b0
      have BBr : Below w.heap.size w wr := BB5.trans (hbel.mono (by omega))
      have sr := BBr.size
      have HBH := Kept.mk b0
      clear hsw HSW b0 hbel HR5 HAZ hq0 hN hlc4 hcm4 hk BB5
      generalize w5.heap.size = g at *
      go_wp2_with fail
      refine Calls.mono (twin_any _ xs wr (HP.out.later BBr (Nat.le_refl _)) (by omega)) (fun e w7 hp => ?_)
      obtain ⟨v7, rfl, ho7, hb7⟩ := hp
      have s7 := hb7.size
      have BB7 : Below w.heap.size w w7 := BBr.trans (hb7.mono sr)
      have HBH7 := Kept.mk (HBH.out.far hb7 hsz)
      have HR7 := Kept.mk (Rd.own ho7 hAx)
      clear HBH ho7 hb7 BBr
      go_wp2_with fail
      refine Calls.mono (sum_any _ xs ksK w7 HR7.out ksK_length (HB.out.far BB7 hn)) (fun e w8 hp => ?_)
      obtain ⟨rfl, hb8⟩ := hp
      have s8 := hb8.size
      have BB8 : Below w.heap.size w w8 := BB7.trans (hb8.mono (by omega))
      have HBH8 := Kept.mk (HBH7.out.far hb8 (by omega))
      clear HBH7 hb8 BB7 HR7
      have hl8 : (sumS ksK xs).list.length = 8 := rfl
      generalize (sumS ksK xs).list = l at *
      have hl32 := digF_length l
      have HDG : Kept (∀ i, i < 32 → (digF l).getD i 0 = l.getD (i / 4) 0 / 2 ^ (24 - 8 * (i % 4)) % 256) := ⟨fun i hi => by simp [digF, List.getD, hi, digB]⟩
      generalize digF l = dl at *
      have HI1 : Kept ((Tryd.prog.info? 32).map (·.size) = some (cellsU8 dl).toArray.size) := ⟨by rw [List.size_toArray, cellsU8_length, hl32]; rfl⟩
      have HO1 := Kept.mk (all_oneCell_toArray (cellsU8_one dl))
      have HT1 : Kept ((w8.alloc (.cells #[.int .u8 0, .int .u8 0, .int .u8 0, .int .u8 0, .int .u8 0, .int .u8 0, .int .u8 0, .int .u8 0, .int .u8 0, .int .u8 0, .int .u8 0, .int .u8 0, .int .u8 0, .int .u8 0, .int .u8 0, .int .u8 0, .int .u8 0, .int .u8 0, .int .u8 0, .int .u8 0, .int .u8 0, .int .u8 0, .int .u8 0, .int .u8 0, .int .u8 0, .int .u8 0, .int .u8 0, .int .u8 0, .int .u8 0, .int .u8 0, .int .u8 0, .int .u8 0] 32)).there w8.heap.size 0 (cellsU8 dl).toArray.size) := ⟨(alloc_blk8 w8 (List.replicate 32 0) 32).there8 _ (by rw [List.size_toArray, cellsU8_length, hl32, List.length_replicate])⟩
      go_upto_region 15 with (refine wpList_store_mid rfl 32 _ _ rfl w8.heap.size 0 (cellsU8 dl).toArray rfl rfl HT1.out HI1.out HO1.out ?_)
      simp only [Act.put]
      have D1 : Blk8 ((w8.alloc (.cells #[.int .u8 0, .int .u8 0, .int .u8 0, .int .u8 0, .int .u8 0, .int .u8 0, .int .u8 0, .int .u8 0, .int .u8 0, .int .u8 0, .int .u8 0, .int .u8 0, .int .u8 0, .int .u8 0, .int .u8 0, .int .u8 0, .int .u8 0, .int .u8 0, .int .u8 0, .int .u8 0, .int .u8 0, .int .u8 0, .int .u8 0, .int .u8 0, .int .u8 0, .int .u8 0, .int .u8 0, .int .u8 0, .int .u8 0, .int .u8 0, .int .u8 0, .int .u8 0] 32)).setCells w8.heap.size 0 (cellsU8 dl)) w8.heap.size 32 dl := (alloc_blk8 w8 (List.replicate 32 0) 32).over8 (by rw [hl32, List.length_replicate])
      have D2 : Blk ((w8.alloc (.cells #[.int .u8 0, .int .u8 0, .int .u8 0, .int .u8 0, .int .u8 0, .int .u8 0, .int .u8 0, .int .u8 0, .int .u8 0, .int .u8 0, .int .u8 0, .int .u8 0, .int .u8 0, .int .u8 0, .int .u8 0, .int .u8 0, .int .u8 0, .int .u8 0, .int .u8 0, .int .u8 0, .int .u8 0, .int .u8 0, .int .u8 0, .int .u8 0, .int .u8 0, .int .u8 0, .int .u8 0, .int .u8 0, .int .u8 0, .int .u8 0, .int .u8 0, .int .u8 0] 32)).setCells w8.heap.size 0 (cellsU8 dl)) g 23 l := (HBH8.out.alloc _).cells_far (by omega) _
      have D3 : Below w.heap.size w ((w8.alloc (.cells #[.int .u8 0, .int .u8 0, .int .u8 0, .int .u8 0, .int .u8 0, .int .u8 0, .int .u8 0, .int .u8 0, .int .u8 0, .int .u8 0, .int .u8 0, .int .u8 0, .int .u8 0, .int .u8 0, .int .u8 0, .int .u8 0, .int .u8 0, .int .u8 0, .int .u8 0, .int .u8 0, .int .u8 0, .int .u8 0, .int .u8 0, .int .u8 0, .int .u8 0, .int .u8 0, .int .u8 0, .int .u8 0, .int .u8 0, .int .u8 0, .int .u8 0, .int .u8 0] 32)).setCells w8.heap.size 0 (cellsU8 dl)) := below_cells (by omega) _ 0 w _ (BB8.alloc (by omega) _)
      clear HI1 HO1 HT1 BB8 HBH8
      generalize (w8.alloc (.cells #[.int .u8 0, .int .u8 0, .int .u8 0, .int .u8 0, .int .u8 0, .int .u8 0, .int .u8 0, .int .u8 0, .int .u8 0, .int .u8 0, .int .u8 0, .int .u8 0, .int .u8 0, .int .u8 0, .int .u8 0, .int .u8 0, .int .u8 0, .int .u8 0, .int .u8 0, .int .u8 0, .int .u8 0, .int .u8 0, .int .u8 0, .int .u8 0, .int .u8 0, .int .u8 0, .int .u8 0, .int .u8 0, .int .u8 0, .int .u8 0, .int .u8 0, .int .u8 0] 32)).setCells w8.heap.size 0 (cellsU8 dl) = w9 at *
      generalize w8.heap.size = d at *
      go_wp2
      go_loopw [43] (fun i wr => ∃ (j m : Nat), j ≤ 32 ∧ i = .int .i64 j ∧ wr = w9.drewN m) (fun i _ => 32 - (intOf i).toNat)
      case atStart => exact ⟨0, 0, by omega, rfl, rfl⟩
      case round =>
        obtain ⟨j, m0, hj, rfl, rfl⟩ := hrel
        by_cases hlt2 : j < 32
        · have c1 := D1.cell j (by omega)
          have c2 := D2.cell (j / 4) (by omega)
          rw [HDG.out j hlt2] at c1
          generalize l.getD (j / 4) 0 = x at *
          go_upto_region 18 with fail
          go_quiet (fail)
          go_wp2
          go_roundw
          case rel => exact ⟨j + 1, _, by omega, by go_num, rfl⟩
          case measure => simp [intOf]; omega
        · obtain rfl : j = 32 := by omega
          go_wp2
          go_ret
          exact ⟨rfl, below_drewN D3 _⟩
end Go.Proofs.YtpleamahaogfiaaDoor
