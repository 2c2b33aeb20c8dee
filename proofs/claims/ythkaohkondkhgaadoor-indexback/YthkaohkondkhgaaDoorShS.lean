/-
  Walks: Sum.
-/
import Derived.Test.YthkaohkondkhgaaDoorShT2
import Derived.Test.YthkaohkondkhgaaDoorShP
namespace Go.Proofs.YthkaohkondkhgaaDoor.Sh
open Go.RowKit

/-- Byte i of eight words. -/
def digB (l : List Int) (i : Nat) : Int := l.getD (i / 4) 0 / 2 ^ (24 - 8 * (i % 4)) % 256
def digF (l : List Int) : List Int := (List.range 32).map (digB l)
/-- The first k bytes. -/
def digK (l : List Int) (k : Nat) : List Int := (List.range k).map (digB l) ++ List.replicate (32 - k) 0
theorem digK_length (l : List Int) (k : Nat) (h : k ≤ 32) : (digK l k).length = 32 := by
  simp [digK]
  omega
theorem digK_step (l : List Int) (k : Nat) (h : k < 32) : (digK l k).set k (digB l k) = digK l (k + 1) := by
  have e : List.replicate (32 - k) (0 : Int) = 0 :: List.replicate (32 - (k + 1)) 0 := by
    rw [show 32 - k = (32 - (k + 1)) + 1 from by omega, List.replicate_succ]
  rw [digK, e, List.set_append_right _ _ (by simp), List.length_map, List.length_range, Nat.sub_self, List.set_cons_zero, digK, List.range_succ, List.map_append, List.append_assoc]
  rfl
theorem digK_all (l : List Int) : digK l 32 = digF l := by simp [digK, digF]
/-- What stands behind the last whole block, padded. -/
def lastF (xs : List Int) : List Int := xs.drop (64 * (xs.length / 64)) ++ padF xs.length
/-- The eight words of a sum. -/
def sumS (ks xs : List Int) : St := thruF ks (lastF xs) (thruF ks xs St.first (xs.length / 64)) ((lastF xs).length / 64)
theorem lastF_length (xs : List Int) : (lastF xs).length = xs.length % 64 + (1 + zcF xs.length + 8) := by
  rw [lastF, List.length_append, List.length_drop, padF, padP_length]
  omega

theorem Rd.drop {w : World} {a : Option Addr} {n c : Nat} {xs : List Int} (h : Rd w (.slice a n c) xs) (k : Nat) (hk : k ≤ xs.length) : Rd w (.slice (a.map fun x => x.add k) (n - k) (c - k)) (xs.drop k) := by
  obtain ⟨a', c', hv, h1, h2, h3, h4, h5⟩ := h
  injection hv with e1 e2 e3
  subst e1 e2 e3
  have hl : (xs.drop k).length = xs.length - k := List.length_drop
  refine ⟨a.map fun x => x.add k, c - k, by rw [hl], by rw [hl]; omega, by omega, h3.drop k, fun h => ?_, fun h => ?_⟩
  · cases a with
    | none => have := h4 rfl; omega
    | some x => cases h
  · obtain ⟨b, off, rfl, hlt, hc⟩ := h5 (by omega)
    refine ⟨b, off + k, by rw [Option.map_some, add_plain], hlt, fun i hi => ?_⟩
    have := hc (k + i) (by omega)
    rw [Nat.add_assoc, this]
    simp [List.getD]

theorem Blk8.frozen8 {w : World} {b : Nat} {t : TypeId} {xs : List Int} (h : Blk8 w b t xs) (i : Nat) : w.frozen? ⟨b, i, none⟩ = false := by
  unfold Blk8 at h
  simp [World.frozen?, h]
theorem Blk8.set8 {w : World} {b : Nat} {t : TypeId} {xs : List Int} (h : Blk8 w b t xs) (i : Nat) (y : Int) : Blk8 (w.setCell ⟨b, i, none⟩ (.int .u8 y)) b t (xs.set i y) := by
  unfold Blk8 at h ⊢
  simp only [World.setCell, Array.getElem?_modify, h]
  simp [cellsU8, List.map_set]
theorem Blk8.there8 {w : World} {b : Nat} {t : TypeId} {xs : List Int} (h : Blk8 w b t xs) (n : Nat) (hn : n = xs.length) : w.there b 0 n := by
  intro j hj
  rw [Nat.zero_add]
  exact ⟨by rw [h.cell j (by omega)]; rfl, h.frozen8 j⟩
theorem Blk8.over8 {w : World} {b : Nat} {t : TypeId} {zs ws : List Int} (h : Blk8 w b t zs) (hl : zs.length = ws.length) : Blk8 (w.setCells b 0 (cellsU8 ws)) b t ws := by
  have := heap_setCells b t (cellsU8 ws) 0 w _ h
  have e := setL_all (cellsU8 ws) [] (cellsU8 zs) (by simp [cellsU8, hl])
  simp only [List.nil_append, List.length_nil] at e
  rw [e] at this
  exact this
theorem Rd.none (w : World) (a : Option Addr) : Rd w (.slice a 0 0) [] := ⟨a, 0, rfl, Nat.le_refl _, Nat.zero_le _, AllB.nil, fun _ => rfl, fun h => by simp at h⟩
set_option maxHeartbeats 2000000 in
set_option maxRecDepth 100000 in
theorem sum_any (v : Value) (xs ks : List Int) (w : World) (hp : Rd w v xs) (hks : ks.length = 64) (hB : Tab w ks) :
    Calls Tryd.prog 22 #[v] w fun e w' => e = .returned (.agg (cellsU8 (digF (sumS ks xs).list)).toArray) ∧ Below w.heap.size w w' := by
  have hn : 1 < w.heap.size := hB.1
  obtain ⟨a, c, rfl, hac, hlc, hcm, -⟩ := hp.form
  have HP : Kept (Rd w (.slice a xs.length c) xs) := ⟨hp⟩
  have hAx := hp.allB
  have HB : Kept (Tab w ks) := ⟨hB⟩
  clear hp hac hB
  unfold maxLen at hcm
  go_enter Tryd.func22, Tryd.ntmps22
  go_wp2_with fail
  have HQ : Kept ((xs.length : Int) / 64 = ((xs.length / 64 : Nat) : Int)) := ⟨by omega⟩
  refine Calls.mono (first_any _) (fun e w1 hp => ?_)
  obtain ⟨rfl, hb1⟩ := hp
  have BB1 : Below w.heap.size w w1 := ((Below.refl w.heap.size w).alloc (Nat.le_refl _) _).trans (hb1.mono (by simp))
  have ID1 : Blk8 w1 w.heap.size 39 (List.replicate 32 0) := (blk8_of (heap_alloc_new w _) rfl).far hb1 (by simp)
  have hz1 : w.heap.size + 1 ≤ w1.heap.size := by have := hb1.size; simp at this; omega
  clear hb1
  simp only [St.agg_list]
  go_wp2_with fail
  rw [HQ.out]
  refine Calls.mono (through_any St.first _ xs ks (xs.length / 64) w1 (HP.out.later BB1 (Nat.le_refl _)) (by omega) hks (HB.out.far BB1 hn) St.first_ok) (fun e w2 hp => ?_)
  obtain ⟨rfl, hb2⟩ := hp
  have BB2 : Below w.heap.size w w2 := BB1.trans (hb2.mono (by omega))
  have ID2 : Blk8 w2 w.heap.size 39 (List.replicate 32 0) := ID1.far hb2 (by omega)
  have hz2 : w.heap.size + 1 ≤ w2.heap.size := by have := hb2.size; omega
  clear hb2 BB1 ID1 hz1
  simp only [St.agg_list]
  have hok1 := thruF_ok (ks := ks) (xs := xs) St.first_ok (xs.length / 64)
  have HS1 : Kept (sumS ks xs = thruF ks (lastF xs) (thruF ks xs St.first (xs.length / 64)) ((lastF xs).length / 64)) := ⟨rfl⟩
  generalize thruF ks xs St.first (xs.length / 64) = s1 at *
  have HI := Kept.mk (info23 s1.list rfl)
  have HO := Kept.mk (all_oneCell_toArray (cellsU32_one s1.list))
  have HT : Kept ((w2.alloc (.cells #[.int .u32 0, .int .u32 0, .int .u32 0, .int .u32 0, .int .u32 0, .int .u32 0, .int .u32 0, .int .u32 0] 66)).there w2.heap.size 0 8) := ⟨(alloc_blk w2 zeros8 66).there 8 rfl⟩
  go_upto_region 3 with (refine wpList_store_mid rfl 66 _ _ rfl w2.heap.size 0 (cellsU32 s1.list).toArray rfl rfl HT.out HI.out.2 HO.out ?_)
  simp only [Act.put]
  have BH : Blk ((w2.alloc (.cells #[.int .u32 0, .int .u32 0, .int .u32 0, .int .u32 0, .int .u32 0, .int .u32 0, .int .u32 0, .int .u32 0] 66)).setCells w2.heap.size 0 (cellsU32 s1.list)) w2.heap.size 66 s1.list := (alloc_blk w2 zeros8 66).over rfl
  have ID3 : Blk8 ((w2.alloc (.cells #[.int .u32 0, .int .u32 0, .int .u32 0, .int .u32 0, .int .u32 0, .int .u32 0, .int .u32 0, .int .u32 0] 66)).setCells w2.heap.size 0 (cellsU32 s1.list)) w.heap.size 39 (List.replicate 32 0) := (ID2.alloc _).cells_far (by omega) _
  have BB3 : Below w.heap.size w ((w2.alloc (.cells #[.int .u32 0, .int .u32 0, .int .u32 0, .int .u32 0, .int .u32 0, .int .u32 0, .int .u32 0, .int .u32 0] 66)).setCells w2.heap.size 0 (cellsU32 s1.list)) := below_cells (by omega) _ 0 w _ (BB2.alloc (by omega) _)
  have hz3 : w2.heap.size < ((w2.alloc (.cells #[.int .u32 0, .int .u32 0, .int .u32 0, .int .u32 0, .int .u32 0, .int .u32 0, .int .u32 0, .int .u32 0] 66)).setCells w2.heap.size 0 (cellsU32 s1.list)).heap.size := by rw [size_setCells]; simp
  generalize ((w2.alloc (.cells #[.int .u32 0, .int .u32 0, .int .u32 0, .int .u32 0, .int .u32 0, .int .u32 0, .int .u32 0, .int .u32 0] 66)).setCells w2.heap.size 0 (cellsU32 s1.list)) = w3 at *
  generalize w2.heap.size = g at *
  clear HT ID2 BB2 w2
  have HX : Kept (lastF xs = xs.drop (64 * (xs.length / 64)) ++ padF xs.length) := ⟨rfl⟩
  have HLL : Kept ((lastF xs).length = xs.length % 64 + (1 + zcF xs.length + 8)) := ⟨lastF_length xs⟩
  have hq1 : 64 * (xs.length / 64) ≤ xs.length := by omega
  have hq2 : xs.length < 64 * (xs.length / 64) + 64 := by omega
  clear HQ
  generalize xs.length / 64 = q at *
  have hrd3 : Rd w3 (.slice a xs.length c) xs := HP.out.later BB3 (Nat.le_refl _)
  have HRD : Kept (Rd w3 (.slice (a.map fun x => x.add (q * 64)) (xs.length - q * 64) (c - q * 64)) (xs.drop (64 * q))) := ⟨by rw [Nat.mul_comm 64 q]; exact hrd3.drop (q * 64) (by omega)⟩
  have HRD0 : Kept (c = q * 64 → Rd w3 (.slice a (xs.length - q * 64) 0) (xs.drop (64 * q))) := ⟨fun h => by
    have e : xs.length - q * 64 = 0 := by omega
    have e2 : xs.drop (64 * q) = [] := List.eq_nil_of_length_eq_zero (by rw [List.length_drop]; omega)
    rw [e, e2]
    exact Rd.none w3 a⟩
  have hAd : AllB (padF xs.length) := padF_allB xs.length
  have HPL : Kept ((xs.drop (64 * q)).length + (padF xs.length).length ≤ 140737488355328) := ⟨by
    have := zcF_lt xs.length
    rw [List.length_drop, padF, padP_length]
    omega⟩
  obtain ⟨i0, z0, hi, hz, hs, hb, hc, -⟩ := info5
  clear hrd3
  go_cut [5] from 15 to 23 (fun s5 wx => Own 5 wx w.heap.size s5 (lastF xs) ∧ Blk wx g 66 s1.list ∧ Blk8 wx w.heap.size 39 (List.replicate 32 0) ∧ Below w.heap.size w wx ∧ g < wx.heap.size)
  case first =>
    go_wp2_with fail
    all_goals
      try subst h
      refine Calls.mono (clone_any _ (xs.drop (64 * q)) w3 (by first | exact HRD0.out rfl | exact HRD.out) (by have := HPL.out; omega)) (fun e w4 hp => ?_)
      obtain ⟨v4, rfl, ho4, hb4⟩ := hp
      go_wp2_with fail
      refine Calls.mono (pad_any (xs.length : Int) xs.length w4 (by rw [if_neg (by omega), Int.toNat_natCast]) (by omega) (by omega)) (fun e w5 hp => ?_)
      obtain ⟨v5, rfl, ho5, hb5⟩ := hp
      have ho4' := ho4.later hb5 (Nat.le_refl _)
      have h54 := hb4.size
      have h55 := hb5.size
      have HR5 := Kept.mk (Rd.own ho5 hAd)
      have HO4 := Kept.mk ho4'
      have HB5 : Kept (Below w3.heap.size w3 w5) := ⟨hb4.trans (hb5.mono (by omega))⟩
      clear ho4 ho5 ho4' hb4 hb5
      go_wp2_with (at_builtin; refine wpList_append_rd _ rfl _ _ 25 rfl w3.heap.size 5 i0 z0 Tryd.underlying25 hi hz hs hb hc v4 (xs.drop (64 * q)) rfl HO4.out v5 (padF xs.length) rfl HR5.out HPL.out (by omega) ?_; intro v6 w6 hown hgrow hat)
      have hb6 := HB5.out.grown hgrow (by omega) (own_ge HO4.out)
      have HO6 := Kept.mk hown
      clear hown hgrow hat
      go_wp2_with fail
      go_meet
      case rel =>
        have h66 := hb6.size
        exact ⟨by rw [HX.out]; exact HO6.out.mono (by have := BB3.size; omega), BH.far hb6 hz3, ID3.far hb6 (by omega), BB3.trans (hb6.mono (by have := BB3.size; omega)), by omega⟩
  case rest =>
    clear HRD HRD0 HPL BH ID3 BB3 hz3 HP HX
    obtain ⟨ho5, BH, ID, BB, hzc⟩ := hcut
    have hAl : AllB (lastF xs) := by
      unfold lastF
      exact (hAx.drop _).append hAd
    have hrl := Rd.own ho5 hAl
    obtain ⟨a5, c5, hv5, -, h5l, h5m, -⟩ := hrl.form
    subst hv5
    unfold maxLen at h5m
    have HRL := Kept.mk hrl
    have HBW := Kept.mk (HB.out.far BB hn)
    clear ho5 hrl hAl hAd HB
    have HR1 := Kept.mk BH.range
    generalize hll : (lastF xs).length = ll at *
    have HLQ : Kept ((ll : Int) / 64 = ((ll / 64 : Nat) : Int)) := ⟨by omega⟩
    go_wp2_with (refine wpList_load_mid rfl 66 _ rfl g 0 rfl (cellsU32 s1.list) _ HR1.out Tryd.underlying66 rfl HI.out.1 ?_)
    rw [HLQ.out]
    refine Calls.mono (through_any s1 _ (lastF xs) ks (ll / 64) wc HRL.out (by omega) hks HBW.out hok1) (fun e wd hp => ?_)
    obtain ⟨rfl, hbd⟩ := hp
    simp only [St.agg_list]
    have HS2 : Kept (sumS ks xs = thruF ks (lastF xs) s1 (ll / 64)) := ⟨HS1.out⟩
    clear HS1 HLQ HRL HBW HR1 HI HO hok1
    generalize thruF ks (lastF xs) s1 (ll / 64) = s2 at *
    have hzd := hbd.size
    have BHd := BH.far hbd hzc
    have IDd := ID.far hbd (by omega)
    have BBd := BB.trans (hbd.mono (by omega))
    clear BH ID BB hbd
    have HI := Kept.mk (info23 s2.list rfl)
    have HO := Kept.mk (all_oneCell_toArray (cellsU32_one s2.list))
    have HT := Kept.mk (BHd.there 8 rfl)
    go_upto_region 5 with (refine wpList_store_mid rfl 66 _ _ rfl g 0 (cellsU32 s2.list).toArray rfl rfl HT.out HI.out.2 HO.out ?_)
    simp only [Act.put]
    have B1 : Blk (wd.setCells g 0 (cellsU32 s2.list)) g 66 s2.list := BHd.over rfl
    have I1 : Blk8 (wd.setCells g 0 (cellsU32 s2.list)) w.heap.size 39 (List.replicate 32 0) := IDd.cells_far (by omega) _
    have E1 : Below w.heap.size w (wd.setCells g 0 (cellsU32 s2.list)) := below_cells (by omega) _ 0 w _ BBd
    have hz1 : g < (wd.setCells g 0 (cellsU32 s2.list)).heap.size := by rw [size_setCells]; omega
    clear BHd IDd BBd HT HI HO hzd hzc
    generalize wd.setCells g 0 (cellsU32 s2.list) = we at *
    have hl8 : s2.list.length = 8 := rfl
    have HS3 : Kept ((sumS ks xs).list = s2.list) := ⟨by rw [HS2.out]⟩
    clear HS2
    generalize s2.list = l at *
    go_wp2
    go_loopw [30] (fun i wr => ∃ (k : Nat), k ≤ 32 ∧ i = .int .i64 k ∧ Blk8 wr we.heap.size 39 (digK l k) ∧ Blk wr g 66 l ∧ Blk8 wr w.heap.size 39 (List.replicate 32 0) ∧ Below w.heap.size w wr) (fun i _ => 32 - (intOf i).toNat)
    case atStart => exact ⟨0, by omega, rfl, blk8_of (heap_alloc_new we _) rfl, B1.alloc _, I1.alloc _, E1.alloc (by omega) _⟩
    case round =>
      clear B1 I1 E1
      obtain ⟨k, hk, rfl, b0, b1, b2, hbel⟩ := hrel
      by_cases hlt : k < 32
      · have ck := b0.cell k (by rw [digK_length l k hk]; omega)
        have fk := b0.frozen8 k
        have cg := b1.cell (k / 4) (by omega)
        generalize (digK l k).getD k 0 = old at *
        have HD : Kept (digK l (k + 1) = (digK l k).set k (l.getD (k / 4) 0 / 2 ^ (24 - 8 * (k % 4)) % 256)) := ⟨(digK_step l k hlt).symm⟩
        generalize l.getD (k / 4) 0 = x at *
        have HB0 := Kept.mk b0
        have HB1 := Kept.mk b1
        have HB2 := Kept.mk b2
        clear b0 b1 b2
        go_wp2
        go_roundw
        case rel =>
          refine ⟨k + 1, by omega, by go_num, ?_, HB1.out.other (by omega) _, HB2.out.other (by omega) _, hbel.setCell (by show w.heap.size ≤ we.heap.size; omega) _⟩
          rw [HD.out]
          exact HB0.out.set8 k _
        case measure => simp [intOf]; omega
      · obtain rfl : k = 32 := by omega
        rw [digK_all, ← HS3.out] at b0
        have hl32 : (digF (sumS ks xs).list).length = 32 := by simp [digF]
        generalize hdl : digF (sumS ks xs).list = dl at *
        have HDL := Kept.mk hdl
        clear hdl
        have HR1 := Kept.mk b0.range
        have HI1 : Kept ((Tryd.prog.info? 39).map (·.size) = some (cellsU8 dl).length) := ⟨by rw [cellsU8_length, hl32]; rfl⟩
        have HI2 : Kept ((Tryd.prog.info? 39).map (·.size) = some (cellsU8 dl).toArray.size) := ⟨by rw [List.size_toArray]; exact HI1.out⟩
        have HT1 : Kept (wr.there w.heap.size 0 (cellsU8 dl).toArray.size) := ⟨b2.there8 _ (by rw [List.size_toArray, cellsU8_length, hl32, List.length_replicate])⟩
        have HO1 := Kept.mk (all_oneCell_toArray (cellsU8_one dl))
        have HF1 : Kept (Blk8 (wr.setCells w.heap.size 0 (cellsU8 dl)) w.heap.size 39 dl ∧ Below w.heap.size w (wr.setCells w.heap.size 0 (cellsU8 dl))) := ⟨b2.over8 (by rw [hl32, List.length_replicate]), below_cells (Nat.le_refl _) _ 0 w wr hbel⟩
        clear b0 b1 b2 hbel HS3
        go_wp2_with (first | (refine wpList_load_mid rfl 39 _ rfl we.heap.size 0 rfl (cellsU8 dl) _ HR1.out Tryd.underlying39 rfl HI1.out ?_) | (refine wpList_store_mid rfl 39 _ _ rfl w.heap.size 0 (cellsU8 dl).toArray rfl rfl HT1.out HI2.out HO1.out ?_))
        refine bodyPost_ret (v := .agg (cellsU8 dl).toArray) (results_cell_row (p := 2) (ty := 39) Tryd.results22 _ _ w.heap.size 39 _ (0, 0) _ rfl HF1.out.1 Tryd.underlying39 rfl HI2.out) rfl ⟨by rw [HDL.out], HF1.out.2⟩
end Go.Proofs.YthkaohkondkhgaaDoor.Sh
