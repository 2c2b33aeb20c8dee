/-
  Walks: one round of the document's Sum, as laws.
-/
import Derived.Test.YthkaohkondkhgaaDoorShC2
import Derived.Test.YthkaohkondkhgaaDoorShP2
import Derived.Test.YthkaohkondkhgaaDoorShQ2
namespace Go.Proofs.YthkaohkondkhgaaDoor.Sh
open Go.RowKit

theorem quiet_load_mid {P : Program} {C : World → Prop} {K : Act → Prop} {o : Oper} {a : Act} (ty : TypeId) (x : Operand) (ho : o.op = .load ty x)
    (b off : Nat) (hx : a.eval x = .pointer (some ⟨b, off, none⟩)) (cs : List Value) (d : TypeDesc) (hS : ∀ w, C w → w.rangeAt b off cs)
    (hu : P.underlying ty = some d) (hd : d.isRow = true) (hi : (P.info? ty).map (·.size) = some cs.length) (hk : K (a.put o.dst (.agg cs.toArray))) : o.quiet P a C K :=
  ⟨_, fun w hw => by
    unfold Oper.quietAt execOp
    simp only [ho, hx, Instr.loadAt, Instr.sureAddr, Sem.run_bind, Sem.run_pure, Result.andThen_ok, run_loadVar_mid w b off ty cs d (hS w hw) hu hd hi]
    exact ⟨rfl, rfl⟩, hk⟩
theorem wpQuiet_by {P : Program} {ops : Array Oper} {C : World → Prop} {Q : Act → Prop} {a : Act} {o : Oper} {rest : List Oper} (hg : o.guard = none) (h : o.quiet P a C (fun a' => wpQuiet P ops C Q rest a')) : wpQuiet P ops C Q (o :: rest) a := by
  unfold wpQuiet
  rw [if_pos (by simp [Region.wanted, hg])]
  exact h

theorem Own.cells_far {e : TypeId} {w : World} {base g o : Nat} {v : Value} {xs : List Int} (h : Own e w base v xs) (hg : g < base) (vs : List Value) : Own e (w.setCells g o vs) base v xs := by
  rcases h with ⟨h1, h2⟩
  refine ⟨h1, ?_⟩
  rcases h2 with h2 | ⟨g', cap, cur, hv, hg', hh, r⟩
  · exact Or.inl h2
  · exact Or.inr ⟨g', cap, cur, hv, hg', by rw [heap_setCells_far g g' (by omega)]; exact hh, r⟩
theorem Rd.part {w : World} {b off n c : Nat} {xs : List Int} (h : Rd w (.slice (some ⟨b, off, Option.none⟩) n c) xs) (k : Nat) (hk : k + 64 ≤ xs.length) : Rd w (.slice (some ⟨b, off + k, Option.none⟩) 64 (c - k)) ((xs.drop k).take 64) := by
  have h' := h
  obtain ⟨a', c', hv, h1, h2, h3, h4, h5⟩ := h
  injection hv with e1 e2 e3
  subst e1 e2 e3
  have hl : ((xs.drop k).take 64).length = 64 := by simp; omega
  obtain ⟨b', off', e, hlt, hc⟩ := h5 (by omega)
  injection e with e
  injection e with e4 e5
  subst e4 e5
  refine ⟨_, c - k, by rw [hl], by omega, by omega, (h3.drop k).take 64, (fun h => by cases h), fun _ => ⟨b, off + k, rfl, hlt, fun i hi => ?_⟩⟩
  have := hc (k + i) (by omega)
  rw [Nat.add_assoc, this, getD_part _ _ _ (by omega)]

set_option maxHeartbeats 4000000 in
set_option maxRecDepth 100000 in
theorem rsum_any (v : Value) (xs : List Int) (w : World) (hp : Rd w v xs) :
    Calls Tryd.prog 51 #[v] w fun e w' => e = .returned (.agg (cellsU8 (digF (sumS ksK xs).list)).toArray) ∧ Below w.heap.size w w' := by
  have hAx := hp.allB
  obtain ⟨a, c, rfl, hac, hlc, hcm, -⟩ := hp.form
  have HP : Kept (Rd w (.slice a xs.length c) xs) := ⟨hp⟩
  clear hp hac
  unfold maxLen at hcm
  have HQ : Kept ((xs.length : Int) / 64 = ((xs.length / 64 : Nat) : Int)) := ⟨by omega⟩
  obtain ⟨i0, z0, hi, hz, hs, hb, hc, -⟩ := info5
  go_enter Tryd.func51, Tryd.ntmps51
  go_wp2_with fail
  refine Calls.mono (rfirst_any _) (fun e w1 hp => ?_)
  obtain ⟨rfl, hb1⟩ := hp
  have BB1 : Below w.heap.size w w1 := ((Below.refl w.heap.size w).alloc (Nat.le_refl _) _).trans (hb1.mono (by simp))
  have ID1 : Blk8 w1 w.heap.size 39 (List.replicate 32 0) := (blk8_of (heap_alloc_new w _) rfl).far hb1 (by simp)
  have hz1 : w.heap.size + 1 ≤ w1.heap.size := by have := hb1.size; simp at this; omega
  clear hb1
  simp only [St.agg_list]
  have HI := Kept.mk (info23 St.first.list rfl)
  have HO := Kept.mk (all_oneCell_toArray (cellsU32_one St.first.list))
  have HT : Kept ((w1.alloc (.cells #[.int .u32 0, .int .u32 0, .int .u32 0, .int .u32 0, .int .u32 0, .int .u32 0, .int .u32 0, .int .u32 0] 66)).there w1.heap.size 0 8) := ⟨(alloc_blk w1 zeros8 66).there 8 rfl⟩
  generalize hva : Value.agg (cellsU32 St.first.list).toArray = va
  have HVA := Kept.mk hva
  clear hva
  go_upto_region 2 with (refine wpList_store_mid rfl 66 _ _ rfl w1.heap.size 0 (cellsU32 St.first.list).toArray rfl HVA.out.symm HT.out HI.out.2 HO.out ?_)
  try simp only [Act.put]
  obtain ⟨w2, hw2, BH, ID, BB, hz2⟩ : ∃ w2, (w1.alloc (.cells #[.int .u32 0, .int .u32 0, .int .u32 0, .int .u32 0, .int .u32 0, .int .u32 0, .int .u32 0, .int .u32 0] 66)).setCells w1.heap.size 0 (cellsU32 St.first.list) = w2 ∧ Blk w2 w1.heap.size 66 St.first.list ∧ Blk8 w2 w.heap.size 39 (List.replicate 32 0) ∧ Below w.heap.size w w2 ∧ w1.heap.size < w2.heap.size :=
    ⟨_, rfl, (alloc_blk w1 zeros8 66).over rfl, (ID1.alloc _).cells_far (by omega) _, below_cells (by omega) _ 0 w _ (BB1.alloc (by omega) _), by rw [size_setCells]; simp⟩
  rw [hw2]
  clear hw2 HI HO HT HVA ID1 BB1
  generalize w1.heap.size = g at *
  go_upto_region 3 with fail
  rw [HQ.out]
  have hq1 : 64 * (xs.length / 64) ≤ xs.length := by omega
  have hq2 : xs.length < 64 * (xs.length / 64) + 64 := by omega
  have HS1 : Kept (sumS ksK xs = thruF ksK (lastF xs) (thruF ksK xs St.first (xs.length / 64)) ((lastF xs).length / 64)) := ⟨rfl⟩
  have HX : Kept (lastF xs = xs.drop (64 * (xs.length / 64)) ++ padF xs.length) := ⟨rfl⟩
  have HLM : Kept ((lastF xs).length % 64 = 0 ∧ (lastF xs).length ≤ 200) := ⟨by
    have h1 := pad_whole xs.length
    have h2 := zcF_lt xs.length
    rw [lastF_length]
    omega⟩
  clear HQ
  generalize xs.length / 64 = q at *
  go_wp2
  go_loopw [5] (fun i wr => ∃ (k : Nat), k ≤ q ∧ i = .int .i64 (64 * (k : Int)) ∧ Blk wr g 66 (thruF ksK xs St.first k).list ∧ Blk8 wr w.heap.size 39 (List.replicate 32 0) ∧ Below w.heap.size w wr ∧ g < wr.heap.size) (fun i _ => 64 * q + 64 - (intOf i).toNat)
  case atStart => exact ⟨0, by omega, rfl, BH, ID, BB, hz2⟩
  case round =>
    clear BH ID BB hz2
    obtain ⟨k, hk, rfl, b0, b1, hbel, hsz⟩ := hrel
    by_cases hlt : k < q
    · have hrd : Rd wr (.slice a xs.length c) xs := HP.out.later hbel (Nat.le_refl _)
      obtain ⟨b, off, c', hv, hlc', hcm', hblt, -⟩ := hrd.open2 (by omega)
      injection hv with e4 e5 e6
      subst e4 e6
      have HPT := Kept.mk (fun m : Nat => (show Rd (wr.drewN m) _ _ from (hrd.part (64 * k) (by omega)).later (below_drewN (Below.refl wr.heap.size wr) m) (Nat.le_refl _)))
      have hl64 : ((xs.drop (64 * k)).take 64).length = 64 := by simp; omega
      have HC : Kept (∀ m, Calls Tryd.prog 69 #[.agg (cellsU32 (thruF ksK xs St.first k).list).toArray, .slice (some ⟨b, off + 64 * k, none⟩) 64 (c - 64 * k)] (wr.drewN m) fun e w' => e = .returned (.agg (cellsU32 (thruF ksK xs St.first (k + 1)).list).toArray) ∧ Below (wr.drewN m).heap.size (wr.drewN m) w') := ⟨fun m => compress_any _ _ _ _ _ _ (HPT.out m) hl64 (thruF_ok St.first_ok k) ⟨rfl⟩ ⟨rfl⟩⟩
      have hl1 : (thruF ksK xs St.first k).list.length = 8 := rfl
      have hl2 : (thruF ksK xs St.first (k + 1)).list.length = 8 := rfl
      clear HPT hrd hl64 e5
      generalize (thruF ksK xs St.first k).list = tl at *
      generalize hnl : (thruF ksK xs St.first (k + 1)).list = nl at *
      have HNL := Kept.mk hnl
      clear hnl
      have HR0 : Kept (∀ w', (∃ m, w' = wr.drewN m) → w'.rangeAt g 0 (cellsU32 tl)) := ⟨fun w' ⟨m, hm⟩ => by subst hm; exact (b0.drewN m).range⟩
      have HI0 := Kept.mk (info23 tl hl1)
      have HI1 := Kept.mk (info23 nl hl2)
      have HO1 := Kept.mk (all_oneCell_toArray (cellsU32_one nl))
      have HB0 := Kept.mk b0
      have HB1 := Kept.mk b1
      clear b0 b1
      have x1 : (0 : Int) ≤ 64 * (k : Int) := by omega
      have x2 : 64 * (k : Int) + 64 ≤ (xs.length : Int) := by omega
      have x3 : (xs.length : Int) ≤ (c : Int) := by omega
      go_upto_region 6 with fail
      refine wp_region_tail 0 6 1 (by kernel_rfl) (by kernel_rfl) ?_
      simp only [List.take_succ_cons, List.take_zero, List.drop_succ_cons, List.drop_zero, List.foldl_nil]
      refine wpQuiet_by rfl (quiet_load_mid 66 _ rfl g 0 rfl (cellsU32 tl) _ HR0.out Tryd.underlying66 rfl HI0.out.1 ?_)
      simp only [Act.put, List.setIfInBounds_toArray, List.set_cons_zero, List.set_cons_succ]
      repeat (go_big_quiet_step (fail))
      refine wpQuiet_nil ?_
      intro m
      refine wpTail_step (fun K hK => ?_)
      go_simp
      refine Calls.mono (HC.out m) (fun e wa hp => ?_)
      obtain ⟨rfl, hba⟩ := hp
      refine hK _ _ ?_
      clear hK K
      have hsa : wr.heap.size ≤ wa.heap.size := hba.size
      have HT2 : Kept (wa.there g 0 (cellsU32 nl).toArray.size) := ⟨((HB0.out.drewN m).far hba hsz).there _ (by simp only [List.size_toArray, cellsU32_length, hl1, hl2])⟩
      refine wpTail_step (fun K hK => ?_)
      refine wp_store_mid 66 _ _ rfl g 0 (cellsU32 nl).toArray rfl rfl HT2.out HI1.out.2 HO1.out ?_
      refine hK _ _ (wpTail_nil (NoPanic.normal ?_))
      clear hK K
      simp only [Act.put]
      go_wp2
      go_roundw
      case rel =>
        have hn1 : w.heap.size ≠ g := by omega
        refine ⟨k + 1, by omega, by go_num, ?_, ((HB1.out.drewN m).far hba (by show w.heap.size < wr.heap.size; omega)).cells_far hn1 _, ?_, ?_⟩
        · rw [HNL.out]
          exact ((HB0.out.drewN m).far hba hsz).over (by rw [hl1, hl2])
        · exact below_cells (by omega) _ 0 w wa ((below_drewN hbel m).trans (hba.mono (by show w.heap.size ≤ wr.heap.size; omega)))
        · rw [size_setCells]
          omega
      case measure => simp [intOf]; omega
    · obtain rfl : k = q := by omega
      have hrd3 : Rd wr (.slice a xs.length c) xs := HP.out.later hbel (Nat.le_refl _)
      have HRD : Kept (Rd wr (.slice (a.map fun x => x.add (k * 64)) (xs.length - k * 64) (c - k * 64)) (xs.drop (64 * k))) := ⟨by rw [Nat.mul_comm 64 k]; exact hrd3.drop (k * 64) (by omega)⟩
      have HRD0 : Kept (c = k * 64 → Rd wr (.slice a (xs.length - k * 64) 0) (xs.drop (64 * k))) := ⟨fun h => by
        have e : xs.length - k * 64 = 0 := by omega
        have e2 : xs.drop (64 * k) = [] := List.eq_nil_of_length_eq_zero (by rw [List.length_drop]; omega)
        rw [e, e2]
        exact Rd.none wr a⟩
      have hAd : AllB (padF xs.length) := padF_allB xs.length
      have HDL : Kept ((xs.drop (64 * k)).length ≤ 64) := ⟨by rw [List.length_drop]; omega⟩
      have HPL : Kept ((padF xs.length).length ≤ 100) := ⟨by
        have := zcF_lt xs.length
        rw [padF, padP_length]
        omega⟩
      have hok1 := thruF_ok (ks := ksK) (xs := xs) St.first_ok k
      have HB0 := Kept.mk b0
      have HB1 := Kept.mk b1
      clear b0 b1 hrd3
      generalize thruF ksK xs St.first k = s1 at *
      go_upto_region 8 with fail
      go_cut [6] from 27 to 31 (fun s6 wx => Own 5 wx wr.heap.size s6 (xs.drop (64 * k)) ∧ Below wr.heap.size wr wx)
      case first =>
        by_cases hcq : c = k * 64
        · subst hcq
          have HRZ : Kept (Rd wr (.slice a (xs.length - k * 64) (k * 64 - k * 64)) (xs.drop (64 * k))) := ⟨by rw [Nat.sub_self]; exact HRD0.out rfl⟩
          go_wp2_with (at_builtin; refine wpList_append_rd _ rfl _ _ 25 rfl wr.heap.size 5 i0 z0 Tryd.underlying25 hi hz hs hb hc (.slice none 0 0) [] rfl (Own.nil 5 wr _) (.slice a (xs.length - k * 64) (k * 64 - k * 64)) (xs.drop (64 * k)) rfl HRZ.out (by have := HDL.out; simp; omega) (Nat.le_refl _) ?_; intro v6 w6 hown hgrow hat)
          go_meet
          case rel => exact ⟨by simpa using hown, (Below.refl _ wr).grown hgrow (Nat.le_refl _) (by intro k hk; simp [Value.ownBlock] at hk)⟩
        · go_wp2_with (at_builtin; refine wpList_append_rd _ rfl _ _ 25 rfl wr.heap.size 5 i0 z0 Tryd.underlying25 hi hz hs hb hc (.slice none 0 0) [] rfl (Own.nil 5 wr _) _ (xs.drop (64 * k)) rfl HRD.out (by have := HDL.out; simp; omega) (Nat.le_refl _) ?_; intro v6 w6 hown hgrow hat)
          go_meet
          case rel => exact ⟨by simpa using hown, (Below.refl _ wr).grown hgrow (Nat.le_refl _) (by intro k hk; simp [Value.ownBlock] at hk)⟩
      case rest =>
        obtain ⟨ho6, hb6⟩ := hcut
        have s6 := hb6.size
        have HO6 := Kept.mk ho6
        have A0 := HB0.out.far hb6 hsz
        have A1 := HB1.out.far hb6 (by omega)
        have BB6 : Below w.heap.size w wc := hbel.trans (hb6.mono (by omega))
        clear HB0 HB1 hb6 hbel ho6 HRD HRD0
        go_wp2_with fail
        refine Calls.mono (docPad_any (xs.length : Int) xs.length wc (by rw [if_neg (by omega), Int.toNat_natCast]) (by omega) (by omega)) (fun e w7 hp => ?_)
        obtain ⟨v7, rfl, ho7, hb7⟩ := hp
        have s7 := hb7.size
        have HR7 := Kept.mk (Rd.own ho7 hAd)
        have HO7 := Kept.mk (HO6.out.later hb7 (Nat.le_refl _))
        have C0 := A0.far hb7 (by omega)
        have C1 := A1.far hb7 (by omega)
        have BB7 : Below w.heap.size w w7 := BB6.trans (hb7.mono (by omega))
        clear HO6 A0 A1 hb7 BB6 ho7
        go_upto_region 10 with (at_builtin; refine wpList_append_rd _ rfl _ _ 25 rfl wr.heap.size 5 i0 z0 Tryd.underlying25 hi hz hs hb hc u6 (xs.drop (64 * k)) rfl HO7.out v7 (padF xs.length) rfl HR7.out (by have := HDL.out; have := HPL.out; omega) (by omega) ?_; intro v8 w8 hown hgrow hat)
        have BB8w : Below wr.heap.size w7 w8 := (Below.refl wr.heap.size w7).grown hgrow (by omega) (own_ge HO7.out)
        have s8 := BB8w.size
        have D0 := C0.far BB8w hsz
        have D1 := C1.far BB8w (by omega)
        have BB8 : Below w.heap.size w w8 := BB7.trans (BB8w.mono (by omega))
        have ho8 : Own 5 w8 wr.heap.size v8 (lastF xs) := by rw [HX.out]; exact hown
        have hAz : AllB (lastF xs) := by rw [HX.out]; exact (hAx.drop _).append hAd
        have hr8 := Rd.own ho8 hAz
        clear hown hgrow hat HO7 HR7 C0 C1 BB7 BB8w HDL HPL hAd
        obtain ⟨a8, c8, hv8, -, hlc8, hcm8, -⟩ := hr8.form
        subst hv8
        have HO8 := Kept.mk ho8
        clear ho8
        unfold maxLen at hcm8
        obtain ⟨hlm, hlb⟩ := HLM.out
        have HS2 : Kept ((sumS ksK xs).list = (thruF ksK (lastF xs) s1 ((lastF xs).length / 64)).list) := ⟨by rw [HS1.out]⟩
        clear HS1 HX HLM hr8
        generalize lastF xs = zs at *
        generalize hnn : zs.length = nn at *
        obtain ⟨p, rfl⟩ : ∃ p, nn = 64 * p := ⟨nn / 64, by omega⟩
        have HNN := Kept.mk hnn
        clear hnn hlm
        generalize hB0 : wr.heap.size = B0 at *
        clear hB0
        go_wp2
        go_loopw [7] (fun i wq => ∃ (k : Nat), k ≤ p ∧ i = .int .i64 (64 * (k : Int)) ∧ Blk wq g 66 (thruF ksK zs s1 k).list ∧ Blk8 wq w.heap.size 39 (List.replicate 32 0) ∧ Below w.heap.size w wq ∧ B0 ≤ wq.heap.size ∧ Own 5 wq B0 (.slice a8 (64 * p) c8) zs) (fun i _ => 64 * p + 64 - (intOf i).toNat)
        case atStart => exact ⟨0, by omega, rfl, D0, D1, BB8, by omega, HO8.out⟩
        case round =>
          clear D0 D1 BB8 HO8
          obtain ⟨j, hj, rfl, b0, b1, hbq, hsq, hoq⟩ := hrel
          by_cases hlt2 : j < p
          · have hrd : Rd wr (.slice a8 (64 * p) c8) zs := Rd.own hoq hAz
            obtain ⟨b, off, c', hv, hlc', hcm', hblt, -⟩ := hrd.open2 (by have := HNN.out; omega)
            injection hv with e4 e5 e6
            subst e4 e6
            have HPT := Kept.mk (fun m : Nat => (show Rd (wr.drewN m) _ _ from (hrd.part (64 * j) (by have := HNN.out; omega)).later (below_drewN (Below.refl wr.heap.size wr) m) (Nat.le_refl _)))
            have hl64 : ((zs.drop (64 * j)).take 64).length = 64 := by have := HNN.out; simp; omega
            have HC : Kept (∀ m, Calls Tryd.prog 69 #[.agg (cellsU32 (thruF ksK zs s1 j).list).toArray, .slice (some ⟨b, off + 64 * j, none⟩) 64 (c8 - 64 * j)] (wr.drewN m) fun e w' => e = .returned (.agg (cellsU32 (thruF ksK zs s1 (j + 1)).list).toArray) ∧ Below (wr.drewN m).heap.size (wr.drewN m) w') := ⟨fun m => compress_any _ _ _ _ _ _ (HPT.out m) hl64 (thruF_ok hok1 j) ⟨rfl⟩ ⟨rfl⟩⟩
            have hl1 : (thruF ksK zs s1 j).list.length = 8 := rfl
            have hl2 : (thruF ksK zs s1 (j + 1)).list.length = 8 := rfl
            clear HPT hrd hl64 e5 HS2
            generalize (thruF ksK zs s1 j).list = tl at *
            generalize hnl : (thruF ksK zs s1 (j + 1)).list = nl at *
            have HNL := Kept.mk hnl
            clear hnl
            have HR0 : Kept (∀ w', (∃ m, w' = wr.drewN m) → w'.rangeAt g 0 (cellsU32 tl)) := ⟨fun w' ⟨m, hm⟩ => by subst hm; exact (b0.drewN m).range⟩
            have HI0 := Kept.mk (info23 tl hl1)
            have HI1 := Kept.mk (info23 nl hl2)
            have HO1 := Kept.mk (all_oneCell_toArray (cellsU32_one nl))
            have HB0 := Kept.mk b0
            have HB1 := Kept.mk b1
            have HOQ := Kept.mk hoq
            clear b0 b1 hoq
            have x1 : (0 : Int) ≤ 64 * (j : Int) := by omega
            have x2 : 64 * (j : Int) + 64 ≤ 64 * (p : Int) := by omega
            have x3 : 64 * (p : Int) ≤ (c8 : Int) := by omega
            go_upto_region 13 with fail
            refine wp_region_tail 0 6 1 (by kernel_rfl) (by kernel_rfl) ?_
            simp only [List.take_succ_cons, List.take_zero, List.drop_succ_cons, List.drop_zero, List.foldl_nil]
            refine wpQuiet_by rfl (quiet_load_mid 66 _ rfl g 0 rfl (cellsU32 tl) _ HR0.out Tryd.underlying66 rfl HI0.out.1 ?_)
            simp only [Act.put, List.setIfInBounds_toArray, List.set_cons_zero, List.set_cons_succ]
            repeat (go_big_quiet_step (fail))
            refine wpQuiet_nil ?_
            intro m
            refine wpTail_step (fun K hK => ?_)
            go_simp
            refine Calls.mono (HC.out m) (fun e wa hp => ?_)
            obtain ⟨rfl, hba⟩ := hp
            refine hK _ _ ?_
            clear hK K
            have hsa : wr.heap.size ≤ wa.heap.size := hba.size
            have HT2 : Kept (wa.there g 0 (cellsU32 nl).toArray.size) := ⟨((HB0.out.drewN m).far hba (by show g < wr.heap.size; omega)).there _ (by simp only [List.size_toArray, cellsU32_length, hl1, hl2])⟩
            refine wpTail_step (fun K hK => ?_)
            refine wp_store_mid 66 _ _ rfl g 0 (cellsU32 nl).toArray rfl rfl HT2.out HI1.out.2 HO1.out ?_
            refine hK _ _ (wpTail_nil (NoPanic.normal ?_))
            clear hK K
            simp only [Act.put]
            go_wp2
            go_roundw
            case rel =>
              have hn1 : w.heap.size ≠ g := by omega
              have hoa : Own 5 wa B0 (.slice (some ⟨b, off, none⟩) (64 * p) c8) zs := (show Own 5 (wr.drewN m) B0 _ zs from HOQ.out).later hba (Nat.le_refl _)
              refine ⟨j + 1, by omega, by go_num, ?_, ((HB1.out.drewN m).far hba (by show w.heap.size < wr.heap.size; omega)).cells_far hn1 _, ?_, ?_, hoa.cells_far hsz _⟩
              · rw [HNL.out]
                exact ((HB0.out.drewN m).far hba (by show g < wr.heap.size; omega)).over (by rw [hl1, hl2])
              · exact below_cells (by omega) _ 0 w wa ((below_drewN hbq m).trans (hba.mono (by show w.heap.size ≤ wr.heap.size; omega)))
              · rw [size_setCells]
                omega
            case measure => simp [intOf]; omega
          · obtain rfl : j = p := by omega
            have hs2 := HS2.out
            rw [show 64 * j / 64 = j from by omega] at hs2
            rw [← hs2] at b0
            have hl8 : (sumS ksK xs).list.length = 8 := rfl
            clear hs2 HS2 hoq HNN hlc8 hcm8
            generalize hln : (sumS ksK xs).list = l at *
            have HLN := Kept.mk hln
            clear hln
            go_wp2
            obtain ⟨w0, dd, hw0, hdd, E0, E1, E2, E3, E4⟩ : ∃ w0 dd, wr.alloc (.cells #[.int .u8 0, .int .u8 0, .int .u8 0, .int .u8 0, .int .u8 0, .int .u8 0, .int .u8 0, .int .u8 0, .int .u8 0, .int .u8 0, .int .u8 0, .int .u8 0, .int .u8 0, .int .u8 0, .int .u8 0, .int .u8 0, .int .u8 0, .int .u8 0, .int .u8 0, .int .u8 0, .int .u8 0, .int .u8 0, .int .u8 0, .int .u8 0, .int .u8 0, .int .u8 0, .int .u8 0, .int .u8 0, .int .u8 0, .int .u8 0, .int .u8 0, .int .u8 0] 39) = w0 ∧ wr.heap.size = dd ∧ Blk8 w0 dd 39 (digK l 0) ∧ Blk w0 g 66 l ∧ Blk8 w0 w.heap.size 39 (List.replicate 32 0) ∧ Below w.heap.size w w0 ∧ g < dd :=
              ⟨_, _, rfl, rfl, blk8_of (heap_alloc_new wr _) rfl, b0.alloc _, b1.alloc _, hbq.alloc (by omega) _, by omega⟩
            rw [hw0, hdd]
            clear hw0 hdd
            go_loopw [9] (fun i wq => ∃ (k : Nat), k ≤ 32 ∧ i = .int .i64 k ∧ Blk8 wq dd 39 (digK l k) ∧ Blk wq g 66 l ∧ Blk8 wq w.heap.size 39 (List.replicate 32 0) ∧ Below w.heap.size w wq) (fun i _ => 32 - (intOf i).toNat)
            case atStart => exact ⟨0, by omega, rfl, E0, E1, E2, E3⟩
            case round =>
              clear b0 b1 hbq E0 E1 E2 E3
              obtain ⟨k2, hk2, rfl, b0, b1, b2, hbel2⟩ := hrel
              by_cases hlt3 : k2 < 32
              · have ck := b0.cell k2 (by rw [digK_length l k2 hk2]; omega)
                have fk := b0.frozen8 k2
                have cg := b1.cell (k2 / 4) (by omega)
                generalize (digK l k2).getD k2 0 = old at *
                have HD : Kept (digK l (k2 + 1) = (digK l k2).set k2 (l.getD (k2 / 4) 0 / 2 ^ (24 - 8 * (k2 % 4)) % 256)) := ⟨(digK_step l k2 hlt3).symm⟩
                generalize l.getD (k2 / 4) 0 = x at *
                have HB0 := Kept.mk b0
                have HB1 := Kept.mk b1
                have HB2 := Kept.mk b2
                clear b0 b1 b2
                go_wp2
                go_roundw
                case rel =>
                  refine ⟨k2 + 1, by omega, by go_num, ?_, HB1.out.other (by omega) _, HB2.out.other (by omega) _, hbel2.setCell (by show w.heap.size ≤ dd; omega) _⟩
                  rw [HD.out]
                  exact HB0.out.set8 k2 _
                case measure => simp [intOf]; omega
              · obtain rfl : k2 = 32 := by omega
                rw [digK_all] at b0
                have hl32 : (digF l).length = 32 := digF_length l
                have HDL2 : Kept (digF (sumS ksK xs).list = digF l) := ⟨by rw [HLN.out]⟩
                generalize digF l = dl at *
                have HR1 := Kept.mk b0.range
                have HI1 : Kept ((Tryd.prog.info? 39).map (·.size) = some (cellsU8 dl).length) := ⟨by rw [cellsU8_length, hl32]; rfl⟩
                have HI2 : Kept ((Tryd.prog.info? 39).map (·.size) = some (cellsU8 dl).toArray.size) := ⟨by rw [List.size_toArray]; exact HI1.out⟩
                have HT1 : Kept (wr.there w.heap.size 0 (cellsU8 dl).toArray.size) := ⟨b2.there8 _ (by rw [List.size_toArray, cellsU8_length, hl32, List.length_replicate])⟩
                have HO1 := Kept.mk (all_oneCell_toArray (cellsU8_one dl))
                have HF1 : Kept (Blk8 (wr.setCells w.heap.size 0 (cellsU8 dl)) w.heap.size 39 dl ∧ Below w.heap.size w (wr.setCells w.heap.size 0 (cellsU8 dl))) := ⟨b2.over8 (by rw [hl32, List.length_replicate]), below_cells (Nat.le_refl _) _ 0 w wr hbel2⟩
                clear b0 b1 b2 hbel2
                go_wp2_with (first | (refine wpList_load_mid rfl 39 _ rfl dd 0 rfl (cellsU8 dl) _ HR1.out Tryd.underlying39 rfl HI1.out ?_) | (refine wpList_store_mid rfl 39 _ _ rfl w.heap.size 0 (cellsU8 dl).toArray rfl rfl HT1.out HI2.out HO1.out ?_))
                refine bodyPost_ret (v := .agg (cellsU8 dl).toArray) (results_cell_row (p := 2) (ty := 39) Tryd.results51 _ _ w.heap.size 39 _ (0, 0) _ rfl HF1.out.1 Tryd.underlying39 rfl HI2.out) rfl ⟨by rw [HDL2.out], HF1.out.2⟩
end Go.Proofs.YthkaohkondkhgaaDoor.Sh
