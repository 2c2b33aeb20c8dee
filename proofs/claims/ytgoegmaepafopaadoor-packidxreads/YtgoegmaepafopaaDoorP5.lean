/-
  Walks: rise.
-/
import Derived.Test.YtgoegmaepafopaaDoorPB
namespace Go.Proofs.YtgoegmaepafopaaDoor
open Go.RowKit

def Rise (rs : List RowC) : Prop := ∀ k, k + 1 < rs.length → Sh.cmpZ (rowI rs k).ids (rowI rs (k + 1)).ids < 0
def riseB (rs : List RowC) : Bool := (List.range (rs.length - 1)).all fun k => decide (Sh.cmpZ (rowI rs k).ids (rowI rs (k + 1)).ids < 0)
theorem riseB_iff (rs : List RowC) : riseB rs = true ↔ Rise rs := by
  unfold riseB Rise
  rw [List.all_eq_true]
  constructor
  · intro h k hk
    exact of_decide_eq_true (h k (by simp; omega))
  · intro h k hk
    exact decide_eq_true (h k (by simp at hk; omega))

set_option maxHeartbeats 1000000 in
set_option maxRecDepth 100000 in
theorem rise_any (v : Value) (rs : List RowC) (w : World) (hr : RdR w v rs) (hl : rs.length ≤ 1000000) :
    Calls Tryd.prog 22 #[v] w fun e w' => e = .returned (.bool (riseB rs)) ∧ Below w.heap.size w w' := by
  obtain ⟨a, c, rfl, hlc, hcm, hac, hok, hrd⟩ := hr
  have KR := Kept.mk hrd
  have KK := Kept.mk hok
  have KB := Kept.mk (riseB_iff rs)
  clear hrd hok
  generalize riseB rs = R at *
  go_enter Tryd.func22, Tryd.ntmps22
  go_wp2
  go_loopw [3] (fun iv wr => ∃ k : Nat, 1 ≤ k ∧ (k ≤ rs.length ∨ k = 1) ∧ iv = .int .i64 k ∧ (∀ j, j + 1 < rs.length → j + 1 < k → Sh.cmpZ (rowI rs j).ids (rowI rs (j + 1)).ids < 0) ∧ Below w.heap.size w wr) (fun iv _ => rs.length - (intOf iv).toNat)
  case atStart => exact ⟨1, Nat.le_refl _, .inr rfl, rfl, fun j h h' => absurd h' (by omega), Below.refl _ _⟩
  case round =>
    obtain ⟨k, hk1, hk, rfl, hall, hbel⟩ := hrel
    have KBr := Kept.mk hbel
    have KA := Kept.mk hall
    clear hall
    by_cases hlt : k < rs.length
    · have hki : (k : Int) < (rs.length : Int) := by omega
      obtain ⟨j, rfl⟩ : ∃ j, k = j + 1 := ⟨k - 1, by omega⟩
      have hjl : j < rs.length := by omega
      have hji : (j : Int) < (rs.length : Int) := by omega
      obtain ⟨b, off, rfl, hbl, hrg⟩ := KR.out (by omega)
      have hbr : b < wr.heap.size := Nat.lt_of_lt_of_le hbl hbel.size
      have hrow : ∀ W, CC wr W → ∀ i, i < rs.length → W.rangeAt b (off + i * 34) (cellsK .u8 (rowI rs i).ids) := fun W hW i hi => row_range32 fun j u hu => by
        rw [hW.cell (p := ⟨b, off + i * 34 + j, none⟩) hbr, hbel.cell (p := ⟨b, off + i * 34 + j, none⟩) hbl]
        exact hrg i hi j u hu
      have hR1 : Kept (∀ W, CC wr W → W.rangeAt b (off + j * 34) (cellsK .u8 (rowI rs j).ids)) := ⟨fun W hW => hrow W hW j hjl⟩
      have hR2 : Kept (∀ W, CC wr W → W.rangeAt b (off + (j + 1) * 34) (cellsK .u8 (rowI rs (j + 1)).ids)) := ⟨fun W hW => hrow W hW (j + 1) hlt⟩
      have hoA := rowI_ok KK.out hjl
      have hoB := rowI_ok KK.out hlt
      obtain ⟨O, hO⟩ : ∃ O, Sh.cmpZ (rowI rs j).ids (rowI rs (j + 1)).ids = O := ⟨_, rfl⟩
      have KO : Kept (∀ W, CC wr W → Calls Tryd.prog 33 #[.agg (cellsK .u8 (rowI rs j).ids).toArray, .agg (cellsK .u8 (rowI rs (j + 1)).ids).toArray] W fun e w' => e = .returned (.int .i64 O) ∧ CC wr w') := ⟨fun W hW => (Sh.compare_any _ _ W hoA.1 hoB.1 hoA.2.1 hoB.2.1).mono fun e w' hp => ⟨by rw [hp.1, hO], hW.on hp.2⟩⟩
      have KL : Kept (Sh.cmpZ (rowI rs j).ids (rowI rs (j + 1)).ids = O) := ⟨hO⟩
      have KI1 : Kept ((Tryd.prog.info? 24).map (·.size) = some (cellsK .u8 (rowI rs j).ids).length) := ⟨by rw [cellsK_length, hoA.1]; exact info_id⟩
      have KI2 : Kept ((Tryd.prog.info? 24).map (·.size) = some (cellsK .u8 (rowI rs (j + 1)).ids).length) := ⟨by rw [cellsK_length, hoB.1]; exact info_id⟩
      clear hbel hrow hrg hoA hoB
      have e1 : ((j + 1 : Nat) : Int) - 1 = (j : Int) := by omega
      have e2 : IntKind.i64.wrap (j : Int) = (j : Int) := wr64 (by omega) (by omega)
      have e3 : IntKind.i64.wrap (((j + 1 : Nat) : Int) + 1) = ((j + 1 : Nat) : Int) + 1 := wr64 (by omega) (by omega)
      generalize cellsK .u8 (rowI rs j).ids = LA at *
      generalize cellsK .u8 (rowI rs (j + 1)).ids = LB at *
      clear hO hbr hbl
      go_upto_region 4 with fail
      refine wp_region_quietC (C := CC wr) (by kernel_rfl) (by kernel_rfl) (Below.refl _ _).drew ?_
      go_big_quiet_step ((intro _; rfl))
      go_big_quiet_step ((intro _; rfl))
      refine BigFrame.wpQuiet_want rfl (fun K hK => quiet_run (v := .int .i64 (j : Int)) (fun W hW => by go_simp; all_goals rfl) (hK _ ?_))
      clear hK K
      simp only [Act.put, List.setIfInBounds_toArray, List.set_cons_zero, List.set_cons_succ]
      refine BigFrame.wpQuiet_want rfl (fun K hK => quiet_run (v := .pointer (some ⟨b, off + j * 34, none⟩)) (fun W hW => by go_simp; all_goals rfl) (hK _ ?_))
      clear hK K
      simp only [Act.put, List.setIfInBounds_toArray, List.set_cons_zero, List.set_cons_succ]
      refine BigFrame.wpQuiet_want rfl (fun K hK => quiet_run (v := .pointer (some ⟨b, off + j * 34, none⟩)) (fun W hW => by go_simp; all_goals rfl) (hK _ ?_))
      clear hK K
      simp only [Act.put, List.setIfInBounds_toArray, List.set_cons_zero, List.set_cons_succ]
      refine BigFrame.wpQuiet_want rfl (fun K hK => quiet_load_mid 24 _ rfl b (off + j * 34) rfl LA _ hR1.out Tryd.underlying24 rfl KI1.out (hK _ ?_))
      clear hK K
      simp only [Act.put, List.setIfInBounds_toArray, List.set_cons_zero, List.set_cons_succ]
      go_big_quiet_step ((intro _; rfl))
      go_big_quiet_step ((intro _; rfl))
      refine BigFrame.wpQuiet_want rfl (fun K hK => quiet_run (v := .pointer (some ⟨b, off + (j + 1) * 34, none⟩)) (fun W hW => by go_simp; all_goals first | rfl | (intro hneg; exfalso; omega)) (hK _ ?_))
      clear hK K
      simp only [Act.put, List.setIfInBounds_toArray, List.set_cons_zero, List.set_cons_succ]
      refine BigFrame.wpQuiet_want rfl (fun K hK => quiet_run (v := .pointer (some ⟨b, off + (j + 1) * 34, none⟩)) (fun W hW => by go_simp; all_goals rfl) (hK _ ?_))
      clear hK K
      simp only [Act.put, List.setIfInBounds_toArray, List.set_cons_zero, List.set_cons_succ]
      refine BigFrame.wpQuiet_want rfl (fun K hK => quiet_load_mid 24 _ rfl b (off + (j + 1) * 34) rfl LB _ hR2.out Tryd.underlying24 rfl KI2.out (hK _ ?_))
      clear hK K
      simp only [Act.put, List.setIfInBounds_toArray, List.set_cons_zero, List.set_cons_succ]
      go_big_quiet_step ((intro hCw; exact KO.out _ hCw))
      refine BigFrame.wpQuiet_want rfl (fun K hK => quiet_run (v := .bool (decide (0 ≤ O))) (fun W hW => by go_simp; all_goals rfl) (hK _ ?_))
      clear hK K
      simp only [Act.put, List.setIfInBounds_toArray, List.set_cons_zero, List.set_cons_succ]
      refine wpQuiet_nil ?_
      intro w3 hw3
      have KB3 := Kept.mk (KBr.out.trans (Below.mono hw3 KBr.out.size))
      clear hw3
      by_cases hge : 0 ≤ O
      · have hd : decide (0 ≤ O) = true := decide_eq_true hge
        have KF : Kept (R = false) := ⟨by
          cases R with
          | false => rfl
          | true => exact absurd (KB.out.1 rfl j hlt) (by rw [KL.out]; omega)⟩
        go_wp2
        go_ret
        exact ⟨by rw [KF.out]; rfl, KB3.out⟩
      · have hd : decide (0 ≤ O) = false := decide_eq_false hge
        go_wp2
        go_roundw
        case rel =>
          refine ⟨j + 1 + 1, by omega, .inl (by omega), by go_num, fun i h h' => ?_, KB3.out⟩
          rcases Nat.lt_or_ge (i + 1) (j + 1) with h2 | h2
          · exact KA.out i h h2
          · obtain rfl : i = j := by omega
            rw [KL.out]; omega
        case measure => simp [intOf]; omega
    · have hki : ¬ (k : Int) < (rs.length : Int) := by omega
      have KF : Kept (R = true) := ⟨KB.out.2 fun j h => KA.out j h (by omega)⟩
      clear hbel
      go_wp2
      go_ret
      exact ⟨by rw [KF.out]; rfl, KBr.out⟩


def fanE (rs : List RowC) : List Int := (List.range 256).map fun b => (cntE rs b : Int)
def fanM (rs : List RowC) (i : Nat) : List Int := (List.range 256).map fun b => if b < i then (cntL rs b : Int) else (cntE rs b : Int)
def fanV (rs : List RowC) : List Int := (List.range 256).map fun b => (cntL rs b : Int)
theorem map256_length (f : Nat → Int) : ((List.range 256).map f).length = 256 := by rw [List.length_map, List.length_range]
theorem map256_get (f : Nat → Int) {b : Nat} (hb : b < 256) : ((List.range 256).map f).getD b 0 = f b := by
  rw [List.getD, List.getElem?_map, List.getElem?_range hb]
  rfl
theorem map256_set (f g : Nat → Int) {b : Nat} (h : ∀ i, i < 256 → i ≠ b → f i = g i) (y : Int) (hy : b < 256 → y = g b) : ((List.range 256).map f).set b y = (List.range 256).map g := by
  apply List.ext_getElem
  · rw [List.length_set, List.length_map, List.length_map]
  · intro i h1 h2
    have hi : i < 256 := by rw [List.length_map, List.length_range] at h2; exact h2
    rw [List.getElem_set]
    split
    · rename_i e
      subst e
      rw [List.getElem_map, List.getElem_range]
      exact hy hi
    · rename_i e
      rw [List.getElem_map, List.getElem_range, List.getElem_map, List.getElem_range]
      exact h i hi (fun h => e h.symm)
theorem cntE_step (rs : List RowC) {k : Nat} (h : k < rs.length) (b : Nat) : cntE (rs.take (k + 1)) b = cntE (rs.take k) b + if (rowI rs k).ids.getD 0 0 = (b : Int) then 1 else 0 := by
  unfold cntE
  rw [List.take_add_one, List.getElem?_eq_getElem h, List.countP_append, rowI_get h]
  simp [List.countP_cons]
theorem fanE_step (rs : List RowC) {k : Nat} (h : k < rs.length) {f : Nat} (hf : (rowI rs k).ids.getD 0 0 = (f : Int)) (hf2 : f < 256) : (fanE (rs.take k)).set f ((fanE (rs.take k)).getD f 0 + 1) = fanE (rs.take (k + 1)) := by
  unfold fanE
  rw [map256_get _ hf2]
  refine map256_set _ _ (fun i _ hne => ?_) _ (fun _ => ?_)
  · rw [cntE_step rs h, if_neg (by rw [hf]; omega)]
    rfl
  · rw [cntE_step rs h, if_pos hf]
    rfl
theorem fanE_zero (rs : List RowC) : fanE (rs.take 0) = z256 := by
  unfold fanE z256
  rw [List.take_zero]
  apply List.ext_getElem
  · rw [List.length_map, List.length_range, List.length_replicate]
  · intro i h1 h2
    rw [List.getElem_map, List.getElem_replicate]
    rfl
theorem fanM_one {rs : List RowC} (h : ∀ r ∈ rs, r.ok) : fanM rs 1 = fanE rs := by
  unfold fanM fanE
  apply List.map_congr_left
  intro b _
  split
  · obtain rfl : b = 0 := by omega
    rw [cntL_zero h]
  · rfl
theorem fanM_step (rs : List RowC) {i : Nat} (h1 : 1 ≤ i) (h : i < 256) : (fanM rs i).set i ((fanM rs i).getD i 0 + (fanM rs i).getD (i - 1) 0) = fanM rs (i + 1) := by
  unfold fanM
  rw [map256_get _ h, map256_get _ (by omega), if_neg (by omega), if_pos (by omega)]
  refine map256_set _ _ (fun j _ hne => ?_) _ (fun _ => ?_)
  · by_cases hj : j < i
    · rw [if_pos hj, if_pos (by omega)]
    · rw [if_neg hj, if_neg (by omega)]
  · rw [if_pos (by omega)]
    have := cntL_step rs (i - 1)
    rw [show i - 1 + 1 = i by omega] at this
    rw [this]
    omega
theorem fanM_all (rs : List RowC) : fanM rs 256 = fanV rs := by
  unfold fanM fanV
  apply List.map_congr_left
  intro b hb
  rw [if_pos (by simpa using hb)]
theorem cntE_le (rs : List RowC) (b : Nat) : cntE rs b ≤ rs.length := List.countP_le_length
theorem fanM_range (rs : List RowC) (i b : Nat) (hb : b < 256) : 0 ≤ (fanM rs i).getD b 0 ∧ (fanM rs i).getD b 0 ≤ rs.length := by
  unfold fanM
  rw [map256_get _ hb]
  have h1 := cntL_le rs b
  have h2 := cntE_le rs b
  split <;> omega

set_option maxHeartbeats 2000000 in
set_option maxRecDepth 100000 in
theorem fanOf_any (v : Value) (rs : List RowC) (w : World) (hr : RdR w v rs) (hl : rs.length ≤ 1000000) :
    Calls Tryd.prog 23 #[v] w fun e w' => e = .returned (.agg (cellsK .u64 (fanV rs)).toArray) ∧ Below w.heap.size w w' := by
  obtain ⟨a, c, rfl, hlc, hcm, hac, hok, hrd⟩ := hr
  have KR := Kept.mk hrd
  have KK := Kept.mk hok
  clear hrd hok
  obtain ⟨w0, hw0, hb0, hb1, hs0, hB0⟩ := two_fans w
  have K0 := Kept.mk hb0
  have K1 := Kept.mk hb1
  have KB0 := Kept.mk hB0
  clear hb0 hb1 hB0
  go_enter Tryd.func23, Tryd.ntmps23
  go_upto_region 2 with fail
  clear hw0
  go_wp2_with fail
  go_loopw [9] (fun iv wr => ∃ k : Nat, k ≤ rs.length ∧ iv = .int .i64 k ∧ BlkK .u64 wr w.heap.size 61 z256 ∧ BlkK .u64 wr (w.heap.size + 1) 61 (fanE (rs.take k)) ∧ w.heap.size + 2 ≤ wr.heap.size ∧ Below w.heap.size w wr) (fun iv _ => rs.length - (intOf iv).toNat)
  case atStart => exact ⟨0, Nat.zero_le _, rfl, K0.out, by rw [fanE_zero]; exact K1.out, by omega, KB0.out⟩
  case round =>
    obtain ⟨k, hk, rfl, hbl0, hbl1, hsz, hbel⟩ := hrel
    have KB := Kept.mk hbel
    clear K0 K1 KB0 hs0
    by_cases hlt : k < rs.length
    · have hki : (k : Int) < (rs.length : Int) := by omega
      obtain ⟨b, off, rfl, hbl, hrg⟩ := KR.out (by omega)
      have hoR := rowI_ok KK.out hlt
      have hR : Kept (wr.rangeAt b (off + k * 34) (rowI rs k).l) := ⟨fun j u hu => by
        rw [hbel.cell (p := ⟨b, off + k * 34 + j, none⟩) hbl]
        exact hrg k hlt j u hu⟩
      obtain ⟨w2, hw2, hB2, hlt2, hh2, hcI, hcC, hcP, -⟩ := box_row wr 39 hoR
      have hc0 := hcI 0 (by omega)
      have hfb := hoR.2.1.getD (by omega) 0
      obtain ⟨f, hf⟩ : ∃ f : Nat, (rowI rs k).ids.getD 0 0 = (f : Int) := ⟨((rowI rs k).ids.getD 0 0).toNat, by omega⟩
      have hf2 : f < 256 := by omega
      have KSt := Kept.mk (fanE_step rs hlt hf hf2)
      have hb02 := hbl0.far hB2 (by omega)
      have hb12 := hbl1.far hB2 (by omega)
      have hfl : (fanE (rs.take k)).length = 256 := map256_length _
      have hcF := hb12.cell f (by rw [hfl]; exact hf2)
      have hfz := hb12.frozen f
      have hrgF : 0 ≤ (fanE (rs.take k)).getD f 0 ∧ (fanE (rs.take k)).getD f 0 ≤ 1000000 := by
        unfold fanE
        rw [map256_get _ hf2]
        have := cntE_le (rs.take k) f
        rw [List.length_take] at this
        omega
      have KL : Kept (∀ l, (rowI rs k).l = l → (Tryd.prog.info? 39).map (·.size) = some l.length) := ⟨fun l hl => by rw [← hl, RowC.len hoR]; exact info_row1⟩
      have KL2 : Kept ((rowI rs k).l.toArray.size = 34) := ⟨by rw [List.size_toArray]; exact RowC.len hoR⟩
      have KI2 : Kept ((Tryd.prog.info? 39).map (·.size) = some (rowI rs k).l.toArray.size) := ⟨by rw [KL2.out]; exact info_row1⟩
      have KO : Kept ((rowI rs k).l.toArray.all (·.oneCell') = true) := ⟨all_oneCell_toArray (RowC.ones _)⟩
      have KB2 := Kept.mk (hbel.trans (hB2.mono hbel.size))
      have hs2 : w.heap.size + 2 ≤ w2.heap.size := by omega
      have KI : Kept ((Tryd.prog.info? 39).map (·.size) = some (rowI rs k).l.length) := ⟨KL.out _ rfl⟩
      have Kb0 := Kept.mk hb02
      have Kb1 := Kept.mk hb12
      rw [hf] at hc0
      clear hbel hrg hoR hcI hcC hcP hB2 hh2 hbl0 hbl1 hfb hf KL hb02 hb12 hfl
      generalize (fanE (rs.take k)).getD f 0 = y at *
      generalize (rowI rs k).l = CL at *
      have e1 : IntKind.u64.wrap (y + 1) = y + 1 := wru64 (by omega) (by omega)
      have e2 : IntKind.i64.wrap ((k : Int) + 1) = (k : Int) + 1 := wr64 (by omega) (by omega)
      have e3 : (f : Int) < 256 := by omega
      go_wp2_with (first | (refine wpList_load_mid rfl 39 _ rfl b (off + k * 34) rfl CL _ hR.out Tryd.underlying39 rfl KI.out ?_) | (refine BigFrame.wpList_want rfl (fun K hK => wp_store_row 39 _ _ rfl wr.heap.size CL.toArray rfl rfl 39 _ (heap_alloc_new wr _) KI2.out (by rw [KL2.out]; rfl) KO.out (hK _ _ ?_)); rw [World.setRow_alloc_new]))
      go_roundw
      case rel => exact ⟨k + 1, by omega, by go_num, Kb0.out.other (by omega) _, by rw [← KSt.out]; exact Kb1.out.set f _, by simpa [World.setCell] using hs2, KB2.out.setCell (by show w.heap.size ≤ w.heap.size + 1; omega) _⟩
      case measure => simp [intOf]; omega
    · have hki : ¬ (k : Int) < (rs.length : Int) := by omega
      obtain rfl : k = rs.length := by omega
      rw [List.take_length, ← fanM_one KK.out] at hbl1
      have K0 := Kept.mk hbl0
      have K1 := Kept.mk hbl1
      clear hbl0 hbl1 hbel
      go_wp2_with fail
      go_loopw [6] (fun iv wq => ∃ i : Nat, 1 ≤ i ∧ i ≤ 256 ∧ iv = .int .i64 i ∧ BlkK .u64 wq w.heap.size 61 z256 ∧ BlkK .u64 wq (w.heap.size + 1) 61 (fanM rs i) ∧ Below w.heap.size w wq) (fun iv _ => 256 - (intOf iv).toNat)
      case atStart => exact ⟨1, by omega, by omega, rfl, K0.out, K1.out, KB.out⟩
      case round =>
        clear K0 K1 KB hsz
        obtain ⟨i, hi1, hi, rfl, hbl0, hbl1, hbel⟩ := hrel
        have KB := Kept.mk hbel
        have K0 := Kept.mk hbl0
        have K1 := Kept.mk hbl1
        clear hbel hbl0 hbl1
        have hfl : (fanM rs i).length = 256 := map256_length _
        by_cases hlt : i < 256
        · have hki : (i : Int) < 256 := by omega
          have c1 := K1.out.cell i (by rw [hfl]; omega)
          obtain ⟨j, rfl⟩ : ∃ j, i = j + 1 := ⟨i - 1, by omega⟩
          have c2 := K1.out.cell j (by rw [hfl]; omega)
          have f1 := K1.out.frozen (j + 1)
          have hr1 := fanM_range rs (j + 1) (j + 1) (by omega)
          have hr2 := fanM_range rs (j + 1) j (by omega)
          have KSt := Kept.mk (fanM_step rs (i := j + 1) (by omega) (by omega))
          rw [show j + 1 - 1 = j from rfl] at KSt
          clear hfl
          generalize (fanM rs (j + 1)).getD (j + 1) 0 = y1 at *
          generalize (fanM rs (j + 1)).getD j 0 = y2 at *
          have m1 : ((j + 1 : Nat) : Int) - 1 = (j : Int) := by omega
          have m2 : IntKind.i64.wrap (j : Int) = (j : Int) := wr64 (by omega) (by omega)
          have m3 : (j : Int) < 256 := by omega
          have e1 : IntKind.u64.wrap (y1 + y2) = y1 + y2 := wru64 (by omega) (by omega)
          go_upto_region 10 with fail
          refine wp_region_last _ 9 (by kernel_rfl) (by kernel_rfl) rfl rfl ?_
          simp only [List.take_succ_cons, List.take_zero]
          repeat (go_big_quiet_step (fail))
          refine wpQuiet_nil ?_
          intro m
          go_wp2
          go_roundw
          case rel => exact ⟨j + 1 + 1, by omega, by omega, by go_num, (K0.out.drewN m).other (by omega) _, by rw [← KSt.out]; exact (K1.out.drewN m).set (j + 1) _, (below_drewN KB.out m).setCell (by show w.heap.size ≤ w.heap.size + 1; omega) _⟩
          case measure => simp [intOf]; omega
        · obtain rfl : i = 256 := by omega
          have K2 : Kept (BlkK .u64 wr (w.heap.size + 1) 61 (fanV rs)) := ⟨by rw [← fanM_all]; exact K1.out⟩
          have hfv : (fanV rs).length = 256 := map256_length _
          have HR := Kept.mk K2.out.range
          have HT := Kept.mk (K0.out.there (cellsK .u64 (fanV rs)).toArray.size (by rw [List.size_toArray, cellsK_length, hfv, z256_length]))
          have HI : Kept ((Tryd.prog.info? 61).map (·.size) = some (cellsK .u64 (fanV rs)).length) := ⟨by rw [cellsK_length, hfv]; exact info_fan⟩
          have HI2 : Kept ((Tryd.prog.info? 61).map (·.size) = some (cellsK .u64 (fanV rs)).toArray.size) := ⟨by rw [List.size_toArray]; exact HI.out⟩
          have HO := Kept.mk (cellsK_all .u64 (fanV rs))
          have HF := Kept.mk (K0.out.over (ws := fanV rs) (by rw [hfv, z256_length]))
          have HBf := Kept.mk (Sh.below_cells (b := w.heap.size) (Nat.le_refl _) (cellsK .u64 (fanV rs)) 0 w wr KB.out)
          clear K0 K1 K2 KB hfl hfv
          generalize hF : fanV rs = F at *
          have KF := Kept.mk hF
          clear hF
          go_wp2_with (first | (refine wpList_load_mid rfl 61 _ rfl (w.heap.size + 1) 0 rfl (cellsK .u64 F) _ HR.out Tryd.underlying61 rfl HI.out ?_) | (refine wpList_store_mid rfl 61 _ _ rfl w.heap.size 0 (cellsK .u64 F).toArray rfl rfl HT.out HI2.out HO.out ?_))
          refine bodyPost_ret (v := .agg (cellsK .u64 F).toArray) (results_cell_row (p := 2) (ty := 61) Tryd.results23 _ _ w.heap.size 61 _ (0, 0) _ rfl HF.out Tryd.underlying61 rfl HI2.out) rfl ⟨by rw [KF.out], HBf.out⟩


theorem fanV_get (rs : List RowC) {b : Nat} (hb : b < 256) : (fanV rs).getD b 0 = (cntL rs b : Int) := map256_get _ hb
theorem cellsK_at (k : IntKind) (xs : List Int) (i : Nat) (h : i < xs.length) : (cellsK k xs).toArray[i]? = some (.int k (xs.getD i 0)) := by
  simp [cellsK, List.getD, List.getElem?_eq_getElem h]

set_option maxRecDepth 100000 in
theorem agg_u64 (W : World) : (isAgg 37).run Tryd.prog W = .ok false W := by kernel_rfl
set_option maxRecDepth 100000 in
theorem size_u64 (W : World) : (Go.sizeOf 37).run Tryd.prog W = .ok 1 W := by kernel_rfl
theorem run_index_fan {AV : Array Value} {k : Nat} {y : Int} (h : AV[k]? = some (.int .u64 y)) (hk : k < 256) (W : World) : (Instr.index 61 (.agg AV) (.int .i64 (k : Int))).run Tryd.prog W = .ok (.int .u64 y) W := by
  have hr : 0 ≤ (k : Int) ∧ (k : Int) < ((256 : Nat) : Int) := ⟨by omega, by omega⟩
  unfold Instr.index part
  simp only [asIntOf, Sem.run_bind, Sem.run_pure, Result.andThen_ok, run_underlying Tryd.underlying61, if_pos hr, size_u64, agg_u64, Int.toNat_natCast, Nat.mul_one, h]
  rfl

set_option maxHeartbeats 1000000 in
set_option maxRecDepth 100000 in
theorem appendFan_any (v p : Value) (xs : List Int) (rs : List RowC) (w : World) (base : Nat) (ho : Apd w base p xs) (hbw : base ≤ w.heap.size) (hr : RdR w v rs) (hl : rs.length ≤ 4096) (hx : xs.length ≤ 1000000) :
    Calls Tryd.prog 38 #[p, v] w fun e w' => ∃ v', e = .returned v' ∧ Own .u8 5 w' base v' (xs ++ fanB rs 256) ∧ Gb p.ownBlock w w' v' := by
  have KC := Kept.mk (fanOf_any v rs w hr (by omega))
  have KO := Kept.mk ho
  obtain ⟨pa, pc, rfl⟩ := ho.form
  obtain ⟨a, c, rfl, -, -, -, -, -⟩ := hr
  clear ho
  have hfl : (fanV rs).length = 256 := map256_length _
  have KF : Kept (∀ k, k < 256 → (cellsK .u64 (fanV rs)).toArray[k]? = some (.int .u64 (cntL rs k : Int))) := ⟨fun k hk => by rw [cellsK_at _ _ _ (by rw [hfl]; exact hk), fanV_get rs hk]⟩
  clear hfl
  generalize (cellsK .u64 (fanV rs)).toArray = AV at *
  go_enter Tryd.func38, Tryd.ntmps38
  go_wp2_with fail
  refine Calls.mono KC.out (fun e w1 hp => ?_)
  obtain ⟨rfl, hb1⟩ := hp
  have KO1 := Kept.mk (KO.out.later hb1 (Nat.le_refl _))
  have KG1 := Kept.mk (Gb.of_below (v := .slice pa xs.length pc) hb1)
  clear hb1
  go_wp2_with fail
  go_loopw [0, 9] (fun ov iv wr => ∃ k : Nat, k ≤ 256 ∧ iv = .int .i64 k ∧ Apd wr base ov (xs ++ fanB rs k) ∧ (0 < k → Own .u8 5 wr base ov (xs ++ fanB rs k)) ∧ Gb (Value.slice pa xs.length pc).ownBlock w wr ov) (fun _ iv _ => 256 - (intOf iv).toNat)
  case atStart => exact ⟨0, by omega, rfl, by simpa [fanB, accL] using KO1.out, (fun h => absurd h (by omega)), KG1.out⟩
  case round =>
    obtain ⟨k, hk, rfl, how, hpo, hg⟩ := hrel
    have hbwr := Nat.le_trans hbw hg.size
    have KG := Kept.mk hg
    have KOw := Kept.mk how
    have KPo := Kept.mk hpo
    obtain ⟨oa, oc, rfl⟩ := how.form
    clear hg how hpo KO KO1 KG1
    have hlen := fanB_len rs k
    by_cases hlt : k < 256
    · have hki : (k : Int) < 256 := by omega
      have hcl := cntL_le rs k
      have KCn := Kept.mk (appendNumber_apd _ (xs ++ fanB rs k) (cntL rs k : Int) 4 wr base KOw.out hbwr (by omega) (by omega) (by omega) (by omega) (by omega) (by simp [hlen]; omega))
      have KSt : Kept (fanB rs (k + 1) = fanB rs k ++ Nu.bigF 4 (cntL rs k : Int)) := ⟨accL_succ _ _⟩
      have hAV := fun W => run_index_fan (KF.out k hlt) hlt W
      clear hlen hcl
      generalize (cntL rs k : Int) = y at *
      generalize hZ : xs ++ fanB rs k = Z at *
      have KZ := Kept.mk hZ
      clear hZ
      go_wp2_with fail
      refine Calls.mono KCn.out (fun e w2 hp => ?_)
      obtain ⟨v2, rfl, hO2, hG2⟩ := hp
      have KO2 := Kept.mk hO2
      have KG2 := Kept.mk (KG.out.trans hG2)
      clear hO2 hG2
      go_wp2
      go_roundw
      case rel => exact ⟨k + 1, by omega, by go_num, .inl (by rw [KSt.out, ← List.append_assoc, KZ.out]; exact KO2.out), (fun _ => by rw [KSt.out, ← List.append_assoc, KZ.out]; exact KO2.out), KG2.out⟩
      case measure => simp [intOf]; omega
    · obtain rfl : k = 256 := by omega
      go_wp2
      go_ret
      exact ⟨_, rfl, KPo.out (by omega), KG.out⟩
end Go.Proofs.YtgoegmaepafopaaDoor
