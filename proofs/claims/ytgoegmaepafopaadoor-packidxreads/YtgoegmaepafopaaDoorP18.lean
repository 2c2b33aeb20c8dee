/-
  Walks: BinarySearchFunc, Find.
-/
import Derived.Test.YtgoegmaepafopaaDoorP16
namespace Go.Proofs.YtgoegmaepafopaaDoor
open Go.RowKit Go.Sort

set_option maxHeartbeats 1000000 in
set_option maxRecDepth 100000 in
theorem closure2_any {r : RowC} (hr : r.ok) {id : List Int} (hid : id.length = 32) (hA : AllB id) (w : World) : Calls Tryd.prog 32 #[.agg r.l.toArray, .agg (cellsK .u8 id).toArray] w fun e w' => e = .returned (.int .i64 (Sh.cmpZ r.ids id)) ∧ Below w.heap.size w w' := by
  obtain ⟨w1, hw1, hB1, hlt1, hh1, -, -, -, -⟩ := box_row w 39 hr
  obtain ⟨w2, hw2, hB2, hs2, hbk2⟩ := box_id w1 id
  have hs1 : w1.heap.size = w.heap.size + 1 := by rw [← hw1]; simp
  have hR1 : Kept (w2.rangeAt w.heap.size 0 (cellsK .u8 r.ids)) := ⟨row_range32 fun j u hu => by
    rw [hB2.cell (p := ⟨w.heap.size, 0 + j, none⟩) hlt1, Nat.zero_add, cell_of_row w1 _ j _ _ (0, 0) hh1]
    simpa using hu⟩
  have hR2 : Kept (w2.rangeAt (w.heap.size + 1) 0 (cellsK .u8 id)) := ⟨by have := hbk2.range; rwa [hs1] at this⟩
  have KC := Kept.mk (Sh.compare_any r.ids id w2 hr.1 hid hr.2.1 hA)
  have KI1 := Kept.mk (id_infoL hr.1)
  have KI2 := Kept.mk (id_infoL hid)
  have KB := Kept.mk (hB1.trans (hB2.mono hB1.size))
  have z1 := RowC.len hr
  have z2 : (cellsK .u8 id).length = 32 := by rw [cellsK_length, hid]
  rw [← cells_ids, ← cells_ids] at KC
  clear hB1 hB2 hlt1 hh1 hr hbk2
  generalize Sh.cmpZ r.ids id = z at *
  generalize cellsK .u8 r.ids = LA at *
  generalize cellsK .u8 id = LB at *
  generalize r.l = CA at *
  go_enter Tryd.func32, Tryd.ntmps32
  go_upto_region 1 with fail
  go_wp2_with (first | (refine wpList_load_mid rfl 24 _ rfl w.heap.size 0 rfl LA _ hR1.out Tryd.underlying24 rfl KI1.out ?_) | (refine wpList_load_mid rfl 24 _ rfl (w.heap.size + 1) 0 rfl LB _ hR2.out Tryd.underlying24 rfl KI2.out ?_))
  refine Calls.mono KC.out (fun e w3 hp => ?_)
  obtain ⟨rfl, hb3⟩ := hp
  have KB3 := Kept.mk (KB.out.trans (hb3.mono KB.out.size))
  clear hb3
  go_wp2
  go_ret
  exact ⟨rfl, KB3.out⟩

def BsEnd (rs : List RowC) (id : List Int) (w w' : World) (e : Ending) : Prop := ∃ i : Nat, i ≤ rs.length ∧ e = .returned (.tuple #[.int .i64 i, .bool (decide (i < rs.length ∧ (rowI rs i).ids = id))]) ∧ (∀ j, j < i → Sh.cmpZ (rowI rs j).ids id < 0) ∧ (∀ j, i ≤ j → j < rs.length → 0 ≤ Sh.cmpZ (rowI rs j).ids id) ∧ Below w.heap.size w w'
theorem rise_lt {rs : List RowC} (h : Rise rs) {i j : Nat} (hij : i < j) (hj : j < rs.length) : Sh.cmpZ (rowI rs i).ids (rowI rs j).ids < 0 := by
  have := (List.pairwise_iff_getElem.1 (rise_pair h)) i j (by omega) hj hij
  rwa [rowI_get (by omega), rowI_get hj]

set_option maxHeartbeats 2000000 in
set_option maxRecDepth 100000 in
theorem bsearch_any (v : Value) (rs : List RowC) (id : List Int) (w : World) (hr : RdR w v rs) (hid : id.length = 32) (hA : AllB id) (hl : rs.length ≤ 1000000) (hri : Rise rs) :
    Calls Tryd.prog 31 #[v, .agg (cellsK .u8 id).toArray, .func (.func 32) #[] #[]] w fun e w' => BsEnd rs id w w' e := by
  obtain ⟨a, c, rfl, hlc, hcm, hac, hok, hrd⟩ := hr
  obtain ⟨w0, hw0, hB0, hs0, hbk0⟩ := box_id w id
  have KR := Kept.mk hrd
  have KK := Kept.mk hok
  have KRi := Kept.mk hri
  have KB0 := Kept.mk hB0
  have Kk0 := Kept.mk hbk0
  have z2 : (cellsK .u8 id).toArray.size = 32 := by rw [List.size_toArray, cellsK_length, hid]
  have KIi := Kept.mk (id_infoL hid)
  have KCl : Kept (∀ k, k < rs.length → ∀ W, Calls Tryd.prog 32 #[.agg (rowI rs k).l.toArray, .agg (cellsK .u8 id).toArray] W fun e w' => e = .returned (.int .i64 (Sh.cmpZ (rowI rs k).ids id)) ∧ Below W.heap.size W w') := ⟨fun k hk W => closure2_any (rowI_ok hok hk) hid hA W⟩
  clear hrd hok hri hB0 hbk0
  go_enter Tryd.func31, Tryd.ntmps31
  go_wp2_with fail
  clear hw0
  go_loopw [9, 10] (fun lo hi wr => ∃ i j : Nat, i ≤ j ∧ j ≤ rs.length ∧ lo = .int .i64 i ∧ hi = .int .i64 j ∧ (∀ k, k < i → Sh.cmpZ (rowI rs k).ids id < 0) ∧ (∀ k, j ≤ k → k < rs.length → ¬ Sh.cmpZ (rowI rs k).ids id < 0) ∧ Below w0.heap.size w0 wr) (fun lo hi _ => (intOf hi - intOf lo).toNat)
  case atStart => exact ⟨0, rs.length, Nat.zero_le _, Nat.le_refl _, rfl, rfl, (fun k hk => by omega), (fun k h1 h2 => by omega), Below.refl _ _⟩
  case round =>
    obtain ⟨i, j, hij, hj, rfl, rfl, hlo, hhi, hbel⟩ := hrel
    have KLo := Kept.mk hlo
    have KHi := Kept.mk hhi
    have KB := Kept.mk hbel
    have Kbk := Kept.mk (Kk0.out.far hbel (by omega))
    have KIdR : Kept (∀ W, CC wr W → W.rangeAt w.heap.size 0 (cellsK .u8 id)) := ⟨fun W hW => ((Kk0.out.far hbel (by omega)).far hW (by have := hbel.size; omega)).range⟩
    have hRow : ∀ k, k < rs.length → ∃ b off, a = some ⟨b, off, none⟩ ∧ ∀ W, CC wr W → W.rangeAt b (off + k * 34) (rowI rs k).l := fun k hk => by
      obtain ⟨b, off, ha, hbl, hrg⟩ := KR.out (by omega)
      refine ⟨b, off, ha, fun W hW q u hu => ?_⟩
      have h1 : b < w0.heap.size := by omega
      rw [hW.cell (p := ⟨b, off + k * 34 + q, none⟩) (Nat.lt_of_lt_of_le h1 hbel.size), hbel.cell (p := ⟨b, off + k * 34 + q, none⟩) h1, KB0.out.cell (p := ⟨b, off + k * 34 + q, none⟩) hbl]
      exact hrg k hk q u hu
    clear hlo hhi hbel
    by_cases hlt : i < j
    · have hd : (i : Int) < (j : Int) := by omega
      obtain ⟨m, hm⟩ : ∃ m, (i + j) / 2 = m := ⟨_, rfl⟩
      have hm1 : i ≤ m ∧ m < j := by omega
      obtain ⟨b, off, rfl, hrg⟩ := hRow m (by omega)
      have KRg := Kept.mk hrg
      have KL34 := Kept.mk (RowC.len (rowI_ok KK.out (show m < rs.length by omega)))
      have KIr : Kept ((Tryd.prog.info? 39).map (·.size) = some (rowI rs m).l.length) := ⟨by rw [KL34.out]; exact info_row1⟩
      obtain ⟨O, hO⟩ : ∃ O, Sh.cmpZ (rowI rs m).ids id = O := ⟨_, rfl⟩
      have KO := Kept.mk hO
      have KC : Kept (∀ W, CC wr W → Calls Tryd.prog 32 #[.agg (rowI rs m).l.toArray, .agg (cellsK .u8 id).toArray] W fun e w' => e = .returned (.int .i64 O) ∧ CC wr w') := ⟨fun W hW => (KCl.out m (by omega) W).mono fun e w' hp => ⟨by rw [hp.1, hO], hW.on hp.2⟩⟩
      have e1 : IntKind.i64.wrap ((i : Int) + (j : Int)) = (i : Int) + (j : Int) := wr64 (by omega) (by omega)
      have e2 : IntKind.u64.wrap ((i : Int) + (j : Int)) = (i : Int) + (j : Int) := wru64 (by omega) (by omega)
      have e3 : ((i : Int) + (j : Int)) / 2 = (m : Int) := by omega
      have e4 : IntKind.i64.wrap (m : Int) = (m : Int) := wr64 (by omega) (by omega)
      have e5 : IntKind.u64.wrap (m : Int) = (m : Int) := wru64 (by omega) (by omega)
      have e6 : (m : Int) < (rs.length : Int) := by omega
      have e7 : IntKind.i64.wrap ((m : Int) + 1) = (m : Int) + 1 := wr64 (by omega) (by omega)
      have Km := Kept.mk hm1
      clear hm hO hRow hrg hm1
      generalize hRL : (rowI rs m).l = RL at *
      clear hRL
      generalize hIL : cellsK .u8 id = IL at *
      clear hIL
      go_upto_region 5 with fail
      refine wp_region_quietC (C := CC wr) (by kernel_rfl) (by kernel_rfl) (Below.refl _ _).drew ?_
      go_big_quiet_step ((intro _; rfl))
      go_big_quiet_step ((intro _; rfl))
      go_big_quiet_step ((intro _; rfl))
      refine BigFrame.wpQuiet_want rfl (fun K hK => quiet_run (v := .pointer (some ⟨b, off + m * 34, none⟩)) (fun W hW => by go_simp; all_goals rfl) (hK _ ?_))
      clear hK K
      simp only [Act.put, List.setIfInBounds_toArray, List.set_cons_zero, List.set_cons_succ]
      refine BigFrame.wpQuiet_want rfl (fun K hK => quiet_load_mid 39 _ rfl b (off + m * 34) rfl RL _ KRg.out Tryd.underlying39 rfl KIr.out (hK _ ?_))
      clear hK K
      simp only [Act.put, List.setIfInBounds_toArray, List.set_cons_zero, List.set_cons_succ]
      refine BigFrame.wpQuiet_want rfl (fun K hK => quiet_load_mid 24 _ rfl w.heap.size 0 rfl IL _ KIdR.out Tryd.underlying24 rfl KIi.out (hK _ ?_))
      clear hK K
      simp only [Act.put, List.setIfInBounds_toArray, List.set_cons_zero, List.set_cons_succ]
      go_big_quiet_step ((intro hCw; exact KC.out _ hCw))
      refine BigFrame.wpQuiet_want rfl (fun K hK => quiet_run (v := .bool (decide (O < 0))) (fun W hW => by go_simp; all_goals rfl) (hK _ ?_))
      clear hK K
      simp only [Act.put, List.setIfInBounds_toArray, List.set_cons_zero, List.set_cons_succ]
      refine wpQuiet_nil ?_
      intro w3 hw3
      have KB3 := Kept.mk (KB.out.trans (Below.mono hw3 KB.out.size))
      clear hw3
      by_cases hge : O < 0
      · have hdO : decide (O < 0) = true := decide_eq_true hge
        go_wp2
        go_roundw
        case rel =>
          have := Km.out
          refine ⟨m + 1, j, by omega, hj, by go_num, rfl, fun k hk => ?_, KHi.out, KB3.out⟩
          rcases Nat.lt_or_ge k m with h2 | h2
          · exact cmpZ_lt_trans (rise_lt KRi.out h2 (by omega)) (by rw [KO.out]; exact hge)
          · obtain rfl : k = m := by omega
            rw [KO.out]; exact hge
        case measure => have := Km.out; simp [intOf]; omega
      · have hdO : decide (O < 0) = false := decide_eq_false hge
        go_wp2
        go_roundw
        case rel =>
          have := Km.out
          refine ⟨i, m, by omega, by omega, rfl, rfl, KLo.out, fun k hk hkl => ?_, KB3.out⟩
          rcases Nat.lt_or_ge m k with h2 | h2
          · intro hc
            have := cmpZ_lt_trans (rise_lt KRi.out h2 hkl) hc
            rw [KO.out] at this
            omega
          · obtain rfl : k = m := by omega
            rw [KO.out]; exact hge
        case measure => have := Km.out; simp [intOf]; omega
    · have hd : ¬ (i : Int) < (j : Int) := by omega
      obtain rfl : i = j := by omega
      have KBf := Kept.mk (KB0.out.trans (KB.out.mono KB0.out.size))
      by_cases hn : i < rs.length
      · have hdn : decide ((i : Int) < (rs.length : Int)) = true := decide_eq_true (by omega)
        have hdi : (i : Int) < (rs.length : Int) := by omega
        obtain ⟨b, off, rfl, hrg⟩ := hRow i hn
        have KRg := Kept.mk hrg
        have KL34 := Kept.mk (RowC.len (rowI_ok KK.out hn))
        have KIr : Kept ((Tryd.prog.info? 39).map (·.size) = some (rowI rs i).l.length) := ⟨by rw [KL34.out]; exact info_row1⟩
        obtain ⟨O, hO⟩ : ∃ O, Sh.cmpZ (rowI rs i).ids id = O := ⟨_, rfl⟩
        have KO := Kept.mk hO
        have KC : Kept (∀ W, CC wr W → Calls Tryd.prog 32 #[.agg (rowI rs i).l.toArray, .agg (cellsK .u8 id).toArray] W fun e w' => e = .returned (.int .i64 O) ∧ CC wr w') := ⟨fun W hW => (KCl.out i hn W).mono fun e w' hp => ⟨by rw [hp.1, hO], hW.on hp.2⟩⟩
        have Kn := Kept.mk hn
        clear hO hRow hrg hn
        generalize hRL : (rowI rs i).l = RL at *
        clear hRL
        generalize hIL : cellsK .u8 id = IL at *
        clear hIL
        go_upto_region 8 with fail
        refine wp_region_quietC (C := CC wr) (by kernel_rfl) (by kernel_rfl) (Below.refl _ _).drew ?_
        go_big_quiet_step ((intro _; rfl))
        go_big_quiet_step ((intro _; rfl))
        go_big_quiet_step ((intro _; rfl))
        refine BigFrame.wpQuiet_want rfl (fun K hK => quiet_run (v := .bool true) (fun W hW => by go_simp; all_goals rfl) (hK _ ?_))
        clear hK K
        simp only [Act.put, List.setIfInBounds_toArray, List.set_cons_zero, List.set_cons_succ]
        go_big_quiet_step ((intro _; rfl))
        go_big_quiet_step ((intro _; rfl))
        go_big_quiet_step ((intro _; rfl))
        go_big_quiet_step ((intro _; rfl))
        refine BigFrame.wpQuiet_want rfl (fun K hK => quiet_run (v := .pointer (some ⟨b, off + i * 34, none⟩)) (fun W hW => by go_simp; all_goals rfl) (hK _ ?_))
        clear hK K
        simp only [Act.put, List.setIfInBounds_toArray, List.set_cons_zero, List.set_cons_succ]
        refine BigFrame.wpQuiet_want rfl (fun K hK => quiet_load_mid 39 _ rfl b (off + i * 34) rfl RL _ KRg.out Tryd.underlying39 rfl KIr.out (hK _ ?_))
        clear hK K
        simp only [Act.put, List.setIfInBounds_toArray, List.set_cons_zero, List.set_cons_succ]
        refine BigFrame.wpQuiet_want rfl (fun K hK => quiet_load_mid 24 _ rfl w.heap.size 0 rfl IL _ KIdR.out Tryd.underlying24 rfl KIi.out (hK _ ?_))
        clear hK K
        simp only [Act.put, List.setIfInBounds_toArray, List.set_cons_zero, List.set_cons_succ]
        go_big_quiet_step ((intro hCw; exact KC.out _ hCw))
        refine BigFrame.wpQuiet_want rfl (fun K hK => quiet_run (v := .bool (O == 0)) (fun W hW => by go_simp; all_goals rfl) (hK _ ?_))
        clear hK K
        simp only [Act.put, List.setIfInBounds_toArray, List.set_cons_zero, List.set_cons_succ]
        refine BigFrame.wpQuiet_want rfl (fun K hK => quiet_run (v := .bool (O == 0)) (fun W hW => by go_simp; all_goals rfl) (hK _ ?_))
        clear hK K
        simp only [Act.put, List.setIfInBounds_toArray, List.set_cons_zero, List.set_cons_succ]
        go_big_quiet_step ((intro _; rfl))
        go_big_quiet_step ((intro _; rfl))
        refine wpQuiet_nil ?_
        intro w3 hw3
        have KB3 := Kept.mk (KBf.out.trans (Below.mono hw3 KBf.out.size))
        clear hw3
        have KD : Kept ((O == 0) = decide (i < rs.length ∧ (rowI rs i).ids = id)) := ⟨by
          rw [Bool.eq_iff_iff]
          simp only [beq_iff_eq, decide_eq_true_eq]
          constructor
          · intro h0
            exact ⟨Kn.out, cmpZ_zero (by rw [KO.out]; exact h0)⟩
          · rintro ⟨-, h0⟩
            rw [← KO.out, h0, cmpZ_self]⟩
        go_wp2
        go_ret2
        exact ⟨i, by omega, by rw [KD.out]; rfl, KLo.out, KHi.out, KB3.out⟩
      · have hdn : decide ((i : Int) < (rs.length : Int)) = false := decide_eq_false (by omega)
        go_upto_region 8 with fail
        refine wp_region_quietC (C := CC wr) (by kernel_rfl) (by kernel_rfl) (Below.refl _ _).drew ?_
        go_big_quiet_step ((intro _; rfl))
        go_big_quiet_step ((intro _; rfl))
        go_big_quiet_step ((intro _; rfl))
        refine BigFrame.wpQuiet_want rfl (fun K hK => quiet_run (v := .bool false) (fun W hW => by go_simp; all_goals rfl) (hK _ ?_))
        clear hK K
        simp only [Act.put, List.setIfInBounds_toArray, List.set_cons_zero, List.set_cons_succ]
        go_big_quiet_step ((intro _; rfl))
        repeat (go_big_quiet_step ((intro _; rfl)))
        refine wpQuiet_nil ?_
        intro w3 hw3
        have KB3 := Kept.mk (KBf.out.trans (Below.mono hw3 KBf.out.size))
        clear hw3
        have KD : Kept (false = decide (i < rs.length ∧ (rowI rs i).ids = id)) := ⟨(decide_eq_false (fun h => hn h.1)).symm⟩
        go_wp2
        go_ret2
        exact ⟨i, by omega, by rw [← KD.out]; rfl, KLo.out, KHi.out, KB3.out⟩

open Go.RowKit Go.Sort

def fndE (p id : List Int) : Int := if prsE p ≠ 0 then prsE p else if (prsL p).any (fun r => decide (r.ids = id)) = true then 0 else 7
def FndEnd (p id : List Int) (w w' : World) (e : Ending) : Prop := ∃ r : RowC, e = .returned (.tuple #[.agg r.l.toArray, .int .i64 (fndE p id)]) ∧ r.ok ∧ (fndE p id = 0 → r ∈ prsL p ∧ r.ids = id) ∧ (fndE p id ≠ 0 → r = default) ∧ Below w.heap.size w w'
/-- A row's block. -/
def BlkR (w : World) (b : Nat) (t : TypeId) (r : RowC) : Prop := w.heap[b]? = some (.cells r.l.toArray t)
theorem BlkR.far {w w' : World} {b B : Nat} {t : TypeId} {r : RowC} (h : BlkR w b t r) (hb : Below B w w') (hlt : b < B) : BlkR w' b t r := by
  unfold BlkR at h ⊢
  rw [hb.block b hlt]
  exact h
theorem row_info1 {r : RowC} (h : r.ok) : (Tryd.prog.info? 39).map (·.size) = some r.l.toArray.size := by rw [List.size_toArray, RowC.len h]; exact info_row1
theorem row_infoL1 {r : RowC} (h : r.ok) : (Tryd.prog.info? 39).map (·.size) = some r.l.length := by rw [RowC.len h]; exact info_row1
theorem row_size {r : RowC} (h : r.ok) : r.l.toArray.size = 34 := by rw [List.size_toArray, RowC.len h]
theorem prsE_rise {p : List Int} (h : prsE p = 0) : Rise (prsL p) := by
  unfold prsL
  rw [if_pos h]
  unfold prsE at h
  by_cases h1 : (cntS p).2 ≠ 0
  · rw [if_pos h1] at h; exact absurd h h1
  · rw [if_neg h1] at h
    by_cases h2 : sizeE p (cntS p).1.toNat ≠ 0
    · rw [if_pos h2] at h; exact absurd h h2
    · rw [if_neg h2] at h
      by_cases h3 : seg p (p.length - 32) 32 ≠ sumB (p.take (p.length - 32))
      · rw [if_pos h3] at h; omega
      · rw [if_neg h3] at h
        by_cases h4 : namedB p (cntS p).1.toNat = true ∧ riseB (rowsR p (cntS p).1.toNat) = true ∧ fanV (rowsR p (cntS p).1.toNat) = fanRL p
        · exact (riseB_iff _).1 h4.2.1
        · rw [if_neg h4] at h; omega
theorem prsL_len {p : List Int} (hA : AllB p) : (prsL p).length ≤ 4096 := by
  unfold prsL
  by_cases h : prsE p = 0
  · rw [if_pos h, rowsR_length]
    by_cases h1 : (cntS p).2 ≠ 0
    · unfold prsE at h
      rw [if_pos h1] at h
      exact absurd h h1
    · obtain ⟨-, n, hn, hn4, -⟩ := cntS_ok hA (show (cntS p).2 = 0 by omega)
      rw [hn]
      omega
  · rw [if_neg h]
    exact Nat.zero_le _
theorem prsP_len {p : List Int} (hA : AllB p) : (prsP p).length = 32 := by
  unfold prsP
  by_cases h : prsE p = 0
  · rw [if_pos h]
    by_cases h1 : (cntS p).2 ≠ 0
    · unfold prsE at h
      rw [if_pos h1] at h
      exact absurd h h1
    · obtain ⟨hl, -⟩ := cntS_ok hA (show (cntS p).2 = 0 by omega)
      exact seg_len _ _ _ (by omega)
  · rw [if_neg h]
    exact z32_length

set_option maxHeartbeats 4000000 in
set_option maxRecDepth 100000 in
theorem find_any {S : Nat → Prop} (v : Value) (xs id : List Int) (w : World) (hT : Sh.Tab w Sh.ksK) (h : Rd .u8 S w v xs) (hA : AllB xs) (hl : xs.length + 20 ≤ 140737488355328) (hid : id.length = 32) (hAi : AllB id) :
    Calls Tryd.prog 11 #[v, .agg (cellsK .u8 id).toArray] w fun e w' => FndEnd xs id w w' e := by
  obtain ⟨a, c, rfl, -, hlc, hcm⟩ := h.form
  obtain ⟨w1, hw1, hB1, hs1, hbk1⟩ := box_id w id
  obtain ⟨w0, hw0, hB01, hlt0, hh0, -, -, -, -⟩ := box_row w1 39 row0_ok
  have hs0 : w0.heap.size = w.heap.size + 2 := by rw [← hw0]; simp; omega
  have hB0 : Below w.heap.size w w0 := hB1.trans (hB01.mono hB1.size)
  have Kid : Kept (BlkK .u8 w0 w.heap.size 24 id) := ⟨hbk1.far hB01 (by omega)⟩
  have Krw : Kept (BlkR w0 (w.heap.size + 1) 39 default) := ⟨by rw [← hs1]; exact hh0⟩
  have KB0 := Kept.mk hB0
  have z2 : (cellsK .u8 id).toArray.size = 32 := by rw [List.size_toArray, cellsK_length, hid]
  have KC := Kept.mk (parse_any _ xs w0 (Tab.later hT hB0 (Nat.le_refl _)) (h.later hB0 (Nat.le_refl _)) hA hl)
  have Kri := Kept.mk (prsE_rise (p := xs))
  have Kll := Kept.mk (prsL_len hA)
  have Kpl := Kept.mk (prsP_len hA)
  have KE : Kept (fndE xs id = if prsE xs ≠ 0 then prsE xs else if (prsL xs).any (fun r => decide (r.ids = id)) = true then 0 else 7) := ⟨rfl⟩
  have KEnd : Kept (∀ w' e, FndEnd xs id w w' e ↔ ∃ r : RowC, e = .returned (.tuple #[.agg r.l.toArray, .int .i64 (fndE xs id)]) ∧ r.ok ∧ (fndE xs id = 0 → r ∈ prsL xs ∧ r.ids = id) ∧ (fndE xs id ≠ 0 → r = default) ∧ Below w.heap.size w w') := ⟨fun _ _ => Iff.rfl⟩
  have hw00 : (w.alloc (.cells (cellsK .u8 id).toArray 24)).alloc (.cells (default : RowC).l.toArray 39) = w0 := by rw [hw1]; exact hw0
  clear hw1 hw0 hB1 hB01 hlt0 hh0 hbk1 hB0 h hT
  generalize hE : fndE xs id = E at *
  generalize prsL xs = L at *
  generalize prsP xs = PP at *
  generalize prsE xs = PE at *
  clear hE
  go_enter Tryd.func11, Tryd.ntmps11
  go_upto_region 1 with fail
  generalize hO : Obj.cells (_ : Array Value) 39 = O
  have hO2 : O = Obj.cells (default : RowC).l.toArray 39 := by subst hO; rfl
  subst hO2
  clear hO
  rw [hw00]
  clear hw00
  go_wp2_with fail
  refine Calls.mono KC.out (fun e w2 hp => ?_)
  obtain ⟨v2, rfl, hO2, hb2⟩ := hp
  obtain ⟨w3, hw3, hb3, hs3, -⟩ := box_id w2 PP
  have hb03 : Below w0.heap.size w0 w3 := hb2.trans (hb3.mono hb2.size)
  have KB3 := Kept.mk hb03
  have KO3 := Kept.mk (hO2.later hb3 (Nat.le_refl _))
  have KPi := Kept.mk (id_info Kpl.out)
  have KPz : Kept ((cellsK .u8 PP).toArray.size = 32) := ⟨by rw [List.size_toArray, cellsK_length, Kpl.out]⟩
  have KPo := Kept.mk (cellsK_all .u8 PP)
  have Kid3 := Kept.mk (Kid.out.far hb03 (by omega))
  have Krw3 := Kept.mk (Krw.out.far hb03 (by omega))
  clear hO2 hb2 hb3 hb03 KC
  generalize hCP : (cellsK .u8 PP).toArray = CP at *
  clear hCP
  go_upto_region 2 with (refine BigFrame.wpList_want rfl (fun K hK => wp_store_row 24 _ _ rfl w2.heap.size CP rfl rfl 24 _ (heap_alloc_new w2 _) KPi.out (by rw [KPz.out]; rfl) KPo.out (hK _ _ ?_)); rw [World.setRow_alloc_new])
  clear hw3
  by_cases h0 : PE = 0
  · subst h0
    have KE2 : Kept (E = if L.any (fun r => decide (r.ids = id)) = true then 0 else 7) := ⟨by rw [KE.out, if_neg (by decide)]⟩
    have hLl := Kll.out
    have hR0 := Kri.out rfl
    have KR0 := Kept.mk hR0
    clear Kri
    have KBs := Kept.mk (bsearch_any v2 L id w3 KO3.out.rdR hid hAi (by omega) hR0)
    clear hR0
    have Kir := Kept.mk Kid3.out.range
    have KiI := Kept.mk (id_infoL hid)
    generalize hIL : cellsK .u8 id = IL at *
    clear hIL hLl
    go_wp2_with (refine wpList_load_mid rfl 24 _ rfl w.heap.size 0 rfl IL _ Kir.out Tryd.underlying24 rfl KiI.out ?_)
    refine Calls.mono KBs.out (fun e w4 hp => ?_)
    obtain ⟨i, hi, rfl, hlo, hhi, hb4⟩ := hp
    have KB4 := Kept.mk (KB3.out.trans (hb4.mono KB3.out.size))
    have Krw4 := Kept.mk (Krw3.out.far hb4 (by have := KB3.out.size; omega))
    have KO4 := Kept.mk (KO3.out.later hb4 (Nat.le_refl _))
    have Klo := Kept.mk hlo
    have Khi := Kept.mk hhi
    clear hb4 hlo hhi KBs
    by_cases hf : i < L.length ∧ (rowI L i).ids = id
    · rw [decide_eq_true hf]
      obtain ⟨hil, hie⟩ := hf
      have hmem : rowI L i ∈ L := by rw [rowI_get hil]; exact List.getElem_mem hil
      have KV : Kept (E = 0) := ⟨by rw [KE2.out, if_pos (List.any_eq_true.2 ⟨_, hmem, decide_eq_true hie⟩)]⟩
      have hok := rowI_ok KO4.out.2 hil
      have Kfin : Kept (BlkR (w4.setRow (w.heap.size + 1) (rowI L i).l.toArray) (w.heap.size + 1) 39 (rowI L i)) := ⟨setRow_heap _ _ _ _ _ _ Krw4.out⟩
      have KBf : Kept (Below w.heap.size w (w4.setRow (w.heap.size + 1) (rowI L i).l.toArray)) := ⟨below_setRow (KB0.out.trans (KB4.out.mono KB0.out.size)) (by omega) _⟩
      obtain ⟨b, off, c2, hv2, hrg⟩ : ∃ b off c2, v2 = .slice (some ⟨b, off, none⟩) L.length c2 ∧ w4.rangeAt b (off + i * 34) (rowI L i).l := by
        obtain ⟨a', c', hv', -, -, -, -, h5⟩ := KO4.out.rdR
        obtain ⟨b, off, rfl, -, h6⟩ := h5 (by omega)
        exact ⟨b, off, c', hv', h6 i hil⟩
      subst hv2
      have KRg := Kept.mk hrg
      have hii : (i : Int) < (L.length : Int) := by omega
      have KI1 := Kept.mk (row_infoL1 hok)
      have KI2 := Kept.mk (row_info1 hok)
      have KS := Kept.mk (row_size hok)
      have KO := Kept.mk (all_oneCell_toArray (RowC.ones (rowI L i)))
      have KD := Kept.mk (row_size row0_ok)
      have Kr : Kept ((rowI L i).ok ∧ rowI L i ∈ L ∧ (rowI L i).ids = id) := ⟨hok, hmem, hie⟩
      clear hrg hok hmem hie hil
      generalize hRR : rowI L i = RR at *
      clear hRR
      go_wp2_with (first | (refine wpList_load_mid rfl 39 _ rfl b (off + i * 34) rfl RR.l _ KRg.out Tryd.underlying39 rfl KI1.out ?_) | (refine BigFrame.wpList_want rfl (fun K hK => wp_store_row 39 _ _ rfl (w.heap.size + 1) RR.l.toArray rfl rfl 39 _ Krw4.out KI2.out (by rw [KS.out]; exact KD.out) KO.out (hK _ _ ?_))))
      refine bodyPost_ret (v := .tuple #[.agg RR.l.toArray, .int .i64 0]) (results_rt (p := 4) (u := 5) (ty := 39) Tryd.results11 _ _ (w.heap.size + 1) 39 _ (0, 0) _ rfl Kfin.out Tryd.underlying39 rfl KI2.out) rfl ?_
      rw [KEnd.out]
      exact ⟨RR, by rw [KV.out], Kr.out.1, fun _ => Kr.out.2, fun h => absurd KV.out h, KBf.out⟩
    · rw [decide_eq_false hf]
      have KV : Kept (E = 7) := ⟨by
        rw [KE2.out, if_neg]
        intro hany
        obtain ⟨r, hr, hre⟩ := List.any_eq_true.1 hany
        have hre := of_decide_eq_true hre
        obtain ⟨j, hj, rfl⟩ := List.getElem_of_mem hr
        rw [← rowI_get hj] at hre
        rcases Nat.lt_or_ge j i with h1 | h1
        · have := Klo.out j h1
          rw [hre, cmpZ_self] at this
          omega
        · rcases Nat.lt_or_ge i j with h2 | h2
          · have := rise_lt KR0.out h2 hj
            have h3 := Khi.out i (Nat.le_refl _) (by omega)
            rw [hre] at this
            omega
          · obtain rfl : i = j := by omega
            exact hf ⟨hj, hre⟩⟩
      have Kfin : Kept (BlkR (w4.setRow (w.heap.size + 1) (default : RowC).l.toArray) (w.heap.size + 1) 39 default) := ⟨setRow_heap _ _ _ _ _ _ Krw4.out⟩
      have KBf : Kept (Below w.heap.size w (w4.setRow (w.heap.size + 1) (default : RowC).l.toArray)) := ⟨below_setRow (KB0.out.trans (KB4.out.mono KB0.out.size)) (by omega) _⟩
      clear hf
      go_wp2_with (refine BigFrame.wpList_want rfl (fun K hK => wp_store_row 39 _ _ rfl (w.heap.size + 1) (default : RowC).l.toArray rfl rfl 39 _ Krw4.out (row_info1 row0_ok) rfl (all_oneCell_toArray (RowC.ones _)) (hK _ _ ?_)))
      refine bodyPost_ret (v := .tuple #[.agg (default : RowC).l.toArray, .int .i64 7]) (results_rt (p := 4) (u := 5) (ty := 39) Tryd.results11 _ _ (w.heap.size + 1) 39 _ (0, 0) _ rfl Kfin.out Tryd.underlying39 rfl (row_info1 row0_ok)) rfl ?_
      rw [KEnd.out]
      exact ⟨default, by rw [KV.out], row0_ok, (fun h => by rw [KV.out] at h; omega), fun _ => rfl, KBf.out⟩
  · have d1 : (PE != 0) = true := by simpa using h0
    have hEP : E = PE := by rw [KE.out, if_pos h0]
    have KV : Kept (E = PE ∧ E ≠ 0) := ⟨hEP, by rw [hEP]; exact h0⟩
    clear hEP
    have Kfin : Kept (BlkR (w3.setRow (w.heap.size + 1) (default : RowC).l.toArray) (w.heap.size + 1) 39 default) := ⟨setRow_heap _ _ _ _ _ _ Krw3.out⟩
    have KBf : Kept (Below w.heap.size w (w3.setRow (w.heap.size + 1) (default : RowC).l.toArray)) := ⟨below_setRow (KB0.out.trans (KB3.out.mono KB0.out.size)) (by omega) _⟩
    clear h0
    go_wp2_with (refine BigFrame.wpList_want rfl (fun K hK => wp_store_row 39 _ _ rfl (w.heap.size + 1) (default : RowC).l.toArray rfl rfl 39 _ Krw3.out (row_info1 row0_ok) rfl (all_oneCell_toArray (RowC.ones _)) (hK _ _ ?_)))
    refine bodyPost_ret (v := .tuple #[.agg (default : RowC).l.toArray, .int .i64 PE]) (results_rt (p := 4) (u := 5) (ty := 39) Tryd.results11 _ _ (w.heap.size + 1) 39 _ (0, 0) _ rfl Kfin.out Tryd.underlying39 rfl (row_info1 row0_ok)) rfl ?_
    rw [KEnd.out]
    exact ⟨default, by rw [KV.out.1], row0_ok, (fun h => absurd h KV.out.2), fun _ => rfl, KBf.out⟩
end Go.Proofs.YtgoegmaepafopaaDoor
