/-
  Walks: the law's rows and of. (By tools/gen_pxr1.py.)
-/
import Derived.Test.YtgoegmaepafopaaDoorPG
namespace Go.Proofs.YtgoegmaepafopaaDoor
open Go.RowKit Go.Sort

set_option maxRecDepth 100000 in
theorem infoR2 : ∃ i z, Tryd.prog.info? 42 = some i ∧ i.zero = some z ∧ i.size = 34 ∧ i.bytes = 48 ∧ z.cells.size = 34 := by
  refine ⟨_, _, rfl, rfl, rfl, rfl, rfl⟩
set_option maxHeartbeats 2000000 in
set_option maxRecDepth 100000 in
theorem rows_any (v : Value) (rs : List RowC) (w : World) (hr : RdR w v rs) (hl : rs.length ≤ 2932031007317) :
    Calls Tryd.prog 14 #[v] w fun e w' => ∃ v', e = .returned v' ∧ OwnR 39 w' w.heap.size v' rs ∧ Below w.heap.size w w' := by
  obtain ⟨i0, z0, hi, hz, hs, hb0, hc⟩ := infoR
  obtain ⟨a, c, rfl, hlc, hcm, hac, hok, hrd⟩ := hr
  have KR := Kept.mk hrd
  have KK := Kept.mk hok
  clear hrd hok
  go_enter Tryd.func14, Tryd.ntmps14
  go_wp2
  go_loopw [3, 8] (fun mv iv wr => ∃ k : Nat, k ≤ rs.length ∧ iv = .int .i64 k ∧ OwnR 39 wr w.heap.size mv (rs.take k) ∧ Below w.heap.size w wr) (fun _ iv _ => rs.length - (intOf iv).toNat)
  case atStart => exact ⟨0, Nat.zero_le _, rfl, OwnR.nil _ _ _, Below.refl _ _⟩
  case round =>
    obtain ⟨k, hk, rfl, how, hbel⟩ := hrel
    have KOw := Kept.mk how
    have KB := Kept.mk hbel
    obtain ⟨ma, mc, rfl, -⟩ := how.rdR
    have htl : (rs.take k).length = k := by rw [List.length_take]; omega
    by_cases hlt : k < rs.length
    · have hki : (k : Int) < (rs.length : Int) := by omega
      obtain ⟨b, off, rfl, hbl, hrg⟩ := KR.out (by omega)
      have hoR := rowI_ok KK.out hlt
      have hR : Kept (wr.rangeAt b (off + k * 34) (rowI rs k).l) := ⟨fun j u hu => by
        rw [hbel.cell (p := ⟨b, off + k * 34 + j, none⟩) hbl]
        exact hrg k hlt j u hu⟩
      obtain ⟨w2, hw2, hB2, hlt2, hh2, hcI, hcC, hcP, -⟩ := box_row wr 42 hoR
      have KL2 := Kept.mk (row_size hoR)
      have KI2 : Kept ((Tryd.prog.info? 42).map (·.size) = some (rowI rs k).l.toArray.size) := ⟨by rw [KL2.out]; exact info_row2⟩
      have KI : Kept ((Tryd.prog.info? 42).map (·.size) = some (rowI rs k).l.length) := ⟨by rw [RowC.len hoR]; exact info_row2⟩
      have KO : Kept ((rowI rs k).l.toArray.all (·.oneCell') = true) := ⟨all_oneCell_toArray (RowC.ones _)⟩
      have hid : w2.rangeAt wr.heap.size 0 (cellsK .u8 (rowI rs k).ids) := row_range32 fun j u hu => by
        rw [Nat.zero_add, cell_of_row w2 _ j _ _ (0, 0) hh2]
        simpa using hu
      have KId := Kept.mk hid
      have KIi := Kept.mk (id_infoL hoR.1)
      have KIl : Kept ((cellsK .u8 (rowI rs k).ids).length = 32) := ⟨by rw [cellsK_length, hoR.1]⟩
      have KCL : Kept (cellsK .u8 (rowI rs k).ids ++ [.int .u32 (rowI rs k).crc, .int .u64 (rowI rs k).pl] = (rowI rs k).l) := ⟨rfl⟩
      have K34 := Kept.mk (RowC.len hoR)
      have e2 : IntKind.i64.wrap ((k : Int) + 1) = (k : Int) + 1 := wr64 (by omega) (by omega)
      obtain ⟨w3, hw3⟩ : ∃ w3, w2.alloc (.cells (rowI rs k).l.toArray 39) = w3 := ⟨_, rfl⟩
      have hB23 : Below w2.heap.size w2 w3 := by rw [← hw3]; exact (Below.refl _ _).alloc (Nat.le_refl _) _
      have KR3 : Kept (RdR w3 (.slice (some ⟨w2.heap.size, 0, none⟩) 1 1) [rowI rs k]) := ⟨by rw [← hw3]; exact rdR_one w2 hoR 39⟩
      have hB13 : Below wr.heap.size wr w3 := hB2.trans (hB23.mono hB2.size)
      have KO3 := Kept.mk (how.later hB13 (Nat.le_refl _))
      have KB3 := Kept.mk (hbel.trans (hB13.mono hbel.size))
      have hs3 : w.heap.size ≤ w3.heap.size := Nat.le_trans hbel.size hB13.size
      have KLn : Kept (((rs.take k).length + [rowI rs k].length) * 48 ≤ 140737488355328) := ⟨by rw [htl]; simp; omega⟩
      have KSt : Kept (rs.take k ++ [rowI rs k] = rs.take (k + 1)) := ⟨by rw [List.take_add_one, List.getElem?_eq_getElem hlt, rowI_get hlt]; rfl⟩
      have Kok := Kept.mk hoR
      clear hrg hB2 hh2 hcI hid hoR hB23 hB13 how hbel htl
      generalize (rowI rs k).l = CL at *
      generalize (rowI rs k).crc = cr at *
      generalize (rowI rs k).pl = pl at *
      generalize cellsK .u8 (rowI rs k).ids = IL at *
      generalize rowI rs k = RR at *
      generalize rs.take k = TK at *
      go_wp2_with (first | (refine wpList_load_mid rfl 42 _ rfl b (off + k * 34) rfl CL _ hR.out Tryd.underlying42 rfl KI.out ?_) | (refine BigFrame.wpList_want rfl (fun K hK => wp_store_row 42 _ _ rfl wr.heap.size CL.toArray rfl rfl 42 _ (heap_alloc_new wr _) KI2.out (by rw [KL2.out]; rfl) KO.out (hK _ _ ?_)); rw [World.setRow_alloc_new]) | (refine wpList_load_mid rfl 24 _ rfl wr.heap.size 0 rfl IL _ KId.out Tryd.underlying24 rfl KIi.out ?_) | (refine wpList_buildR rfl 39 _ _ _ rfl built1 IL KIl.out cr pl rfl rfl rfl ?_; rw [KCL.out]) | (refine wpList_sliceR rfl 26 39 _ rfl Tryd.underlying26 zeroR1 CL K34.out rfl ?_; rw [hw3]) | (at_builtin; refine wpList_append_rows _ rfl _ _ 26 rfl w.heap.size 39 i0 z0 Tryd.underlying26 hi hz hs hb0 hc (.slice ma TK.length mc) TK rfl KO3.out _ [RR] rfl KR3.out KLn.out hs3 ?_; intro v4 w4 hown hgrow hat; have KO4 := Kept.mk hown; have KG4 := Kept.mk hgrow; clear hown hgrow hat))
      go_roundw
      case rel => exact ⟨k + 1, by omega, by go_num, by rw [← KSt.out]; exact KO4.out, KB3.out.trans ((Below.refl _ w3).grown KG4.out hs3 (fun g hg => (KO3.out.lt g hg).1))⟩
      case measure => simp [intOf]; omega
    · have hki : ¬ (k : Int) < (rs.length : Int) := by omega
      obtain rfl : k = rs.length := by omega
      rw [List.take_length] at KOw htl
      clear htl how hbel
      go_wp2
      go_ret
      exact ⟨_, rfl, by first | exact KOw.out | (simpa using KOw.out), KB.out⟩
set_option maxHeartbeats 2000000 in
set_option maxRecDepth 100000 in
theorem of_any (v : Value) (rs : List RowC) (w : World) (hr : RdR w v rs) (hl : rs.length ≤ 2932031007317) :
    Calls Tryd.prog 10 #[v] w fun e w' => ∃ v', e = .returned v' ∧ OwnR 42 w' w.heap.size v' rs ∧ Below w.heap.size w w' := by
  obtain ⟨i0, z0, hi, hz, hs, hb0, hc⟩ := infoR2
  obtain ⟨a, c, rfl, hlc, hcm, hac, hok, hrd⟩ := hr
  have KR := Kept.mk hrd
  have KK := Kept.mk hok
  clear hrd hok
  go_enter Tryd.func10, Tryd.ntmps10
  go_wp2
  go_loopw [3, 8] (fun mv iv wr => ∃ k : Nat, k ≤ rs.length ∧ iv = .int .i64 k ∧ OwnR 42 wr w.heap.size mv (rs.take k) ∧ Below w.heap.size w wr) (fun _ iv _ => rs.length - (intOf iv).toNat)
  case atStart => exact ⟨0, Nat.zero_le _, rfl, OwnR.nil _ _ _, Below.refl _ _⟩
  case round =>
    obtain ⟨k, hk, rfl, how, hbel⟩ := hrel
    have KOw := Kept.mk how
    have KB := Kept.mk hbel
    obtain ⟨ma, mc, rfl, -⟩ := how.rdR
    have htl : (rs.take k).length = k := by rw [List.length_take]; omega
    by_cases hlt : k < rs.length
    · have hki : (k : Int) < (rs.length : Int) := by omega
      obtain ⟨b, off, rfl, hbl, hrg⟩ := KR.out (by omega)
      have hoR := rowI_ok KK.out hlt
      have hR : Kept (wr.rangeAt b (off + k * 34) (rowI rs k).l) := ⟨fun j u hu => by
        rw [hbel.cell (p := ⟨b, off + k * 34 + j, none⟩) hbl]
        exact hrg k hlt j u hu⟩
      obtain ⟨w2, hw2, hB2, hlt2, hh2, hcI, hcC, hcP, -⟩ := box_row wr 39 hoR
      have KL2 := Kept.mk (row_size hoR)
      have KI2 : Kept ((Tryd.prog.info? 39).map (·.size) = some (rowI rs k).l.toArray.size) := ⟨by rw [KL2.out]; exact info_row1⟩
      have KI : Kept ((Tryd.prog.info? 39).map (·.size) = some (rowI rs k).l.length) := ⟨by rw [RowC.len hoR]; exact info_row1⟩
      have KO : Kept ((rowI rs k).l.toArray.all (·.oneCell') = true) := ⟨all_oneCell_toArray (RowC.ones _)⟩
      have hid : w2.rangeAt wr.heap.size 0 (cellsK .u8 (rowI rs k).ids) := row_range32 fun j u hu => by
        rw [Nat.zero_add, cell_of_row w2 _ j _ _ (0, 0) hh2]
        simpa using hu
      have KId := Kept.mk hid
      have KIi := Kept.mk (id_infoL hoR.1)
      have KIl : Kept ((cellsK .u8 (rowI rs k).ids).length = 32) := ⟨by rw [cellsK_length, hoR.1]⟩
      have KCL : Kept (cellsK .u8 (rowI rs k).ids ++ [.int .u32 (rowI rs k).crc, .int .u64 (rowI rs k).pl] = (rowI rs k).l) := ⟨rfl⟩
      have K34 := Kept.mk (RowC.len hoR)
      have e2 : IntKind.i64.wrap ((k : Int) + 1) = (k : Int) + 1 := wr64 (by omega) (by omega)
      obtain ⟨w3, hw3⟩ : ∃ w3, w2.alloc (.cells (rowI rs k).l.toArray 42) = w3 := ⟨_, rfl⟩
      have hB23 : Below w2.heap.size w2 w3 := by rw [← hw3]; exact (Below.refl _ _).alloc (Nat.le_refl _) _
      have KR3 : Kept (RdR w3 (.slice (some ⟨w2.heap.size, 0, none⟩) 1 1) [rowI rs k]) := ⟨by rw [← hw3]; exact rdR_one w2 hoR 42⟩
      have hB13 : Below wr.heap.size wr w3 := hB2.trans (hB23.mono hB2.size)
      have KO3 := Kept.mk (how.later hB13 (Nat.le_refl _))
      have KB3 := Kept.mk (hbel.trans (hB13.mono hbel.size))
      have hs3 : w.heap.size ≤ w3.heap.size := Nat.le_trans hbel.size hB13.size
      have KLn : Kept (((rs.take k).length + [rowI rs k].length) * 48 ≤ 140737488355328) := ⟨by rw [htl]; simp; omega⟩
      have KSt : Kept (rs.take k ++ [rowI rs k] = rs.take (k + 1)) := ⟨by rw [List.take_add_one, List.getElem?_eq_getElem hlt, rowI_get hlt]; rfl⟩
      have Kok := Kept.mk hoR
      clear hrg hB2 hh2 hcI hid hoR hB23 hB13 how hbel htl
      generalize (rowI rs k).l = CL at *
      generalize (rowI rs k).crc = cr at *
      generalize (rowI rs k).pl = pl at *
      generalize cellsK .u8 (rowI rs k).ids = IL at *
      generalize rowI rs k = RR at *
      generalize rs.take k = TK at *
      go_wp2_with (first | (refine wpList_load_mid rfl 39 _ rfl b (off + k * 34) rfl CL _ hR.out Tryd.underlying39 rfl KI.out ?_) | (refine BigFrame.wpList_want rfl (fun K hK => wp_store_row 39 _ _ rfl wr.heap.size CL.toArray rfl rfl 39 _ (heap_alloc_new wr _) KI2.out (by rw [KL2.out]; rfl) KO.out (hK _ _ ?_)); rw [World.setRow_alloc_new]) | (refine wpList_load_mid rfl 24 _ rfl wr.heap.size 0 rfl IL _ KId.out Tryd.underlying24 rfl KIi.out ?_) | (refine wpList_buildR rfl 42 _ _ _ rfl built2 IL KIl.out cr pl rfl rfl rfl ?_; rw [KCL.out]) | (refine wpList_sliceR rfl 31 42 _ rfl Tryd.underlying31 zeroR2 CL K34.out rfl ?_; rw [hw3]) | (at_builtin; refine wpList_append_rows _ rfl _ _ 31 rfl w.heap.size 42 i0 z0 Tryd.underlying31 hi hz hs hb0 hc (.slice ma TK.length mc) TK rfl KO3.out _ [RR] rfl KR3.out KLn.out hs3 ?_; intro v4 w4 hown hgrow hat; have KO4 := Kept.mk hown; have KG4 := Kept.mk hgrow; clear hown hgrow hat))
      go_roundw
      case rel => exact ⟨k + 1, by omega, by go_num, by rw [← KSt.out]; exact KO4.out, KB3.out.trans ((Below.refl _ w3).grown KG4.out hs3 (fun g hg => (KO3.out.lt g hg).1))⟩
      case measure => simp [intOf]; omega
    · have hki : ¬ (k : Int) < (rs.length : Int) := by omega
      obtain rfl : k = rs.length := by omega
      rw [List.take_length] at KOw htl
      clear htl how hbel
      go_wp2
      go_ret
      exact ⟨_, rfl, by first | exact KOw.out | (simpa using KOw.out), KB.out⟩

open Go.RowKit Go.Sort

def twiceB (rs : List RowC) : Bool := (List.range (rs.length - 1)).any fun k => decide ((rowI rs (k + 1)).ids = (rowI rs k).ids)
theorem twiceB_iff (rs : List RowC) : twiceB rs = true ↔ ∃ k, k + 1 < rs.length ∧ (rowI rs (k + 1)).ids = (rowI rs k).ids := by
  unfold twiceB
  rw [List.any_eq_true]
  constructor
  · rintro ⟨k, hk, h⟩
    exact ⟨k, by simp at hk; omega, of_decide_eq_true h⟩
  · rintro ⟨k, hk, h⟩
    exact ⟨k, by simp; omega, decide_eq_true h⟩
theorem twice_rise {l : List RowC} (h : Srt l) : twiceB l = !riseB l := by
  cases hb : riseB l with
  | true =>
    have hr := (riseB_iff l).1 hb
    cases ht : twiceB l with
    | false => rfl
    | true =>
      obtain ⟨k, hk, he⟩ := (twiceB_iff l).1 ht
      have := hr k hk
      rw [he, cmpZ_self] at this
      omega
  | false =>
    cases ht : twiceB l with
    | true => rfl
    | false =>
      exfalso
      have : Rise l := fun k hk => by
        have h2 := (List.pairwise_iff_getElem.1 h) k (k + 1) (by omega) hk (by omega)
        rw [← rowI_get (by omega), ← rowI_get hk] at h2
        rcases Int.lt_or_eq_of_le h2 with h3 | h3
        · exact h3
        · have : twiceB l = true := (twiceB_iff l).2 ⟨k, hk, (cmpZ_zero h3).symm⟩
          rw [ht] at this
          cases this
      rw [(riseB_iff l).2 this] at hb
      cases hb

open Go.RowKit Go.Sort

theorem insP_at (x : RowC) : ∀ (l : List RowC) (i : Nat), i ≤ l.length → (∀ j, j < i → Sh.cmpZ (rowI l j).ids x.ids < 0) → (i < l.length → ¬ Sh.cmpZ (rowI l i).ids x.ids < 0) → insP x l = l.take i ++ [x] ++ l.drop i
  | [], i, hi, _, _ => by
    obtain rfl : i = 0 := by simpa using hi
    rfl
  | y :: l, 0, _, _, h2 => by
    have := h2 (by simp)
    unfold insP
    rw [if_neg (by simpa [rowI] using this)]
    rfl
  | y :: l, i + 1, hi, h1, h2 => by
    have h0 := h1 0 (by omega)
    unfold insP
    rw [if_pos (by simpa [rowI] using h0)]
    rw [insP_at x l i (by simpa using hi) (fun j hj => by have := h1 (j + 1) (by omega); simpa [rowI] using this) (fun h => by have := h2 (by simpa using h); simpa [rowI] using this)]
    rfl
theorem sortF_step (rs : List RowC) {k : Nat} (h : k < rs.length) : sortF (rs.take (k + 1)) = insP (rowI rs k) (sortF (rs.take k)) := by
  unfold sortF
  rw [List.take_add_one, List.getElem?_eq_getElem h, List.foldl_append, rowI_get h]
  rfl
theorem RdR.part {w : World} {b off n c : Nat} {rs : List RowC} (h : RdR w (.slice (some ⟨b, off, none⟩) n c) rs) {i j : Nat} (hij : i ≤ j) (hj : j ≤ rs.length) : RdR w (.slice (some ⟨b, off + i * 34, none⟩) (j - i) (c - i)) ((rs.take j).drop i) := by
  obtain ⟨a, c', h1, h2, h2', h3, h4, h5⟩ := h
  simp at h1
  obtain ⟨rfl, rfl, rfl⟩ := h1
  have hlen : ((rs.take j).drop i).length = j - i := by simp; omega
  refine ⟨_, c - i, by rw [hlen], by rw [hlen]; omega, by omega, (fun h => by cases h), fun r hr => h4 r (List.mem_of_mem_take (List.mem_of_mem_drop hr)), fun h0 => ?_⟩
  obtain ⟨b', off', h6, h7, h8⟩ := h5 (by omega)
  simp at h6
  obtain ⟨rfl, rfl⟩ := h6
  refine ⟨b, off + i * 34, rfl, h7, fun q hq => ?_⟩
  rw [hlen] at hq
  have e : rowI ((rs.take j).drop i) q = rowI rs (i + q) := by
    unfold rowI
    simp only [List.getD, List.getElem?_drop, List.getElem?_take]
    rw [if_pos (by omega)]
  rw [e, show off + i * 34 + q * 34 = off + (i + q) * 34 by omega]
  exact h8 (i + q) (by omega)
theorem RdR.empty {w : World} (a : Option Addr) (c : Nat) (hc : c ≤ maxLen) (h : a = none → c = 0) : RdR w (.slice a 0 c) [] := ⟨a, c, rfl, Nat.zero_le _, hc, h, (fun _ h => by cases h), (fun h => by simp at h)⟩

set_option maxHeartbeats 4000000 in
set_option maxRecDepth 100000 in
theorem sorted_any (v : Value) (rs : List RowC) (w : World) (hr : RdR w v rs) (hl : rs.length ≤ 4096) :
    Calls Tryd.prog 16 #[v] w fun e w' => ∃ v', e = .returned v' ∧ OwnR 42 w' w.heap.size v' (sortF rs) ∧ Below w.heap.size w w' := by
  obtain ⟨i0, z0, hi, hz, hs, hb0, hc⟩ := infoR2
  obtain ⟨a, c, rfl, hlc, hcm, hac, hok, hrd⟩ := hr
  have KR := Kept.mk hrd
  have KK := Kept.mk hok
  clear hrd hok
  go_enter Tryd.func16, Tryd.ntmps16
  go_wp2
  go_loopw [3, 10] (fun lv iv wr => ∃ k : Nat, k ≤ rs.length ∧ iv = .int .i64 k ∧ OwnR 42 wr w.heap.size lv (sortF (rs.take k)) ∧ Below w.heap.size w wr) (fun _ iv _ => rs.length - (intOf iv).toNat)
  case atStart => exact ⟨0, Nat.zero_le _, rfl, OwnR.nil _ _ _, Below.refl _ _⟩
  case round =>
    obtain ⟨k, hk, rfl, how, hbel⟩ := hrel
    have KB := Kept.mk hbel
    by_cases hlt : k < rs.length
    · have hki : (k : Int) < (rs.length : Int) := by omega
      obtain ⟨b0, off0, rfl, hbl, hrg⟩ := KR.out (by omega)
      have hoR := rowI_ok KK.out hlt
      have hR : Kept (wr.rangeAt b0 (off0 + k * 34) (rowI rs k).l) := ⟨fun j u hu => by
        rw [hbel.cell (p := ⟨b0, off0 + k * 34 + j, none⟩) hbl]
        exact hrg k hlt j u hu⟩
      obtain ⟨w2, hw2, hB2, hlt2, hh2, -, -, -, -⟩ := box_row wr 42 hoR
      have KL2 := Kept.mk (row_size hoR)
      have KI2 : Kept ((Tryd.prog.info? 42).map (·.size) = some (rowI rs k).l.toArray.size) := ⟨by rw [KL2.out]; exact info_row2⟩
      have KI : Kept ((Tryd.prog.info? 42).map (·.size) = some (rowI rs k).l.length) := ⟨by rw [RowC.len hoR]; exact info_row2⟩
      have KO : Kept ((rowI rs k).l.toArray.all (·.oneCell') = true) := ⟨all_oneCell_toArray (RowC.ones _)⟩
      have Kbx : Kept (BlkR w2 wr.heap.size 42 (rowI rs k)) := ⟨hh2⟩
      have KB2 := Kept.mk (hbel.trans (hB2.mono hbel.size))
      have hO2 := how.later hB2 (Nat.le_refl _)
      have KSt := Kept.mk (sortF_step rs hlt)
      have e2 : IntKind.i64.wrap ((k : Int) + 1) = (k : Int) + 1 := wr64 (by omega) (by omega)
      have hTl : (sortF (rs.take k)).length ≤ 4096 := by rw [(sortF_perm _).length_eq, List.length_take]; omega
      have KT2 := Kept.mk hO2
      obtain ⟨la, lc, rfl, hlla, hllm, hlan, -, -⟩ := how.rdR
      have Kx := Kept.mk hoR
      clear hbel how hrg hh2 hO2 hB2 KB hoR
      generalize sortF (rs.take k) = TL at *
      generalize hCL : (rowI rs k).l = CL at *
      have KCL := Kept.mk hCL
      clear hCL
      generalize rowI rs k = X at *
      go_upto_region 5 with (first | (refine wpList_load_mid rfl 42 _ rfl b0 (off0 + k * 34) rfl CL _ hR.out Tryd.underlying42 rfl KI.out ?_) | (refine BigFrame.wpList_want rfl (fun K hK => wp_store_row 42 _ _ rfl wr.heap.size CL.toArray rfl rfl 42 _ (heap_alloc_new wr _) KI2.out (by rw [KL2.out]; rfl) KO.out (hK _ _ ?_)); rw [World.setRow_alloc_new]))
      rw [hw2]
      simp only [Act.put]
      clear hw2 hR KO KI KI2
      generalize wr.heap.size = xb at *
      have hxlt : xb < w2.heap.size := hlt2
      have KLx : Kept (∀ W, CC w2 W → W.rangeAt xb 0 (cellsK .u8 X.ids)) := ⟨fun W hW => row_range32 fun j u hu => by
        rw [Nat.zero_add, cell_of_row W _ j _ _ (0, 0) (Kbx.out.far hW hxlt)]
        simpa using hu⟩
      have KCmp : Kept (∀ i, i < TL.length → ∀ W, Calls Tryd.prog 29 #[.agg (cellsK .u8 (rowI TL i).ids).toArray, .agg (cellsK .u8 X.ids).toArray] W fun e w' => e = .returned (.int .i64 (Sh.cmpZ (rowI TL i).ids X.ids)) ∧ Below W.heap.size W w') := ⟨fun i hi W => Sh.rcompare_any _ _ W (rowI_ok KT2.out.2 hi).1 Kx.out.1⟩
      have KIX := Kept.mk (id_infoL Kx.out.1)
      go_wp2_with fail
      go_loopw [6] (fun iv wr => ∃ i : Nat, i ≤ TL.length ∧ iv = .int .i64 i ∧ (∀ j, j < i → Sh.cmpZ (rowI TL j).ids X.ids < 0) ∧ Below w2.heap.size w2 wr) (fun iv _ => TL.length - (intOf iv).toNat)
      case atStart => exact ⟨0, Nat.zero_le _, rfl, (fun j hj => by omega), Below.refl _ _⟩
      case round =>
        obtain ⟨i, hil, rfl, hall, hbel⟩ := hrel
        have KA := Kept.mk hall
        have KB := Kept.mk hbel
        have hxw : xb < wr.heap.size := Nat.lt_of_lt_of_le hxlt hbel.size
        clear hall
        by_cases hin : i < TL.length
        · have hii : (i : Int) < (TL.length : Int) := by omega
          obtain ⟨b, off, rfl, hrg⟩ : ∃ b off, la = some ⟨b, off, none⟩ ∧ ∀ W, CC wr W → W.rangeAt b (off + i * 34) (cellsK .u8 (rowI TL i).ids) := by
            obtain ⟨a', c', hv', -, -, -, -, h5⟩ := KT2.out.rdR
            obtain ⟨b, off, h6, h7, h8⟩ := h5 (by omega)
            simp at hv'
            refine ⟨b, off, by rw [hv'.1, h6], fun W hW => row_range32 fun j u hu => ?_⟩
            rw [hW.cell (p := ⟨b, off + i * 34 + j, none⟩) (Nat.lt_of_lt_of_le h7 hbel.size), hbel.cell (p := ⟨b, off + i * 34 + j, none⟩) h7]
            exact h8 i hin j u hu
          have hR1 := Kept.mk hrg
          have hRX : Kept (∀ W, CC wr W → W.rangeAt xb 0 (cellsK .u8 X.ids)) := ⟨fun W hW => KLx.out W (Below.trans hbel (Below.mono hW hbel.size))⟩
          obtain ⟨O, hO⟩ : ∃ O, Sh.cmpZ (rowI TL i).ids X.ids = O := ⟨_, rfl⟩
          have KOv := Kept.mk hO
          have KO : Kept (∀ W, CC wr W → Calls Tryd.prog 29 #[.agg (cellsK .u8 (rowI TL i).ids).toArray, .agg (cellsK .u8 X.ids).toArray] W fun e w' => e = .returned (.int .i64 O) ∧ CC wr w') := ⟨fun W hW => (KCmp.out i hin W).mono fun e w' hp => ⟨by rw [hp.1, hO], hW.on hp.2⟩⟩
          have KI1 := Kept.mk (id_infoL (rowI_ok KT2.out.2 hin).1)
          have e5 : IntKind.i64.wrap ((i : Int) + 1) = (i : Int) + 1 := wr64 (by omega) (by omega)
          clear hrg hO hbel
          generalize cellsK .u8 (rowI TL i).ids = LA at *
          generalize cellsK .u8 X.ids = LX at *
          go_upto_region 6 with fail
          refine wp_region_quietC (C := CC wr) (by kernel_rfl) (by kernel_rfl) (Below.refl _ _).drew ?_
          go_big_quiet_step ((intro _; rfl))
          go_big_quiet_step ((intro _; rfl))
          refine BigFrame.wpQuiet_want rfl (fun K hK => quiet_run (v := .int .i64 (TL.length : Int)) (fun W hW => by go_simp; all_goals rfl) (hK _ ?_))
          clear hK K
          simp only [Act.put, List.setIfInBounds_toArray, List.set_cons_zero, List.set_cons_succ]
          refine BigFrame.wpQuiet_want rfl (fun K hK => quiet_run (v := .bool true) (fun W hW => by go_simp; all_goals rfl) (hK _ ?_))
          clear hK K
          simp only [Act.put, List.setIfInBounds_toArray, List.set_cons_zero, List.set_cons_succ]
          go_big_quiet_step ((intro _; rfl))
          go_big_quiet_step ((intro _; rfl))
          go_big_quiet_step ((intro _; rfl))
          refine BigFrame.wpQuiet_want rfl (fun K hK => quiet_run (v := .pointer (some ⟨b, off + i * 34, none⟩)) (fun W hW => by go_simp; all_goals rfl) (hK _ ?_))
          clear hK K
          simp only [Act.put, List.setIfInBounds_toArray, List.set_cons_zero, List.set_cons_succ]
          refine BigFrame.wpQuiet_want rfl (fun K hK => quiet_run (v := .pointer (some ⟨b, off + i * 34, none⟩)) (fun W hW => by go_simp; all_goals rfl) (hK _ ?_))
          clear hK K
          simp only [Act.put, List.setIfInBounds_toArray, List.set_cons_zero, List.set_cons_succ]
          refine BigFrame.wpQuiet_want rfl (fun K hK => quiet_load_mid 24 _ rfl b (off + i * 34) rfl LA _ hR1.out Tryd.underlying24 rfl KI1.out (hK _ ?_))
          clear hK K
          simp only [Act.put, List.setIfInBounds_toArray, List.set_cons_zero, List.set_cons_succ]
          refine BigFrame.wpQuiet_want rfl (fun K hK => quiet_run (v := .pointer (some ⟨xb, 0, none⟩)) (fun W hW => by go_simp; all_goals rfl) (hK _ ?_))
          clear hK K
          simp only [Act.put, List.setIfInBounds_toArray, List.set_cons_zero, List.set_cons_succ]
          refine BigFrame.wpQuiet_want rfl (fun K hK => quiet_load_mid 24 _ rfl xb 0 rfl LX _ hRX.out Tryd.underlying24 rfl KIX.out (hK _ ?_))
          clear hK K
          simp only [Act.put, List.setIfInBounds_toArray, List.set_cons_zero, List.set_cons_succ]
          go_big_quiet_step ((intro hCw; exact KO.out _ hCw))
          refine BigFrame.wpQuiet_want rfl (fun K hK => quiet_run (v := .bool (decide (O < 0))) (fun W hW => by go_simp; all_goals rfl) (hK _ ?_))
          clear hK K
          simp only [Act.put, List.setIfInBounds_toArray, List.set_cons_zero, List.set_cons_succ]
          refine BigFrame.wpQuiet_want rfl (fun K hK => quiet_run (v := .bool (decide (O < 0))) (fun W hW => by go_simp; all_goals rfl) (hK _ ?_))
          clear hK K
          simp only [Act.put, List.setIfInBounds_toArray, List.set_cons_zero, List.set_cons_succ]
          refine wpQuiet_nil ?_
          intro w3 hw3
          have KB3 := Kept.mk (KB.out.trans (Below.mono hw3 KB.out.size))
          clear hw3
          by_cases hge : O < 0
          · have hd : decide (O < 0) = true := decide_eq_true hge
            go_wp2
            go_roundw
            case rel =>
              refine ⟨i + 1, by omega, by go_num, fun j hj => ?_, KB3.out⟩
              rcases Nat.lt_or_ge j i with h2 | h2
              · exact KA.out j h2
              · obtain rfl : j = i := by omega
                rw [KOv.out]; exact hge
            case measure => simp [intOf]; omega
          · have hd : decide (O < 0) = false := decide_eq_false hge
            have KIns : Kept (insP X TL = TL.take i ++ [X] ++ TL.drop i) := ⟨insP_at X TL i hil KA.out (fun _ => by rw [KOv.out]; exact hge)⟩
            go_upto_region 9 with fail
            have hB3 := KB3.out
            have hB03 : Below w.heap.size w w3 := KB2.out.trans (hB3.mono KB2.out.size)
            have hO3 := KT2.out.later hB3 (Nat.le_refl _)
            have hs3 : w.heap.size ≤ w3.heap.size := hB03.size
            have Kbx3 := Kept.mk (Kbx.out.far hB3 hxlt)
            have hx3 : xb < w3.heap.size := Nat.lt_of_lt_of_le hxlt hB3.size
            have K1 : Kept (RdR w3 (.slice (some ⟨b, off, none⟩) i lc) (TL.take i)) := ⟨by
              have := hO3.rdR.part (i := 0) (j := i) (Nat.zero_le _) hil
              simpa using this⟩
            have i1 : (i : Int) ≤ (TL.length : Int) := by omega
            have i2 : (TL.length : Int) ≤ (lc : Int) := by omega
            have i3 : (i : Int) ≤ (lc : Int) := by omega
            have KLn1 : Kept ((([] : List RowC).length + (TL.take i).length) * 48 ≤ 140737488355328) := ⟨by first | (simp; done) | (simp; omega)⟩
            have KO3 := Kept.mk hO3
            have KB03 := Kept.mk hB03
            clear hO3 hB03 hB3
            go_upto_region 10 with (at_builtin; refine wpList_append_rows _ rfl _ _ 31 rfl w.heap.size 42 i0 z0 Tryd.underlying31 hi hz hs hb0 hc (.slice none 0 0) [] rfl (OwnR.nil _ _ _) _ (TL.take i) rfl K1.out KLn1.out hs3 ?_; intro m1 w4 hown hgrow hat; have KO_w4 := Kept.mk hown; have KG_w4 := Kept.mk hgrow; have KA_w4 := Kept.mk hat; clear hown hgrow hat)
            have hB34 : Below w3.heap.size w3 w4 := (Below.refl _ w3).grown KG_w4.out (Nat.le_refl _) (fun g hg => by simp [Value.ownBlock] at hg)
            obtain ⟨w5, hw5⟩ : ∃ w5, w4.alloc (.cells CL.toArray 42) = w5 := ⟨_, rfl⟩
            have hB45 : Below w4.heap.size w4 w5 := by rw [← hw5]; exact (Below.refl _ _).alloc (Nat.le_refl _) _
            have K5 : Kept (RdR w5 (.slice (some ⟨w4.heap.size, 0, none⟩) 1 1) [X]) := ⟨by rw [← hw5, ← KCL.out]; exact rdR_one w4 Kx.out 42⟩
            have KO5 : Kept (OwnR 42 w5 w.heap.size m1 (TL.take i)) := ⟨by have := KO_w4.out.later hB45 (Nat.le_refl _); simpa using this⟩
            have hO5l : OwnR 42 w5 w.heap.size (.slice (some ⟨b, off, none⟩) TL.length lc) TL := (KO3.out.later hB34 (Nat.le_refl _)).later hB45 (Nat.le_refl _)
            have hs5 : w.heap.size ≤ w5.heap.size := Nat.le_trans (Nat.le_trans hs3 hB34.size) hB45.size
            have Kxr : Kept (w4.rangeAt xb 0 CL) := ⟨fun j u hu => by
              rw [Nat.zero_add, cell_of_row w4 _ j _ _ (0, 0) (Kbx3.out.far hB34 hx3), KCL.out]
              simpa using hu⟩
            have KLn2 : Kept (((TL.take i).length + [X].length) * 48 ≤ 140737488355328) := ⟨by first | (simp; done) | (simp; omega)⟩
            have K34 : Kept (CL.length = 34) := ⟨by rw [← KCL.out]; exact RowC.len Kx.out⟩
            have KIc : Kept ((Tryd.prog.info? 42).map (·.size) = some CL.length) := ⟨by rw [K34.out]; exact info_row2⟩
            have KB05 : Kept (Below w.heap.size w w5) := ⟨(KB03.out.trans (hB34.mono hs3)).trans (hB45.mono (Nat.le_trans hs3 hB34.size))⟩
            have Kne : Kept (∀ g, (Value.slice (some ⟨b, off, none⟩) TL.length lc).ownBlock = some g → m1.ownBlock ≠ some g ∧ g < w5.heap.size) := ⟨fun g hg => by
              have h1 := (KO3.out.lt g hg).2
              refine ⟨fun e => ?_, Nat.lt_of_lt_of_le h1 (Nat.le_trans hB34.size hB45.size)⟩
              rcases KA_w4.out with e2 | e2
              · rw [e2] at e; simp [Value.ownBlock] at e
              · rw [e2] at e; injection e with e; omega⟩
            have KO5l := Kept.mk hO5l
            clear hB34 hB45 hO5l K1 KLn1
            go_upto_region 11 with (first | (refine wpList_load_mid rfl 42 _ rfl xb 0 rfl CL _ Kxr.out Tryd.underlying42 rfl KIc.out ?_) | (refine wpList_sliceR rfl 31 42 _ rfl Tryd.underlying31 zeroR2 CL K34.out rfl ?_; rw [hw5]) | (at_builtin; refine wpList_append_rows _ rfl _ _ 31 rfl w.heap.size 42 i0 z0 Tryd.underlying31 hi hz hs hb0 hc m1 (TL.take i) rfl KO5.out _ [X] rfl K5.out KLn2.out hs5 ?_; intro m2 w6 hown hgrow hat; have KO_w6 := Kept.mk hown; have KG_w6 := Kept.mk hgrow; have KA_w6 := Kept.mk hat; clear hown hgrow hat))
            have hG56 : Below w.heap.size w5 w6 := (Below.refl _ w5).grown KG_w6.out hs5 (fun g hg => (KO5.out.lt g hg).1)
            have hO6l : OwnR 42 w6 w.heap.size (.slice (some ⟨b, off, none⟩) TL.length lc) TL := KO5l.out.far fun g hg => KG_w6.out.block g (Kne.out g hg).2 (fun e => (Kne.out g hg).1 e.symm)
            have hs6 : w.heap.size ≤ w6.heap.size := Nat.le_trans hs5 KG_w6.out.size
            have KB06 : Kept (Below w.heap.size w w6) := ⟨KB05.out.trans hG56⟩
            have KLn3 : Kept (((TL.take i ++ [X]).length + (TL.drop i).length) * 48 ≤ 140737488355328) := ⟨by first | (simp; done) | (simp; omega)⟩
            have hdp := hO6l.rdR.part (i := i) (j := TL.length) hil (Nat.le_refl _)
            rw [List.take_length] at hdp
            by_cases hci : lc = i
            · exfalso; omega
            · have K6 : Kept (RdR w6 (.slice (some ⟨b, off + i * 34, none⟩) (TL.length - i) (lc - i)) (TL.drop i)) := ⟨hdp⟩
              clear hdp hG56 hO6l
              generalize hTX : TL.take i ++ [X] = TX at *
              go_wp2_with (at_builtin; refine wpList_append_rows _ rfl _ _ 31 rfl w.heap.size 42 i0 z0 Tryd.underlying31 hi hz hs hb0 hc m2 TX rfl KO_w6.out _ (TL.drop i) rfl K6.out KLn3.out hs6 ?_; intro m3 w7 hown hgrow hat; have KO_w7 := Kept.mk hown; have KG_w7 := Kept.mk hgrow; have KA_w7 := Kept.mk hat; clear hown hgrow hat)
              go_roundw
              case rel => exact ⟨k + 1, by omega, by go_num, by rw [KSt.out, KIns.out]; exact KO_w7.out, KB06.out.trans ((Below.refl _ w6).grown KG_w7.out hs6 (fun g hg => (KO_w6.out.lt g hg).1))⟩
              case measure => simp [intOf]; omega
        · have hii : ¬ (i : Int) < (TL.length : Int) := by omega
          have KIns : Kept (insP X TL = TL.take i ++ [X] ++ TL.drop i) := ⟨insP_at X TL i hil KA.out (fun h => absurd h hin)⟩
          go_upto_region 6 with fail
          refine wp_region_quietC (C := CC wr) (by kernel_rfl) (by kernel_rfl) (Below.refl _ _).drew ?_
          go_big_quiet_step ((intro _; rfl))
          go_big_quiet_step ((intro _; rfl))
          refine BigFrame.wpQuiet_want rfl (fun K hK => quiet_run (v := .int .i64 (TL.length : Int)) (fun W hW => by go_simp; all_goals rfl) (hK _ ?_))
          clear hK K
          simp only [Act.put, List.setIfInBounds_toArray, List.set_cons_zero, List.set_cons_succ]
          refine BigFrame.wpQuiet_want rfl (fun K hK => quiet_run (v := .bool false) (fun W hW => by go_simp; all_goals rfl) (hK _ ?_))
          clear hK K
          simp only [Act.put, List.setIfInBounds_toArray, List.set_cons_zero, List.set_cons_succ]
          go_big_quiet_step ((intro _; rfl))
          repeat (go_big_quiet_step ((intro _; rfl)))
          refine wpQuiet_nil ?_
          intro w3 hw3
          have KB3 := Kept.mk (KB.out.trans (Below.mono hw3 KB.out.size))
          clear hw3
          go_upto_region 9 with fail
          cases la with
          | none =>
            have hlc0 : lc = 0 := hlan rfl
            have hT0 : TL = [] := List.eq_nil_of_length_eq_zero (by omega)
            obtain rfl : i = 0 := by rw [hT0] at hil; simpa using hil
            subst hlc0
            have hB3 := KB3.out
            have hB03 : Below w.heap.size w w3 := KB2.out.trans (hB3.mono KB2.out.size)
            have hO3 := KT2.out.later hB3 (Nat.le_refl _)
            have hs3 : w.heap.size ≤ w3.heap.size := hB03.size
            have Kbx3 := Kept.mk (Kbx.out.far hB3 hxlt)
            have hx3 : xb < w3.heap.size := Nat.lt_of_lt_of_le hxlt hB3.size
            have K1 : Kept (RdR w3 (.slice none 0 0) (TL.take 0)) := ⟨by rw [hT0]; simpa using RdR.nil w3⟩
            have KLn1 : Kept ((([] : List RowC).length + (TL.take 0).length) * 48 ≤ 140737488355328) := ⟨by first | (simp; done) | (simp; omega)⟩
            have KO3 := Kept.mk hO3
            have KB03 := Kept.mk hB03
            clear hO3 hB03 hB3
            go_upto_region 10 with (at_builtin; refine wpList_append_rows _ rfl _ _ 31 rfl w.heap.size 42 i0 z0 Tryd.underlying31 hi hz hs hb0 hc (.slice none 0 0) [] rfl (OwnR.nil _ _ _) _ (TL.take 0) rfl K1.out KLn1.out hs3 ?_; intro m1 w4 hown hgrow hat; have KO_w4 := Kept.mk hown; have KG_w4 := Kept.mk hgrow; have KA_w4 := Kept.mk hat; clear hown hgrow hat)
            have hB34 : Below w3.heap.size w3 w4 := (Below.refl _ w3).grown KG_w4.out (Nat.le_refl _) (fun g hg => by simp [Value.ownBlock] at hg)
            obtain ⟨w5, hw5⟩ : ∃ w5, w4.alloc (.cells CL.toArray 42) = w5 := ⟨_, rfl⟩
            have hB45 : Below w4.heap.size w4 w5 := by rw [← hw5]; exact (Below.refl _ _).alloc (Nat.le_refl _) _
            have K5 : Kept (RdR w5 (.slice (some ⟨w4.heap.size, 0, none⟩) 1 1) [X]) := ⟨by rw [← hw5, ← KCL.out]; exact rdR_one w4 Kx.out 42⟩
            have KO5 : Kept (OwnR 42 w5 w.heap.size m1 (TL.take 0)) := ⟨by have := KO_w4.out.later hB45 (Nat.le_refl _); simpa using this⟩
            have hO5l : OwnR 42 w5 w.heap.size (.slice none TL.length 0) TL := (KO3.out.later hB34 (Nat.le_refl _)).later hB45 (Nat.le_refl _)
            have hs5 : w.heap.size ≤ w5.heap.size := Nat.le_trans (Nat.le_trans hs3 hB34.size) hB45.size
            have Kxr : Kept (w4.rangeAt xb 0 CL) := ⟨fun j u hu => by
              rw [Nat.zero_add, cell_of_row w4 _ j _ _ (0, 0) (Kbx3.out.far hB34 hx3), KCL.out]
              simpa using hu⟩
            have KLn2 : Kept (((TL.take 0).length + [X].length) * 48 ≤ 140737488355328) := ⟨by first | (simp; done) | (simp; omega)⟩
            have K34 : Kept (CL.length = 34) := ⟨by rw [← KCL.out]; exact RowC.len Kx.out⟩
            have KIc : Kept ((Tryd.prog.info? 42).map (·.size) = some CL.length) := ⟨by rw [K34.out]; exact info_row2⟩
            have KB05 : Kept (Below w.heap.size w w5) := ⟨(KB03.out.trans (hB34.mono hs3)).trans (hB45.mono (Nat.le_trans hs3 hB34.size))⟩
            have Kne : Kept (∀ g, (Value.slice none TL.length 0).ownBlock = some g → m1.ownBlock ≠ some g ∧ g < w5.heap.size) := ⟨fun g hg => by
              have h1 := (KO3.out.lt g hg).2
              refine ⟨fun e => ?_, Nat.lt_of_lt_of_le h1 (Nat.le_trans hB34.size hB45.size)⟩
              rcases KA_w4.out with e2 | e2
              · rw [e2] at e; simp [Value.ownBlock] at e
              · rw [e2] at e; injection e with e; omega⟩
            have KO5l := Kept.mk hO5l
            clear hB34 hB45 hO5l K1 KLn1
            go_upto_region 11 with (first | (refine wpList_load_mid rfl 42 _ rfl xb 0 rfl CL _ Kxr.out Tryd.underlying42 rfl KIc.out ?_) | (refine wpList_sliceR rfl 31 42 _ rfl Tryd.underlying31 zeroR2 CL K34.out rfl ?_; rw [hw5]) | (at_builtin; refine wpList_append_rows _ rfl _ _ 31 rfl w.heap.size 42 i0 z0 Tryd.underlying31 hi hz hs hb0 hc m1 (TL.take 0) rfl KO5.out _ [X] rfl K5.out KLn2.out hs5 ?_; intro m2 w6 hown hgrow hat; have KO_w6 := Kept.mk hown; have KG_w6 := Kept.mk hgrow; have KA_w6 := Kept.mk hat; clear hown hgrow hat))
            have hG56 : Below w.heap.size w5 w6 := (Below.refl _ w5).grown KG_w6.out hs5 (fun g hg => (KO5.out.lt g hg).1)
            have hO6l : OwnR 42 w6 w.heap.size (.slice none TL.length 0) TL := KO5l.out.far fun g hg => KG_w6.out.block g (Kne.out g hg).2 (fun e => (Kne.out g hg).1 e.symm)
            have hs6 : w.heap.size ≤ w6.heap.size := Nat.le_trans hs5 KG_w6.out.size
            have KB06 : Kept (Below w.heap.size w w6) := ⟨KB05.out.trans hG56⟩
            have KLn3 : Kept (((TL.take 0 ++ [X]).length + (TL.drop 0).length) * 48 ≤ 140737488355328) := ⟨by first | (simp; done) | (simp; omega)⟩
            have K6 : Kept (RdR w6 (.slice none 0 0) (TL.drop 0)) := ⟨by rw [hT0]; simpa using RdR.nil w6⟩
            clear hG56 hO6l
            generalize hTX : TL.take 0 ++ [X] = TX at *
            go_wp2_with (at_builtin; refine wpList_append_rows _ rfl _ _ 31 rfl w.heap.size 42 i0 z0 Tryd.underlying31 hi hz hs hb0 hc m2 TX rfl KO_w6.out _ (TL.drop 0) rfl K6.out KLn3.out hs6 ?_; intro m3 w7 hown hgrow hat; have KO_w7 := Kept.mk hown; have KG_w7 := Kept.mk hgrow; have KA_w7 := Kept.mk hat; clear hown hgrow hat)
            go_roundw
            case rel => exact ⟨k + 1, by omega, by go_num, by rw [KSt.out, KIns.out]; exact KO_w7.out, KB06.out.trans ((Below.refl _ w6).grown KG_w7.out hs6 (fun g hg => (KO_w6.out.lt g hg).1))⟩
            case measure => simp [intOf]; omega
          | some ad =>
            obtain ⟨b, off, rfl⟩ : ∃ b off, ad = ⟨b, off, none⟩ := by
              rcases KT2.out.1.2 with ⟨h1, _⟩ | ⟨g, cap, cur, h1, _⟩
              · simp at h1
              · simp at h1
                exact ⟨g, 0, h1.1⟩
            have hB3 := KB3.out
            have hB03 : Below w.heap.size w w3 := KB2.out.trans (hB3.mono KB2.out.size)
            have hO3 := KT2.out.later hB3 (Nat.le_refl _)
            have hs3 : w.heap.size ≤ w3.heap.size := hB03.size
            have Kbx3 := Kept.mk (Kbx.out.far hB3 hxlt)
            have hx3 : xb < w3.heap.size := Nat.lt_of_lt_of_le hxlt hB3.size
            have K1 : Kept (RdR w3 (.slice (some ⟨b, off, none⟩) i lc) (TL.take i)) := ⟨by
              have := hO3.rdR.part (i := 0) (j := i) (Nat.zero_le _) hil
              simpa using this⟩
            have i1 : (i : Int) ≤ (TL.length : Int) := by omega
            have i2 : (TL.length : Int) ≤ (lc : Int) := by omega
            have i3 : (i : Int) ≤ (lc : Int) := by omega
            have KLn1 : Kept ((([] : List RowC).length + (TL.take i).length) * 48 ≤ 140737488355328) := ⟨by first | (simp; done) | (simp; omega)⟩
            have KO3 := Kept.mk hO3
            have KB03 := Kept.mk hB03
            clear hO3 hB03 hB3
            go_upto_region 10 with (at_builtin; refine wpList_append_rows _ rfl _ _ 31 rfl w.heap.size 42 i0 z0 Tryd.underlying31 hi hz hs hb0 hc (.slice none 0 0) [] rfl (OwnR.nil _ _ _) _ (TL.take i) rfl K1.out KLn1.out hs3 ?_; intro m1 w4 hown hgrow hat; have KO_w4 := Kept.mk hown; have KG_w4 := Kept.mk hgrow; have KA_w4 := Kept.mk hat; clear hown hgrow hat)
            have hB34 : Below w3.heap.size w3 w4 := (Below.refl _ w3).grown KG_w4.out (Nat.le_refl _) (fun g hg => by simp [Value.ownBlock] at hg)
            obtain ⟨w5, hw5⟩ : ∃ w5, w4.alloc (.cells CL.toArray 42) = w5 := ⟨_, rfl⟩
            have hB45 : Below w4.heap.size w4 w5 := by rw [← hw5]; exact (Below.refl _ _).alloc (Nat.le_refl _) _
            have K5 : Kept (RdR w5 (.slice (some ⟨w4.heap.size, 0, none⟩) 1 1) [X]) := ⟨by rw [← hw5, ← KCL.out]; exact rdR_one w4 Kx.out 42⟩
            have KO5 : Kept (OwnR 42 w5 w.heap.size m1 (TL.take i)) := ⟨by have := KO_w4.out.later hB45 (Nat.le_refl _); simpa using this⟩
            have hO5l : OwnR 42 w5 w.heap.size (.slice (some ⟨b, off, none⟩) TL.length lc) TL := (KO3.out.later hB34 (Nat.le_refl _)).later hB45 (Nat.le_refl _)
            have hs5 : w.heap.size ≤ w5.heap.size := Nat.le_trans (Nat.le_trans hs3 hB34.size) hB45.size
            have Kxr : Kept (w4.rangeAt xb 0 CL) := ⟨fun j u hu => by
              rw [Nat.zero_add, cell_of_row w4 _ j _ _ (0, 0) (Kbx3.out.far hB34 hx3), KCL.out]
              simpa using hu⟩
            have KLn2 : Kept (((TL.take i).length + [X].length) * 48 ≤ 140737488355328) := ⟨by first | (simp; done) | (simp; omega)⟩
            have K34 : Kept (CL.length = 34) := ⟨by rw [← KCL.out]; exact RowC.len Kx.out⟩
            have KIc : Kept ((Tryd.prog.info? 42).map (·.size) = some CL.length) := ⟨by rw [K34.out]; exact info_row2⟩
            have KB05 : Kept (Below w.heap.size w w5) := ⟨(KB03.out.trans (hB34.mono hs3)).trans (hB45.mono (Nat.le_trans hs3 hB34.size))⟩
            have Kne : Kept (∀ g, (Value.slice (some ⟨b, off, none⟩) TL.length lc).ownBlock = some g → m1.ownBlock ≠ some g ∧ g < w5.heap.size) := ⟨fun g hg => by
              have h1 := (KO3.out.lt g hg).2
              refine ⟨fun e => ?_, Nat.lt_of_lt_of_le h1 (Nat.le_trans hB34.size hB45.size)⟩
              rcases KA_w4.out with e2 | e2
              · rw [e2] at e; simp [Value.ownBlock] at e
              · rw [e2] at e; injection e with e; omega⟩
            have KO5l := Kept.mk hO5l
            clear hB34 hB45 hO5l K1 KLn1
            go_upto_region 11 with (first | (refine wpList_load_mid rfl 42 _ rfl xb 0 rfl CL _ Kxr.out Tryd.underlying42 rfl KIc.out ?_) | (refine wpList_sliceR rfl 31 42 _ rfl Tryd.underlying31 zeroR2 CL K34.out rfl ?_; rw [hw5]) | (at_builtin; refine wpList_append_rows _ rfl _ _ 31 rfl w.heap.size 42 i0 z0 Tryd.underlying31 hi hz hs hb0 hc m1 (TL.take i) rfl KO5.out _ [X] rfl K5.out KLn2.out hs5 ?_; intro m2 w6 hown hgrow hat; have KO_w6 := Kept.mk hown; have KG_w6 := Kept.mk hgrow; have KA_w6 := Kept.mk hat; clear hown hgrow hat))
            have hG56 : Below w.heap.size w5 w6 := (Below.refl _ w5).grown KG_w6.out hs5 (fun g hg => (KO5.out.lt g hg).1)
            have hO6l : OwnR 42 w6 w.heap.size (.slice (some ⟨b, off, none⟩) TL.length lc) TL := KO5l.out.far fun g hg => KG_w6.out.block g (Kne.out g hg).2 (fun e => (Kne.out g hg).1 e.symm)
            have hs6 : w.heap.size ≤ w6.heap.size := Nat.le_trans hs5 KG_w6.out.size
            have KB06 : Kept (Below w.heap.size w w6) := ⟨KB05.out.trans hG56⟩
            have KLn3 : Kept (((TL.take i ++ [X]).length + (TL.drop i).length) * 48 ≤ 140737488355328) := ⟨by first | (simp; done) | (simp; omega)⟩
            have hdp := hO6l.rdR.part (i := i) (j := TL.length) hil (Nat.le_refl _)
            rw [List.take_length] at hdp
            by_cases hci : lc = i
            · subst hci
              have K6 : Kept (RdR w6 (.slice (some ⟨b, off, none⟩) 0 0) (TL.drop lc)) := ⟨by
                have e : TL.drop lc = [] := List.drop_eq_nil_of_le hlla
                rw [e]
                exact RdR.empty _ 0 (Nat.zero_le _) (fun h => by cases h)⟩
              clear hdp hG56 hO6l
              generalize hTX : TL.take lc ++ [X] = TX at *
              go_wp2_with (at_builtin; refine wpList_append_rows _ rfl _ _ 31 rfl w.heap.size 42 i0 z0 Tryd.underlying31 hi hz hs hb0 hc m2 TX rfl KO_w6.out _ (TL.drop lc) rfl K6.out KLn3.out hs6 ?_; intro m3 w7 hown hgrow hat; have KO_w7 := Kept.mk hown; have KG_w7 := Kept.mk hgrow; have KA_w7 := Kept.mk hat; clear hown hgrow hat)
              go_roundw
              case rel => exact ⟨k + 1, by omega, by go_num, by rw [KSt.out, KIns.out]; exact KO_w7.out, KB06.out.trans ((Below.refl _ w6).grown KG_w7.out hs6 (fun g hg => (KO_w6.out.lt g hg).1))⟩
              case measure => simp [intOf]; omega
            · have K6 : Kept (RdR w6 (.slice (some ⟨b, off + i * 34, none⟩) (TL.length - i) (lc - i)) (TL.drop i)) := ⟨hdp⟩
              clear hdp hG56 hO6l
              generalize hTX : TL.take i ++ [X] = TX at *
              go_wp2_with (at_builtin; refine wpList_append_rows _ rfl _ _ 31 rfl w.heap.size 42 i0 z0 Tryd.underlying31 hi hz hs hb0 hc m2 TX rfl KO_w6.out _ (TL.drop i) rfl K6.out KLn3.out hs6 ?_; intro m3 w7 hown hgrow hat; have KO_w7 := Kept.mk hown; have KG_w7 := Kept.mk hgrow; have KA_w7 := Kept.mk hat; clear hown hgrow hat)
              go_roundw
              case rel => exact ⟨k + 1, by omega, by go_num, by rw [KSt.out, KIns.out]; exact KO_w7.out, KB06.out.trans ((Below.refl _ w6).grown KG_w7.out hs6 (fun g hg => (KO_w6.out.lt g hg).1))⟩
              case measure => simp [intOf]; omega
    · have hki : ¬ (k : Int) < (rs.length : Int) := by omega
      obtain rfl : k = rs.length := by omega
      rw [List.take_length] at how
      have KOw := Kept.mk how
      clear how hbel
      go_wp2
      go_ret
      exact ⟨_, rfl, KOw.out, KB.out⟩
end Go.Proofs.YtgoegmaepafopaaDoor
