/-
  Walks: the law ShaBack.
-/
import Derived.Test.YtpleamahaogfiaaDoorM4
namespace Go.Proofs.YtpleamahaogfiaaDoor
open Go.RowKit

theorem byte_lt' {x y : Int} (hx : 0 ≤ x ∧ x < 256) (hy : 0 ≤ y ∧ y < 256) : (UInt8.ofNat x.toNat < UInt8.ofNat y.toNat) ↔ x < y := byte_lt hx hy
theorem less_nums : ∀ {xs ys : List Int}, AllB xs → AllB ys → Op.bytesLess (xs.map fun n => UInt8.ofNat n.toNat) (ys.map fun n => UInt8.ofNat n.toNat) = decide (cmpZ xs ys < 0)
  | [], [], _, _ => rfl
  | [], _ :: _, _, _ => rfl
  | _ :: _, [], _, _ => rfl
  | x :: xs, y :: ys, hx, hy => by
    have ih := less_nums (xs := xs) (ys := ys) (fun z hz => hx z (by simp [hz])) (fun z hz => hy z (by simp [hz]))
    have h1 := byte_lt' (hx x (by simp)) (hy y (by simp))
    have h2 := ofNat_inj (hx x (by simp)) (hy y (by simp))
    show (decide (UInt8.ofNat x.toNat < UInt8.ofNat y.toNat) || (UInt8.ofNat x.toNat == UInt8.ofNat y.toNat && Op.bytesLess (xs.map fun n => UInt8.ofNat n.toNat) (ys.map fun n => UInt8.ofNat n.toNat))) = _
    rw [ih, cmpZ]
    by_cases a1 : x < y
    · simp [h1.2 a1, a1]
    · have e1 : decide (UInt8.ofNat x.toNat < UInt8.ofNat y.toNat) = false := decide_eq_false (fun h => a1 (h1.1 h))
      rw [e1, Bool.false_or, if_neg a1]
      by_cases a2 : y < x
      · have e2 : (UInt8.ofNat x.toNat == UInt8.ofNat y.toNat) = false := by
          rw [beq_eq_false_iff_ne]
          intro h
          have := h2 h
          omega
        rw [e2, if_pos a2]
        rfl
      · have e3 : x = y := by omega
        subst e3
        simp
theorem less_str {xs ys : List Int} (hx : AllB xs) (hy : AllB ys) : Op.bytesLess (strOfNums xs).toList (strOfNums ys).toList = decide (cmpZ xs ys < 0) := by
  have e : ∀ l, (strOfNums l).toList = l.map fun n => UInt8.ofNat n.toNat := fun l => by
    rw [← strOfNums_data, Lib.toList_data]
  rw [e, e]
  exact less_nums hx hy

set_option maxHeartbeats 4000000 in
set_option maxRecDepth 100000 in
theorem shaBack_walk (xs ys : List Int) (s : ByteArray) (w : World) (hl : xs.length = 32) (hm : ys.length = 32) (hA : AllB xs) (hY : AllB ys) (hB : Tab w ksK) :
    Calls Tryd.prog 6 #[.agg (cellsU8 xs).toArray, .agg (cellsU8 ys).toArray, .string s] w fun e w' => e = .returned (.bool true) ∧ Below w.heap.size w w' := by
  have HB := Kept.mk hB
  have hn : 0 < w.heap.size := hB.1
  clear hB
  have hB1 : Blk8 ((w.alloc (.cells (cellsU8 xs).toArray 32)).alloc (.cells (cellsU8 ys).toArray 32)) w.heap.size 32 xs := (alloc_blk8 w xs 32).alloc _
  have hB2 : Blk8 ((w.alloc (.cells (cellsU8 xs).toArray 32)).alloc (.cells (cellsU8 ys).toArray 32)) (w.heap.size + 1) 32 ys := by
    have := alloc_blk8 (w.alloc (.cells (cellsU8 xs).toArray 32)) ys 32
    rwa [show (w.alloc (.cells (cellsU8 xs).toArray 32)).heap.size = w.heap.size + 1 from by simp] at this
  have hBB : Below w.heap.size w ((w.alloc (.cells (cellsU8 xs).toArray 32)).alloc (.cells (cellsU8 ys).toArray 32)) := ((Below.refl _ _).alloc (Nat.le_refl _) _).alloc (by simp) _
  have hz0 : ((w.alloc (.cells (cellsU8 xs).toArray 32)).alloc (.cells (cellsU8 ys).toArray 32)).heap.size = w.heap.size + 2 := by simp
  go_enter Tryd.func6, Tryd.ntmps6
  go_upto_region 1 with fail
  generalize (w.alloc (.cells (cellsU8 xs).toArray 32)).alloc (.cells (cellsU8 ys).toArray 32) = w0 at *
  have HZ0 := Kept.mk hz0
  clear hz0
  go_wp2_with fail
  refine Calls.mono (awake_any w0 (HB.out.far hBB hn)) (fun e w1 hp => ?_)
  obtain ⟨rfl, hb1⟩ := hp
  have s1 := hb1.size
  have z1 : w.heap.size + 2 ≤ w1.heap.size := by rw [← HZ0.out]; exact s1
  have A1 := hB1.far hb1 (by rw [HZ0.out]; omega)
  have A2 := hB2.far hb1 (by rw [HZ0.out]; omega)
  have AB : Below w.heap.size w w1 := hBB.trans (hb1.mono hBB.size)
  clear hb1 hB1 hB2 hBB s1 HZ0
  have RX1 := Kept.mk A1.range
  have IX := Kept.mk (info32 xs hl)
  have IY := Kept.mk (info32 ys hm)
  go_upto_region 3 with fail
  go_wp2_with (refine wpList_load_mid rfl 32 _ rfl w.heap.size 0 rfl (cellsU8 xs) _ RX1.out Tryd.underlying32 rfl IX.out.1 ?_)
  refine Calls.mono (hex_any xs w1 hl hA) (fun e w1b hp => ?_)
  obtain ⟨rfl, hb1b⟩ := hp
  have s1b := hb1b.size
  have A1' := A1.far hb1b (by omega)
  have A2' := A2.far hb1b (by omega)
  have AB' : Below w.heap.size w w1b := AB.trans (hb1b.mono (by omega))
  clear hb1b A1 A2 AB RX1
  go_wp2_with fail
  refine Calls.mono (parse_any (strOfNums (hexF xs)) w1b) (fun e w2 hp => ?_)
  obtain ⟨rfl, hb2⟩ := hp
  rw [parF_hex hl hA, parE_hex hl hA]
  have s2 := hb2.size
  have C1 := A1'.far hb2 (by omega)
  have C2 := A2'.far hb2 (by omega)
  have CB : Below w.heap.size w w2 := AB'.trans (hb2.mono (by omega))
  clear hb2 A1' A2' AB'
  have HO := Kept.mk (all_oneCell_toArray (cellsU8_one xs))
  have HT : Kept ((w2.alloc (.cells #[.int .u8 0, .int .u8 0, .int .u8 0, .int .u8 0, .int .u8 0, .int .u8 0, .int .u8 0, .int .u8 0, .int .u8 0, .int .u8 0, .int .u8 0, .int .u8 0, .int .u8 0, .int .u8 0, .int .u8 0, .int .u8 0, .int .u8 0, .int .u8 0, .int .u8 0, .int .u8 0, .int .u8 0, .int .u8 0, .int .u8 0, .int .u8 0, .int .u8 0, .int .u8 0, .int .u8 0, .int .u8 0, .int .u8 0, .int .u8 0, .int .u8 0, .int .u8 0] 32)).there w2.heap.size 0 (cellsU8 xs).toArray.size) := ⟨(alloc_blk8 w2 (List.replicate 32 0) 32).there8 _ (by rw [List.size_toArray, cellsU8_length, hl, List.length_replicate])⟩
  go_upto_region 4 with (refine wpList_store_mid rfl 32 _ _ rfl w2.heap.size 0 (cellsU8 xs).toArray rfl rfl HT.out IX.out.2 HO.out ?_)
  try simp only [Act.put]
  obtain ⟨w5, g7, hw5, hg7, G1, G2, G3, GB, gz, gg⟩ : ∃ w5 g7, (w2.alloc (.cells #[.int .u8 0, .int .u8 0, .int .u8 0, .int .u8 0, .int .u8 0, .int .u8 0, .int .u8 0, .int .u8 0, .int .u8 0, .int .u8 0, .int .u8 0, .int .u8 0, .int .u8 0, .int .u8 0, .int .u8 0, .int .u8 0, .int .u8 0, .int .u8 0, .int .u8 0, .int .u8 0, .int .u8 0, .int .u8 0, .int .u8 0, .int .u8 0, .int .u8 0, .int .u8 0, .int .u8 0, .int .u8 0, .int .u8 0, .int .u8 0, .int .u8 0, .int .u8 0] 32)).setCells w2.heap.size 0 (cellsU8 xs) = w5 ∧ w2.heap.size = g7 ∧ Blk8 w5 w.heap.size 32 xs ∧ Blk8 w5 (w.heap.size + 1) 32 ys ∧ Blk8 w5 g7 32 xs ∧ Below w.heap.size w w5 ∧ g7 < w5.heap.size ∧ w.heap.size + 2 ≤ g7 :=
    ⟨_, _, rfl, rfl, (C1.alloc _).cells_far (by omega) _, (C2.alloc _).cells_far (by omega) _, (alloc_blk8 w2 (List.replicate 32 0) 32).over8 (by rw [hl, List.length_replicate]), below_cells (by omega) _ 0 w _ (CB.alloc (by omega) _), by rw [size_setCells]; simp, by omega⟩
  rw [hw5, hg7]
  clear hw5 hg7 HT C1 C2 CB HB HO
  have RX : Kept (∀ w', CC w5 w' → w'.rangeAt w.heap.size 0 (cellsU8 xs)) := ⟨fun w' h => h.range G1 (by omega)⟩
  have RY : Kept (∀ w', CC w5 w' → w'.rangeAt (w.heap.size + 1) 0 (cellsU8 ys)) := ⟨fun w' h => h.range G2 (by omega)⟩
  have RP : Kept (∀ w', CC w5 w' → w'.rangeAt g7 0 (cellsU8 xs)) := ⟨fun w' h => h.range G3 (by omega)⟩
  have H20x : Kept (∀ w', CC w5 w' → Calls Tryd.prog 20 #[.agg (cellsU8 xs).toArray] w' fun e w'' => e = .returned (.string (strOfNums (hexF xs))) ∧ CC w5 w'') := ⟨fun w' h => (hex_any xs w' hl hA).mono fun e w'' hp => ⟨hp.1, h.on hp.2⟩⟩
  have H20y : Kept (∀ w', CC w5 w' → Calls Tryd.prog 20 #[.agg (cellsU8 ys).toArray] w' fun e w'' => e = .returned (.string (strOfNums (hexF ys))) ∧ CC w5 w'') := ⟨fun w' h => (hex_any ys w' hm hY).mono fun e w'' hp => ⟨hp.1, h.on hp.2⟩⟩
  have H22 : Kept (∀ w', CC w5 w' → Calls Tryd.prog 22 #[.agg (cellsU8 xs).toArray, .agg (cellsU8 ys).toArray] w' fun e w'' => e = .returned (.int .i64 (cmpZ xs ys)) ∧ CC w5 w'') := ⟨fun w' h => (compare_any xs ys w' hl hm hA hY).mono fun e w'' hp => ⟨hp.1, h.on hp.2⟩⟩
  have H22r : Kept (∀ w', CC w5 w' → Calls Tryd.prog 22 #[.agg (cellsU8 ys).toArray, .agg (cellsU8 xs).toArray] w' fun e w'' => e = .returned (.int .i64 (- cmpZ xs ys)) ∧ CC w5 w'') := ⟨fun w' h => (compare_any ys xs w' hm hl hY hA).mono fun e w'' hp => ⟨by rw [← cmpZ_neg]; exact hp.1, h.on hp.2⟩⟩
  have hsame := fun W => same_ids W xs hl
  have hcr := cmpZ_range xs ys
  have hlt : Op.bytesLess (strOfNums (hexF xs)).toList (strOfNums (hexF ys)).toList = decide (cmpZ xs ys < 0) := by
    rw [← cmpZ_hex hA hY]
    exact less_str (hexF_allB hA) (hexF_allB hY)
  generalize strOfNums (hexF xs) = hx at *
  generalize strOfNums (hexF ys) = hy at *
  generalize cmpZ xs ys = cz at *
  generalize hbl : decide (cz < 0) = bl at *
  refine wp_region_quiet (C := CC w5) (by kernel_rfl) (by kernel_rfl) (Below.refl _ _).drew ?_
  dsimp only
  go_big_quiet_step (fail)
  refine BigFrame.wpQuiet_want rfl (fun K hK => quiet_plain (v := .bool false) (fun W => by go_simp) (hK _ ?_))
  clear hK K
  simp only [Act.put, List.setIfInBounds_toArray, List.set_cons_zero, List.set_cons_succ]
  go_big_quiet_step (fail)
  refine BigFrame.wpQuiet_want rfl (fun K hK => quiet_load_mid 32 _ rfl g7 0 rfl (cellsU8 xs) _ RP.out Tryd.underlying32 rfl IX.out.1 (hK _ ?_))
  clear hK K
  simp only [Act.put, List.setIfInBounds_toArray, List.set_cons_zero, List.set_cons_succ]
  refine BigFrame.wpQuiet_want rfl (fun K hK => quiet_load_mid 32 _ rfl w.heap.size 0 rfl (cellsU8 xs) _ RX.out Tryd.underlying32 rfl IX.out.1 (hK _ ?_))
  clear hK K
  simp only [Act.put, List.setIfInBounds_toArray, List.set_cons_zero, List.set_cons_succ]
  refine BigFrame.wpQuiet_want rfl (fun K hK => quiet_plain (v := .bool false) (fun W => by go_simp) (hK _ ?_))
  clear hK K
  simp only [Act.put, List.setIfInBounds_toArray, List.set_cons_zero, List.set_cons_succ]
  refine BigFrame.wpQuiet_want rfl (fun K hK => quiet_plain (v := .bool false) (fun W => by go_simp) (hK _ ?_))
  clear hK K
  simp only [Act.put, List.setIfInBounds_toArray, List.set_cons_zero, List.set_cons_succ]
  go_big_quiet_step (fail)
  refine BigFrame.wpQuiet_want rfl (fun K hK => quiet_load_mid 32 _ rfl w.heap.size 0 rfl (cellsU8 xs) _ RX.out Tryd.underlying32 rfl IX.out.1 (hK _ ?_))
  clear hK K
  simp only [Act.put, List.setIfInBounds_toArray, List.set_cons_zero, List.set_cons_succ]
  go_big_quiet_step ((intro hCw; exact H20x.out _ hCw))
  refine BigFrame.wpQuiet_want rfl (fun K hK => quiet_load_mid 32 _ rfl (w.heap.size + 1) 0 rfl (cellsU8 ys) _ RY.out Tryd.underlying32 rfl IY.out.1 (hK _ ?_))
  clear hK K
  simp only [Act.put, List.setIfInBounds_toArray, List.set_cons_zero, List.set_cons_succ]
  go_big_quiet_step ((intro hCw; exact H20y.out _ hCw))
  refine BigFrame.wpQuiet_want rfl (fun K hK => quiet_plain (v := .bool bl) (fun W => by go_simp) (hK _ ?_))
  clear hK K
  simp only [Act.put, List.setIfInBounds_toArray, List.set_cons_zero, List.set_cons_succ]
  refine BigFrame.wpQuiet_want rfl (fun K hK => quiet_load_mid 32 _ rfl w.heap.size 0 rfl (cellsU8 xs) _ RX.out Tryd.underlying32 rfl IX.out.1 (hK _ ?_))
  clear hK K
  simp only [Act.put, List.setIfInBounds_toArray, List.set_cons_zero, List.set_cons_succ]
  refine BigFrame.wpQuiet_want rfl (fun K hK => quiet_load_mid 32 _ rfl (w.heap.size + 1) 0 rfl (cellsU8 ys) _ RY.out Tryd.underlying32 rfl IY.out.1 (hK _ ?_))
  clear hK K
  simp only [Act.put, List.setIfInBounds_toArray, List.set_cons_zero, List.set_cons_succ]
  go_big_quiet_step ((intro hCw; exact H22.out _ hCw))
  refine BigFrame.wpQuiet_want rfl (fun K hK => quiet_plain (v := .bool bl) (fun W => by go_simp) (hK _ ?_))
  clear hK K
  simp only [Act.put, List.setIfInBounds_toArray, List.set_cons_zero, List.set_cons_succ]
  refine BigFrame.wpQuiet_want rfl (fun K hK => quiet_plain (v := .bool false) (fun W => by go_simp) (hK _ ?_))
  clear hK K
  simp only [Act.put, List.setIfInBounds_toArray, List.set_cons_zero, List.set_cons_succ]
  refine BigFrame.wpQuiet_want rfl (fun K hK => quiet_plain (v := .bool false) (fun W => by go_simp) (hK _ ?_))
  clear hK K
  simp only [Act.put, List.setIfInBounds_toArray, List.set_cons_zero, List.set_cons_succ]
  go_big_quiet_step (fail)
  refine BigFrame.wpQuiet_want rfl (fun K hK => quiet_load_mid 32 _ rfl w.heap.size 0 rfl (cellsU8 xs) _ RX.out Tryd.underlying32 rfl IX.out.1 (hK _ ?_))
  clear hK K
  simp only [Act.put, List.setIfInBounds_toArray, List.set_cons_zero, List.set_cons_succ]
  refine BigFrame.wpQuiet_want rfl (fun K hK => quiet_load_mid 32 _ rfl (w.heap.size + 1) 0 rfl (cellsU8 ys) _ RY.out Tryd.underlying32 rfl IY.out.1 (hK _ ?_))
  clear hK K
  simp only [Act.put, List.setIfInBounds_toArray, List.set_cons_zero, List.set_cons_succ]
  go_big_quiet_step ((intro hCw; exact H22.out _ hCw))
  refine BigFrame.wpQuiet_want rfl (fun K hK => quiet_load_mid 32 _ rfl (w.heap.size + 1) 0 rfl (cellsU8 ys) _ RY.out Tryd.underlying32 rfl IY.out.1 (hK _ ?_))
  clear hK K
  simp only [Act.put, List.setIfInBounds_toArray, List.set_cons_zero, List.set_cons_succ]
  refine BigFrame.wpQuiet_want rfl (fun K hK => quiet_load_mid 32 _ rfl w.heap.size 0 rfl (cellsU8 xs) _ RX.out Tryd.underlying32 rfl IX.out.1 (hK _ ?_))
  clear hK K
  simp only [Act.put, List.setIfInBounds_toArray, List.set_cons_zero, List.set_cons_succ]
  go_big_quiet_step ((intro hCw; exact H22r.out _ hCw))
  refine BigFrame.wpQuiet_want rfl (fun K hK => quiet_plain (v := .int .i64 cz) (fun W => by go_simp; rw [IntKind.wrap_i64]; omega) (hK _ ?_))
  clear hK K
  simp only [Act.put, List.setIfInBounds_toArray, List.set_cons_zero, List.set_cons_succ]
  refine BigFrame.wpQuiet_want rfl (fun K hK => quiet_plain (v := .bool false) (fun W => by go_simp) (hK _ ?_))
  clear hK K
  simp only [Act.put, List.setIfInBounds_toArray, List.set_cons_zero, List.set_cons_succ]
  refine BigFrame.wpQuiet_want rfl (fun K hK => quiet_plain (v := .bool false) (fun W => by go_simp) (hK _ ?_))
  clear hK K
  simp only [Act.put, List.setIfInBounds_toArray, List.set_cons_zero, List.set_cons_succ]
  refine wpQuiet_nil ?_
  intro w' hC'
  have KB : Below w.heap.size w w' := GB.trans (Below.mono hC' (by omega))
  clear H20x H20y H22 H22r RX RY RP hlt hsame G1 G2 G3 GB
  clear hcr hbl
  go_wp2_with fail
  refine Calls.mono (parse_any s w') (fun e w6 hp => ?_)
  obtain ⟨rfl, hb6⟩ := hp
  have KB6 : Below w.heap.size w w6 := KB.trans (hb6.mono KB.size)
  clear hb6 KB hC'
  have hpl := parF_length s
  have hpA := parF_allB s
  have hcase : (okS s = true ∧ parE s = 0 ∧ strOfNums (hexF (parF s)) = s) ∨ (parE s = 4 ∧ parF s = z32) := by
    by_cases h : okS s = true
    · exact .inl ⟨h, by rw [parE, if_pos h], hex_parF h⟩
    · exact .inr ⟨by rw [parE, if_neg h], by rw [parF, if_neg h]; rfl⟩
  generalize parF s = pl at *
  generalize parE s = pe at *
  have HI := Kept.mk (info32 pl hpl)
  have HO := Kept.mk (all_oneCell_toArray (cellsU8_one pl))
  have HT : Kept ((w6.alloc (.cells #[.int .u8 0, .int .u8 0, .int .u8 0, .int .u8 0, .int .u8 0, .int .u8 0, .int .u8 0, .int .u8 0, .int .u8 0, .int .u8 0, .int .u8 0, .int .u8 0, .int .u8 0, .int .u8 0, .int .u8 0, .int .u8 0, .int .u8 0, .int .u8 0, .int .u8 0, .int .u8 0, .int .u8 0, .int .u8 0, .int .u8 0, .int .u8 0, .int .u8 0, .int .u8 0, .int .u8 0, .int .u8 0, .int .u8 0, .int .u8 0, .int .u8 0, .int .u8 0] 32)).there w6.heap.size 0 (cellsU8 pl).toArray.size) := ⟨(alloc_blk8 w6 (List.replicate 32 0) 32).there8 _ (by rw [List.size_toArray, cellsU8_length, hpl, List.length_replicate])⟩
  have HCASE := Kept.mk hcase
  clear hcase
  go_upto_region 7 with (refine wpList_store_mid rfl 32 _ _ rfl w6.heap.size 0 (cellsU8 pl).toArray rfl rfl HT.out HI.out.2 HO.out ?_)
  try simp only [Act.put]
  obtain ⟨w7, g8, hw7, hg8, M1, MB, mz⟩ : ∃ w7 g8, (w6.alloc (.cells #[.int .u8 0, .int .u8 0, .int .u8 0, .int .u8 0, .int .u8 0, .int .u8 0, .int .u8 0, .int .u8 0, .int .u8 0, .int .u8 0, .int .u8 0, .int .u8 0, .int .u8 0, .int .u8 0, .int .u8 0, .int .u8 0, .int .u8 0, .int .u8 0, .int .u8 0, .int .u8 0, .int .u8 0, .int .u8 0, .int .u8 0, .int .u8 0, .int .u8 0, .int .u8 0, .int .u8 0, .int .u8 0, .int .u8 0, .int .u8 0, .int .u8 0, .int .u8 0] 32)).setCells w6.heap.size 0 (cellsU8 pl) = w7 ∧ w6.heap.size = g8 ∧ Blk8 w7 g8 32 pl ∧ Below w.heap.size w w7 ∧ g8 < w7.heap.size :=
    ⟨_, _, rfl, rfl, (alloc_blk8 w6 (List.replicate 32 0) 32).over8 (by rw [hpl, List.length_replicate]), below_cells KB6.size _ 0 w _ (KB6.alloc KB6.size _), by rw [size_setCells]; simp⟩
  rw [hw7, hg8]
  clear hw7 hg8 HT HO KB6
  have RM := Kept.mk M1.range
  rcases HCASE.out with ⟨_, hpe, hhx⟩ | ⟨hpe, hpz⟩
  · subst hpe
    have HHX := Kept.mk hhx
    clear hhx HCASE
    go_wp2_with (refine BigFrame.wpList_want rfl (fun K hK => wp_load_mid 32 _ rfl g8 0 rfl (cellsU8 pl) _ RM.out Tryd.underlying32 rfl HI.out.1 (hK _ _ ?_)))
    refine Calls.mono (hex_any pl w7 hpl hpA) (fun e w8 hp => ?_)
    obtain ⟨rfl, hb8⟩ := hp
    have NB : Below w.heap.size w w8 := MB.trans (hb8.mono MB.size)
    rw [HHX.out]
    clear hb8 MB HHX
    go_wp2
    go_ret
    exact ⟨rfl, NB⟩
  · subst hpe
    subst hpz
    clear HCASE
    have hsm : (Op.equalIn 10000 32 (.agg (cellsU8 z32).toArray) (.agg #[.int .u8 0, .int .u8 0, .int .u8 0, .int .u8 0, .int .u8 0, .int .u8 0, .int .u8 0, .int .u8 0, .int .u8 0, .int .u8 0, .int .u8 0, .int .u8 0, .int .u8 0, .int .u8 0, .int .u8 0, .int .u8 0, .int .u8 0, .int .u8 0, .int .u8 0, .int .u8 0, .int .u8 0, .int .u8 0, .int .u8 0, .int .u8 0, .int .u8 0, .int .u8 0, .int .u8 0, .int .u8 0, .int .u8 0, .int .u8 0, .int .u8 0, .int .u8 0])).run Tryd.prog w7 = .ok true w7 := same_ids w7 z32 rfl
    go_wp2_with (refine BigFrame.wpList_want rfl (fun K hK => wp_load_mid 32 _ rfl g8 0 rfl (cellsU8 z32) _ RM.out Tryd.underlying32 rfl HI.out.1 (hK _ _ ?_)))
    go_ret
    exact ⟨rfl, MB⟩
end Go.Proofs.YtpleamahaogfiaaDoor
