/-
  Entries of any kind in a list: treeSize.
-/
import Derived.Test.YtkbalngddlhlpaaGreatDoorO14
import Derived.Test.YtkbalngddlhlpaaGreatDoorO2N
namespace Go.Proofs.YtkbalngddlhlpaaGreatDoor
open Go.RowKit

structure EnC where
  m : Int
  nm : ByteArray
  ids : List Int
def EnC.l (e : EnC) : List Value := Value.int .i64 e.m :: Value.string e.nm :: cellsK .u8 e.ids
def EnC.ok (e : EnC) : Prop := e.ids.length = 32 ∧ AllIn 0 256 e.ids ∧ -9223372036854775808 ≤ e.m ∧ e.m < 9223372036854775808 ∧ e.nm.size ≤ 140737488355328
def RdE (w : World) (v : Value) (es : List EnC) : Prop :=
  ∃ a c, v = .slice a es.length c ∧ es.length ≤ c ∧ (∀ e ∈ es, e.ok) ∧ (0 < es.length → ∃ b off, a = some ⟨b, off, none⟩ ∧ b < w.heap.size ∧ ∀ i (hi : i < es.length), w.rangeAt b (off + i * 34) (es[i]'hi).l)
theorem RdE.later {w w' : World} {v : Value} {es : List EnC} (h : RdE w v es) (hb : Below w.heap.size w w') : RdE w' v es := by
  obtain ⟨a, c, h1, h2, h3, h4⟩ := h
  refine ⟨a, c, h1, h2, h3, fun h0 => ?_⟩
  obtain ⟨b, off, h5, h6, h7⟩ := h4 h0
  refine ⟨b, off, h5, Nat.lt_of_lt_of_le h6 hb.size, fun i hi j u hu => ?_⟩
  rw [hb.cell (p := ⟨b, off + i * 34 + j, none⟩) h6]
  exact h7 i hi j u hu
theorem EnC.len {e : EnC} (h : e.ok) : e.l.length = 34 := by
  unfold EnC.l
  simp [cellsK, h.1]
def tsF (es : List EnC) : Int := (es.map fun e => ((octS e.m).length : Int) + 1 + (e.nm.size : Int) + 1 + 32).sum
theorem box_cl (w : World) {CL : List Value} {m : Int} {nm : ByteArray} (h0 : CL[0]? = some (.int .i64 m)) (h1 : CL[1]? = some (.string nm)) : ∃ w1, w.alloc (.cells CL.toArray 33) = w1 ∧ Below w.heap.size w w1 ∧ w.heap.size < w1.heap.size ∧ w1.heap[w.heap.size]? = some (.cells CL.toArray 33) ∧ ∀ w', Below w1.heap.size w1 w' → w'.cell? ⟨w.heap.size, 0, none⟩ = some (.int .i64 m) ∧ w'.cell? ⟨w.heap.size, 1, none⟩ = some (.string nm) := by
  have hlt : w.heap.size < (w.alloc (.cells CL.toArray 33)).heap.size := by simp
  refine ⟨_, rfl, (Below.refl _ _).alloc (Nat.le_refl _) _, hlt, heap_alloc_new w _, fun w' hw => ⟨?_, ?_⟩⟩
  · rw [hw.cell (p := ⟨w.heap.size, 0, none⟩) hlt]
    exact alloc_cell _ _ _ _ _ (by simpa using h0)
  · rw [hw.cell (p := ⟨w.heap.size, 1, none⟩) hlt]
    exact alloc_cell _ _ _ _ _ (by simpa using h1)
theorem EnC.ones (e : EnC) : ∀ u ∈ e.l, u.oneCell' = true := by
  intro u hu
  unfold EnC.l at hu
  rcases List.mem_cons.1 hu with rfl | hu
  · rfl
  · rcases List.mem_cons.1 hu with rfl | hu
    · rfl
    · exact cellsK_one .u8 _ u hu
theorem tsF_step (es : List EnC) {k : Nat} (h : k < es.length) : tsF (es.take (k + 1)) = tsF (es.take k) + (((octS (es[k]'h).m).length : Int) + 1 + ((es[k]'h).nm.size : Int) + 1 + 32) := by
  unfold tsF
  rw [List.take_add_one, List.getElem?_eq_getElem h, List.map_append, List.sum_append]
  simp
theorem octS_size (n : Int) : (strOfNums (octS n)).size = (octS n).length ∧ (octS n).length ≤ 24 ∧ 1 ≤ (octS n).length := by
  have h1 : (strOfNums (octS n)).size = (octS n).length := by
    rw [Lib.size_eq, strOfNums_data]
    simp
  refine ⟨h1, ?_, ?_⟩
  · unfold octS
    have := octF_length 22 n.natAbs
    split
    · rw [List.length_cons]; omega
    · omega
  · unfold octS
    have := octF_length 22 n.natAbs
    split
    · rw [List.length_cons]; omega
    · omega
theorem tsF_range (es : List EnC) (hok : ∀ e ∈ es, e.ok) : 0 ≤ tsF es ∧ tsF es ≤ es.length * 140737488356000 := by
  induction es with
  | nil => simp [tsF]
  | cons e es ih =>
    have h1 := ih (fun x hx => hok x (List.mem_cons_of_mem _ hx))
    have h2 := (hok e List.mem_cons_self).2.2.2.2
    have h3 := octS_size e.m
    unfold tsF at *
    rw [List.map_cons, List.sum_cons, List.length_cons]
    constructor <;> omega
theorem wr64 {x : Int} (h0 : -9223372036854775808 ≤ x) (h1 : x ≤ 9223372036854775807) : IntKind.i64.wrap x = x := by
  rw [IntKind.wrap_i64]; omega
set_option maxHeartbeats 1000000 in
set_option maxRecDepth 100000 in
theorem treeSize_any (v : Value) (es : List EnC) (w : World) (hg : Gv w) (hr : RdE w v es) (hl : es.length ≤ 4096) :
    Calls Tryz.prog 52 #[v] w fun e w' => e = .returned (.int .i64 (tsF es)) ∧ Below w.heap.size w w' := by
  obtain ⟨a, c, rfl, hlc, hok, hrd⟩ := hr
  have KR := Kept.mk hrd
  have KK := Kept.mk hok
  have KG := Kept.mk hg
  have hln : (es.length : Int) ≤ 4096 := by omega
  clear hrd hok hg
  go_enter Tryz.func52, Tryz.ntmps52
  go_wp2
  go_loopw [3, 8] (fun sv kv wr => ∃ k : Nat, k ≤ es.length ∧ kv = .int .i64 k ∧ sv = .int .i64 (tsF (es.take k)) ∧ Below w.heap.size w wr) (fun _ kv _ => es.length - (intOf kv).toNat)
  case atStart => exact ⟨0, Nat.zero_le _, rfl, rfl, Below.refl _ _⟩
  case round =>
    obtain ⟨k, hk, rfl, rfl, hbel⟩ := hrel
    have KBr := Kept.mk hbel
    by_cases hlt : k < es.length
    · have hki : (k : Int) < (es.length : Int) := by omega
      obtain ⟨b, off, rfl, hbl, hrg⟩ := KR.out (by omega)
      have hrow : wr.rangeAt b (off + k * 34) (es[k]'hlt).l := fun j u hu => by
        rw [hbel.cell (p := ⟨b, off + k * 34 + j, none⟩) hbl]
        exact hrg k hlt j u hu
      have hoke := KK.out _ (List.getElem_mem hlt)
      have KSt := Kept.mk (tsF_step es hlt)
      have hrng := tsF_range (es.take k) (fun e he => KK.out e (List.mem_of_mem_take he))
      have htl : (es.take k).length ≤ 4096 := by rw [List.length_take]; omega
      have hacc : 0 ≤ tsF (es.take k) ∧ tsF (es.take k) ≤ 4096 * 140737488356000 := ⟨hrng.1, Int.le_trans hrng.2 (Int.mul_le_mul_of_nonneg_right (by omega) (by omega))⟩
      have hos := octS_size (es[k]'hlt).m
      have KMm : Kept (∀ W, Gv W → Calls Tryz.prog 28 #[.int .i64 (es[k]'hlt).m] W fun e w' => e = .returned (.string (strOfNums (octS (es[k]'hlt).m))) ∧ Below W.heap.size W w') := ⟨fun W hW => modeDigits_all _ W hW hoke.2.2.1 hoke.2.2.2.1⟩
      have h34 := EnC.len hoke
      have hones := EnC.ones (es[k]'hlt)
      have hc0 : (es[k]'hlt).l[0]? = some (.int .i64 (es[k]'hlt).m) := rfl
      have hc1 : (es[k]'hlt).l[1]? = some (.string (es[k]'hlt).nm) := rfl
      have hnl := hoke.2.2.2.2
      clear hoke hrg hrng htl
      generalize tsF (es.take k) = acc at *
      generalize strOfNums (octS (es[k]'hlt).m) = T at *
      generalize (octS (es[k]'hlt).m).length = q at *
      generalize (es[k]'hlt).l = CL at *
      generalize (es[k]'hlt).m = m at *
      generalize (es[k]'hlt).nm = nm at *
      obtain ⟨w2, hw2, hB2, hlt2, hh2, hc2⟩ := box_cl wr hc0 hc1
      have hR := Kept.mk hrow
      have KI : Kept ((Tryz.prog.info? 33).map (·.size) = some CL.length) := ⟨by rw [h34]; kernel_rfl⟩
      have KI2 : Kept ((Tryz.prog.info? 33).map (·.size) = some CL.toArray.size) := ⟨by rw [List.size_toArray]; exact KI.out⟩
      have KS : Kept (CL.toArray.size = 34) := ⟨by rw [List.size_toArray]; exact h34⟩
      have KO : Kept (CL.toArray.all (·.oneCell') = true) := ⟨by rw [Array.all_eq_true_iff_forall_mem]; intro x hx; exact hones x (by simpa using hx)⟩
      have KC : Kept (∀ W, CC w2 W → W.cell? ⟨wr.heap.size, 0, none⟩ = some (.int .i64 m) ∧ W.cell? ⟨wr.heap.size, 1, none⟩ = some (.string nm)) := ⟨hc2⟩
      have hBr2 := hbel.trans (hB2.mono hbel.size)
      have KB2 := Kept.mk hBr2
      have KM2 : Kept (∀ W, CC w2 W → Calls Tryz.prog 28 #[.int .i64 m] W fun e w' => e = .returned (.string T) ∧ CC w2 w') := ⟨fun W hW => (KMm.out W ((KG.out.later hBr2).later hW)).mono fun e w' hp => ⟨hp.1, hW.on hp.2⟩⟩
      have hTs : T.size = q := hos.1
      have hq : q ≤ 24 := hos.2.1
      have hqi : (q : Int) ≤ 24 := by omega
      have hni : (nm.size : Int) ≤ 140737488355328 := by omega
      have ha0 := hacc.1
      have ha1 := hacc.2
      have W1 : IntKind.i64.wrap ((q : Int) + 1) = (q : Int) + 1 := wr64 (by omega) (by omega)
      have W2 : IntKind.i64.wrap ((q : Int) + 1 + (nm.size : Int)) = (q : Int) + 1 + (nm.size : Int) := wr64 (by omega) (by omega)
      have W3 : IntKind.i64.wrap ((q : Int) + 1 + (nm.size : Int) + 1) = (q : Int) + 1 + (nm.size : Int) + 1 := wr64 (by omega) (by omega)
      have W4 : IntKind.i64.wrap ((q : Int) + 1 + (nm.size : Int) + 1 + 32) = (q : Int) + 1 + (nm.size : Int) + 1 + 32 := wr64 (by omega) (by omega)
      have W5 : IntKind.i64.wrap (acc + ((q : Int) + 1 + (nm.size : Int) + 1 + 32)) = acc + ((q : Int) + 1 + (nm.size : Int) + 1 + 32) := wr64 (by omega) (by omega)
      clear hbel hrow hos hacc h34 hones hc0 hc1 hB2 hh2 hc2 hBr2 KMm hnl hni ha0 ha1 hq hqi
      go_wp2_with (first | (refine wpList_load_mid rfl 33 _ rfl b (off + k * 34) rfl CL _ hR.out Tryz.underlying33 rfl KI.out ?_) | (refine BigFrame.wpList_want rfl (fun K hK => wp_store_row 33 _ _ rfl wr.heap.size CL.toArray rfl rfl 33 _ (heap_alloc_new wr _) KI2.out (by rw [KS.out]; rfl) KO.out (hK _ _ ?_)); rw [World.setRow_alloc_new]))
      rw [hw2]
      simp only [Act.put]
      refine wp_region_quietC (C := CC w2) (by kernel_rfl) (by kernel_rfl) (Below.refl _ _).drew ?_
      go_big_quiet_step ((intro _; rfl))
      refine BigFrame.wpQuiet_want rfl (fun K hK => quiet_run (v := .pointer (some ⟨wr.heap.size, 0, none⟩)) (fun W hW => by go_simp; all_goals rfl) (hK _ ?_))
      clear hK K
      simp only [Act.put, List.setIfInBounds_toArray, List.set_cons_zero, List.set_cons_succ]
      refine BigFrame.wpQuiet_want rfl (fun K hK => quiet_run (v := .int .i64 m) (fun W hW => by obtain ⟨c0, c1⟩ := KC.out W hW; go_simp; all_goals rfl) (hK _ ?_))
      clear hK K
      simp only [Act.put, List.setIfInBounds_toArray, List.set_cons_zero, List.set_cons_succ]
      go_big_quiet_step ((intro hCw; exact KM2.out _ hCw))
      refine BigFrame.wpQuiet_want rfl (fun K hK => quiet_run (v := .int .i64 (q : Int)) (fun W hW => by go_simp; all_goals rfl) (hK _ ?_))
      clear hK K
      simp only [Act.put, List.setIfInBounds_toArray, List.set_cons_zero, List.set_cons_succ]
      refine BigFrame.wpQuiet_want rfl (fun K hK => quiet_run (v := .int .i64 ((q : Int) + 1)) (fun W hW => by go_simp; all_goals rfl) (hK _ ?_))
      clear hK K
      simp only [Act.put, List.setIfInBounds_toArray, List.set_cons_zero, List.set_cons_succ]
      refine BigFrame.wpQuiet_want rfl (fun K hK => quiet_run (v := .pointer (some ⟨wr.heap.size, 1, none⟩)) (fun W hW => by go_simp; all_goals rfl) (hK _ ?_))
      clear hK K
      simp only [Act.put, List.setIfInBounds_toArray, List.set_cons_zero, List.set_cons_succ]
      refine BigFrame.wpQuiet_want rfl (fun K hK => quiet_run (v := .string nm) (fun W hW => by obtain ⟨c0, c1⟩ := KC.out W hW; go_simp; all_goals rfl) (hK _ ?_))
      clear hK K
      simp only [Act.put, List.setIfInBounds_toArray, List.set_cons_zero, List.set_cons_succ]
      refine BigFrame.wpQuiet_want rfl (fun K hK => quiet_run (v := .int .i64 (nm.size : Int)) (fun W hW => by go_simp; all_goals rfl) (hK _ ?_))
      clear hK K
      simp only [Act.put, List.setIfInBounds_toArray, List.set_cons_zero, List.set_cons_succ]
      refine BigFrame.wpQuiet_want rfl (fun K hK => quiet_run (v := .int .i64 ((q : Int) + 1 + (nm.size : Int))) (fun W hW => by go_simp; all_goals rfl) (hK _ ?_))
      clear hK K
      simp only [Act.put, List.setIfInBounds_toArray, List.set_cons_zero, List.set_cons_succ]
      refine BigFrame.wpQuiet_want rfl (fun K hK => quiet_run (v := .int .i64 ((q : Int) + 1 + (nm.size : Int) + 1)) (fun W hW => by go_simp; all_goals rfl) (hK _ ?_))
      clear hK K
      simp only [Act.put, List.setIfInBounds_toArray, List.set_cons_zero, List.set_cons_succ]
      refine BigFrame.wpQuiet_want rfl (fun K hK => quiet_run (v := .int .i64 ((q : Int) + 1 + (nm.size : Int) + 1 + 32)) (fun W hW => by go_simp; all_goals rfl) (hK _ ?_))
      clear hK K
      simp only [Act.put, List.setIfInBounds_toArray, List.set_cons_zero, List.set_cons_succ]
      refine BigFrame.wpQuiet_want rfl (fun K hK => quiet_run (v := .int .i64 (acc + ((q : Int) + 1 + (nm.size : Int) + 1 + 32))) (fun W hW => by go_simp; all_goals rfl) (hK _ ?_))
      clear hK K
      simp only [Act.put, List.setIfInBounds_toArray, List.set_cons_zero, List.set_cons_succ]
      go_big_quiet_step ((intro _; rfl))
      refine wpQuiet_nil ?_
      intro w3 hw3
      have KB3 := Kept.mk (KB2.out.trans (Below.mono hw3 KB2.out.size))
      clear hw3
      go_wp2
      go_roundw
      case rel => exact ⟨k + 1, by omega, rfl, by rw [KSt.out], KB3.out⟩
      case measure => simp [intOf]; omega
    · have hki : ¬ (k : Int) < (es.length : Int) := by omega
      have KT : Kept (tsF (es.take k) = tsF es) := ⟨by rw [List.take_of_length_le (by omega)]⟩
      clear hbel
      rw [KT.out]
      go_wp2
      go_ret
      exact ⟨rfl, KBr.out⟩
end Go.Proofs.YtkbalngddlhlpaaGreatDoor
