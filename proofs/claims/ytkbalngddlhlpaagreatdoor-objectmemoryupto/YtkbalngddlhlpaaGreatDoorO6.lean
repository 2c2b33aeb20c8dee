/-
  A list of one entry.
-/
import Derived.Test.YtkbalngddlhlpaaGreatDoorO2N
import Derived.Maps.OwnSet
import Derived.Lib.AppendStr
import Derived.Maps.AppendAt
namespace Go.Proofs.YtkbalngddlhlpaaGreatDoor
open Go.RowKit

structure Ent (xs : Array Value) (m : Int) (nm : ByteArray) : Prop where
  sz : xs.size = 34
  c0 : xs[0]? = some (.int .i64 m)
  c1 : xs[1]? = some (.string nm)
  one : xs.all (·.oneCell') = true
  idz : ∀ i, i < 32 → xs[2 + i]? = some (.int .u8 0)
theorem info_entry {xs : Array Value} (h : xs.size = 34) : (Tryz.prog.info? 33).map (·.size) = some xs.size := by
  rw [h]
  kernel_rfl
theorem box_ent (w : World) {E : Array Value} {m : Int} {nm : ByteArray} (h : Ent E m nm) : ∃ w1, w.alloc (.cells E 33) = w1 ∧ Below w.heap.size w w1 ∧ w.heap.size < w1.heap.size ∧ w1.heap[w.heap.size]? = some (.cells E 33) ∧ ∀ w', Below w1.heap.size w1 w' → w'.cell? ⟨w.heap.size, 0, none⟩ = some (.int .i64 m) ∧ w'.cell? ⟨w.heap.size, 1, none⟩ = some (.string nm) := by
  have hlt : w.heap.size < (w.alloc (.cells E 33)).heap.size := by simp
  refine ⟨_, rfl, (Below.refl _ _).alloc (Nat.le_refl _) _, hlt, heap_alloc_new w _, fun w' hw => ⟨?_, ?_⟩⟩
  · rw [hw.cell (p := ⟨w.heap.size, 0, none⟩) hlt]
    exact alloc_cell _ _ _ _ _ h.c0
  · rw [hw.cell (p := ⟨w.heap.size, 1, none⟩) hlt]
    exact alloc_cell _ _ _ _ _ h.c1
theorem oct644 : octF 22 33188 = [49, 48, 48, 54, 52, 52] := by decide
set_option maxHeartbeats 400000 in
set_option maxRecDepth 100000 in
theorem treeSize_one {E : Array Value} {b : Nat} {fr : Nat × Nat} (h : Ent E 33188 ⟨#[97]⟩) (w : World) (hg : Gv w) (hb : w.heap[b]? = some (.cells E 33 fr)) :
    Calls Tryz.prog 52 #[.slice (some ⟨b, 0, none⟩) 1 1] w fun e w' => e = .returned (.int .i64 41) ∧ Below w.heap.size w w' := by
  obtain ⟨w1, hw1, hB1, hlt, hh1, hc1⟩ := box_ent w h
  have RX := Kept.mk hb
  have KI := Kept.mk (info_entry h.sz)
  have KS := Kept.mk h.sz
  have KO := Kept.mk h.one
  have KM2 : Kept (∀ W, CC w1 W → Calls Tryz.prog 28 #[.int .i64 33188] W fun e w' => e = .returned (.string (strOfNums [49, 48, 48, 54, 52, 52])) ∧ CC w1 w') := ⟨fun W hW => by
    have := modeDigits_any 33188 W ((hg.later hB1).later hW) (by omega)
    rw [oct644, show ((33188 : Nat) : Int) = 33188 from rfl] at this
    exact this.mono fun e w' hp => ⟨hp.1, hW.on hp.2⟩⟩
  have hsz : (strOfNums [49, 48, 48, 54, 52, 52]).size = 6 := by rfl
  generalize strOfNums [49, 48, 48, 54, 52, 52] = S at *
  have KB1 := Kept.mk hB1
  have KC := Kept.mk hc1
  obtain ⟨c0, c1⟩ := hc1 w1 (Below.refl _ _)
  clear h hg hb hc1 hB1 hh1
  go_enter Tryz.func52, Tryz.ntmps52
  go_wp2
  go_loopw [3, 8] (fun sv kv wr => (kv = .int .i64 0 ∧ sv = .int .i64 0 ∧ wr = w) ∨ (kv = .int .i64 1 ∧ sv = .int .i64 41 ∧ Below w.heap.size w wr)) (fun _ kv _ => 1 - (intOf kv).toNat)
  case atStart => exact Or.inl ⟨rfl, rfl, rfl⟩
  case round =>
    rcases hrel with ⟨rfl, rfl, rfl⟩ | ⟨rfl, rfl, hbel⟩
    · go_wp2_with (first | (refine BigFrame.wpList_want rfl (fun K hK => wp_load_row 33 _ rfl _ rfl _ E _ _ RX.out Tryz.underlying33 rfl KI.out (hK _ _ ?_))) | (refine BigFrame.wpList_want rfl (fun K hK => wp_store_row 33 _ _ rfl wr.heap.size E rfl rfl 33 _ (heap_alloc_new wr _) KI.out (by rw [KS.out]; rfl) KO.out (hK _ _ ?_)); rw [World.setRow_alloc_new]))
      rw [hw1]
      simp only [Act.put]
      refine wp_region_quietC (C := CC w1) (by kernel_rfl) (by kernel_rfl) (Below.refl _ _).drew ?_
      go_big_quiet_step ((intro _; rfl))
      refine BigFrame.wpQuiet_want rfl (fun K hK => quiet_run (v := .pointer (some ⟨wr.heap.size, 0, none⟩)) (fun W hW => by go_simp; all_goals rfl) (hK _ ?_))
      clear hK K
      simp only [Act.put, List.setIfInBounds_toArray, List.set_cons_zero, List.set_cons_succ]
      refine BigFrame.wpQuiet_want rfl (fun K hK => quiet_run (v := .int .i64 33188) (fun W hW => by obtain ⟨c0, c1⟩ := KC.out W hW; go_simp; all_goals rfl) (hK _ ?_))
      clear hK K
      simp only [Act.put, List.setIfInBounds_toArray, List.set_cons_zero, List.set_cons_succ]
      go_big_quiet_step ((intro hCw; exact KM2.out _ hCw))
      refine BigFrame.wpQuiet_want rfl (fun K hK => quiet_run (v := .int .i64 6) (fun W hW => by go_simp; all_goals rfl) (hK _ ?_))
      clear hK K
      simp only [Act.put, List.setIfInBounds_toArray, List.set_cons_zero, List.set_cons_succ]
      refine BigFrame.wpQuiet_want rfl (fun K hK => quiet_run (v := .int .i64 7) (fun W hW => by go_simp; all_goals rfl) (hK _ ?_))
      clear hK K
      simp only [Act.put, List.setIfInBounds_toArray, List.set_cons_zero, List.set_cons_succ]
      refine BigFrame.wpQuiet_want rfl (fun K hK => quiet_run (v := .pointer (some ⟨wr.heap.size, 1, none⟩)) (fun W hW => by go_simp; all_goals rfl) (hK _ ?_))
      clear hK K
      simp only [Act.put, List.setIfInBounds_toArray, List.set_cons_zero, List.set_cons_succ]
      refine BigFrame.wpQuiet_want rfl (fun K hK => quiet_run (v := .string ⟨#[97]⟩) (fun W hW => by obtain ⟨c0, c1⟩ := KC.out W hW; go_simp; all_goals rfl) (hK _ ?_))
      clear hK K
      simp only [Act.put, List.setIfInBounds_toArray, List.set_cons_zero, List.set_cons_succ]
      refine BigFrame.wpQuiet_want rfl (fun K hK => quiet_run (v := .int .i64 1) (fun W hW => by go_simp; all_goals rfl) (hK _ ?_))
      clear hK K
      simp only [Act.put, List.setIfInBounds_toArray, List.set_cons_zero, List.set_cons_succ]
      refine BigFrame.wpQuiet_want rfl (fun K hK => quiet_run (v := .int .i64 8) (fun W hW => by go_simp; all_goals rfl) (hK _ ?_))
      clear hK K
      simp only [Act.put, List.setIfInBounds_toArray, List.set_cons_zero, List.set_cons_succ]
      refine BigFrame.wpQuiet_want rfl (fun K hK => quiet_run (v := .int .i64 9) (fun W hW => by go_simp; all_goals rfl) (hK _ ?_))
      clear hK K
      simp only [Act.put, List.setIfInBounds_toArray, List.set_cons_zero, List.set_cons_succ]
      refine BigFrame.wpQuiet_want rfl (fun K hK => quiet_run (v := .int .i64 41) (fun W hW => by go_simp; all_goals rfl) (hK _ ?_))
      clear hK K
      simp only [Act.put, List.setIfInBounds_toArray, List.set_cons_zero, List.set_cons_succ]
      refine BigFrame.wpQuiet_want rfl (fun K hK => quiet_run (v := .int .i64 41) (fun W hW => by go_simp; all_goals rfl) (hK _ ?_))
      clear hK K
      simp only [Act.put, List.setIfInBounds_toArray, List.set_cons_zero, List.set_cons_succ]
      go_big_quiet_step ((intro _; rfl))
      refine wpQuiet_nil ?_
      intro w2 hw2
      have KB2 := Kept.mk (KB1.out.trans (Below.mono hw2 KB1.out.size))
      clear hw2
      go_wp2
      go_roundw
      case rel => exact Or.inr ⟨rfl, rfl, KB2.out⟩
      case measure => simp [intOf]
    · have KBr := Kept.mk hbel
      clear hbel
      go_wp2
      go_ret
      exact ⟨rfl, KBr.out⟩


set_option maxHeartbeats 400000 in
set_option maxRecDepth 100000 in
theorem rising_one {b : Nat} (w : World) :
    Calls Tryz.prog 58 #[.slice (some ⟨b, 0, none⟩) 1 1] w fun e w' => e = .returned (.bool true) ∧ Below w.heap.size w w' := by
  go_enter Tryz.func58, Tryz.ntmps58
  go_wp2
  go_loopw [3] (fun iv wr => iv = .int .i64 1 ∧ wr = w) (fun _ _ => 0)
  case atStart => exact ⟨rfl, rfl⟩
  case round =>
    obtain ⟨rfl, rfl⟩ := hrel
    go_wp2
    go_ret
    exact ⟨rfl, Below.refl _ _⟩
theorem name_a : nameF ⟨#[97]⟩ = true := by kernel_rfl
set_option maxHeartbeats 400000 in
set_option maxRecDepth 100000 in
theorem f1_any {E : Array Value} (h : Ent E 33188 ⟨#[97]⟩) (w : World) :
    Calls Tryz.prog 54 #[.agg E] w fun e w' => e = .returned (.bool false) ∧ Below w.heap.size w w' := by
  obtain ⟨w1, hw1, hB1, hlt, hh1, hc1⟩ := box_ent w h
  have KN := name_any ⟨#[97]⟩ w1
  rw [name_a] at KN
  have KN := Kept.mk KN
  have KB1 := Kept.mk hB1
  obtain ⟨c0, c1⟩ := hc1 w1 (Below.refl _ _)
  clear hc1 hB1 hh1 h
  go_enter Tryz.func54, Tryz.ntmps54
  go_wp2_with fail
  refine Calls.mono KN.out (fun e w2 hp => ?_)
  obtain ⟨rfl, hb⟩ := hp
  have KB2 := Kept.mk (KB1.out.trans (hb.mono KB1.out.size))
  clear hb
  go_wp2
  go_ret
  exact ⟨rfl, KB2.out⟩
theorem mode_f : modF 33188 = true := by kernel_rfl
set_option maxHeartbeats 400000 in
set_option maxRecDepth 100000 in
theorem f2_any {E : Array Value} (h : Ent E 33188 ⟨#[97]⟩) (w : World) :
    Calls Tryz.prog 56 #[.agg E] w fun e w' => e = .returned (.bool false) ∧ Below w.heap.size w w' := by
  obtain ⟨w1, hw1, hB1, hlt, hh1, hc1⟩ := box_ent w h
  have KN := mode_any 33188 w1
  rw [mode_f] at KN
  have KN := Kept.mk KN
  have KB1 := Kept.mk hB1
  obtain ⟨c0, c1⟩ := hc1 w1 (Below.refl _ _)
  clear hc1 hB1 hh1 h
  go_enter Tryz.func56, Tryz.ntmps56
  go_wp2_with fail
  refine Calls.mono KN.out (fun e w2 hp => ?_)
  obtain ⟨rfl, hb⟩ := hp
  have KB2 := Kept.mk (KB1.out.trans (hb.mono KB1.out.size))
  clear hb
  go_wp2
  go_ret
  exact ⟨rfl, KB2.out⟩
set_option maxHeartbeats 400000 in
set_option maxRecDepth 100000 in
theorem indexFunc1 {E : Array Value} {b : Nat} {fr : Nat × Nat} (h : Ent E 33188 ⟨#[97]⟩) (w : World) (hb : w.heap[b]? = some (.cells E 33 fr)) :
    Calls Tryz.prog 90 #[.slice (some ⟨b, 0, none⟩) 1 1, .func (.func 54) #[] #[]] w fun e w' => e = .returned (.int .i64 (-1)) ∧ Below w.heap.size w w' := by
  have RX := Kept.mk hb
  have KI := Kept.mk (info_entry h.sz)
  have KF := Kept.mk (f1_any h w)
  clear h hb
  go_enter Tryz.func90, Tryz.ntmps90
  go_wp2
  go_loopw [4, 8] (fun _ kv wr => (kv = .int .i64 0 ∧ wr = w) ∨ (kv = .int .i64 1 ∧ Below w.heap.size w wr)) (fun _ kv _ => 1 - (intOf kv).toNat)
  case atStart => exact Or.inl ⟨rfl, rfl⟩
  case round =>
    rcases hrel with ⟨rfl, rfl⟩ | ⟨rfl, hbel⟩
    · go_wp2_with (first | (refine BigFrame.wpList_want rfl (fun K hK => wp_load_row 33 _ rfl _ rfl _ E _ _ RX.out Tryz.underlying33 rfl KI.out (hK _ _ ?_))))
      refine Calls.mono KF.out (fun e w1 hp => ?_)
      obtain ⟨rfl, hb⟩ := hp
      have KB := Kept.mk hb
      clear hb
      go_wp2
      go_roundw
      case rel => exact Or.inr ⟨rfl, KB.out⟩
      case measure => simp [intOf]
    · have KBr := Kept.mk hbel
      clear hbel
      go_wp2
      go_ret
      exact ⟨rfl, KBr.out⟩
set_option maxHeartbeats 400000 in
set_option maxRecDepth 100000 in
theorem containsFunc1 {E : Array Value} {b : Nat} {fr : Nat × Nat} (h : Ent E 33188 ⟨#[97]⟩) (w : World) (hb : w.heap[b]? = some (.cells E 33 fr)) :
    Calls Tryz.prog 53 #[.slice (some ⟨b, 0, none⟩) 1 1, .func (.func 54) #[] #[]] w fun e w' => e = .returned (.bool false) ∧ Below w.heap.size w w' := by
  have K1 := Kept.mk (indexFunc1 h w hb)
  clear h hb
  go_enter Tryz.func53, Tryz.ntmps53
  go_wp2_with fail
  refine Calls.mono K1.out (fun e w1 hp => ?_)
  obtain ⟨rfl, hb⟩ := hp
  have KB := Kept.mk hb
  clear hb
  go_wp2
  go_ret
  exact ⟨rfl, KB.out⟩
set_option maxHeartbeats 400000 in
set_option maxRecDepth 100000 in
theorem indexFunc2 {E : Array Value} {b : Nat} {fr : Nat × Nat} (h : Ent E 33188 ⟨#[97]⟩) (w : World) (hb : w.heap[b]? = some (.cells E 33 fr)) :
    Calls Tryz.prog 90 #[.slice (some ⟨b, 0, none⟩) 1 1, .func (.func 56) #[] #[]] w fun e w' => e = .returned (.int .i64 (-1)) ∧ Below w.heap.size w w' := by
  have RX := Kept.mk hb
  have KI := Kept.mk (info_entry h.sz)
  have KF := Kept.mk (f2_any h w)
  clear h hb
  go_enter Tryz.func90, Tryz.ntmps90
  go_wp2
  go_loopw [4, 8] (fun _ kv wr => (kv = .int .i64 0 ∧ wr = w) ∨ (kv = .int .i64 1 ∧ Below w.heap.size w wr)) (fun _ kv _ => 1 - (intOf kv).toNat)
  case atStart => exact Or.inl ⟨rfl, rfl⟩
  case round =>
    rcases hrel with ⟨rfl, rfl⟩ | ⟨rfl, hbel⟩
    · go_wp2_with (first | (refine BigFrame.wpList_want rfl (fun K hK => wp_load_row 33 _ rfl _ rfl _ E _ _ RX.out Tryz.underlying33 rfl KI.out (hK _ _ ?_))))
      refine Calls.mono KF.out (fun e w1 hp => ?_)
      obtain ⟨rfl, hb⟩ := hp
      have KB := Kept.mk hb
      clear hb
      go_wp2
      go_roundw
      case rel => exact Or.inr ⟨rfl, KB.out⟩
      case measure => simp [intOf]
    · have KBr := Kept.mk hbel
      clear hbel
      go_wp2
      go_ret
      exact ⟨rfl, KBr.out⟩
set_option maxHeartbeats 400000 in
set_option maxRecDepth 100000 in
theorem containsFunc2 {E : Array Value} {b : Nat} {fr : Nat × Nat} (h : Ent E 33188 ⟨#[97]⟩) (w : World) (hb : w.heap[b]? = some (.cells E 33 fr)) :
    Calls Tryz.prog 53 #[.slice (some ⟨b, 0, none⟩) 1 1, .func (.func 56) #[] #[]] w fun e w' => e = .returned (.bool false) ∧ Below w.heap.size w w' := by
  have K1 := Kept.mk (indexFunc2 h w hb)
  clear h hb
  go_enter Tryz.func53, Tryz.ntmps53
  go_wp2_with fail
  refine Calls.mono K1.out (fun e w1 hp => ?_)
  obtain ⟨rfl, hb⟩ := hp
  have KB := Kept.mk hb
  clear hb
  go_wp2
  go_ret
  exact ⟨rfl, KB.out⟩
theorem run_makeMapS (n : Int) (w : World) : (Instr.makeMap 116 (some (.int .i64 n))).run Tryz.prog w = .ok (.map (some w.heap.size)) (w.alloc (.map #[] 0)) := by
  simp [Instr.makeMap, run_underlying Tryz.underlying116, asInt, asIntOf, newObj]
  rfl
def setD : DataW Unit := DataW.put (.map []) (.string [97]) (.agg [])
theorem setD_size : Maps.size setD = 1 := by kernel_rfl
set_option maxHeartbeats 400000 in
set_option maxRecDepth 100000 in
theorem sameName_one {E : Array Value} {b : Nat} {fr : Nat × Nat} (h : Ent E 33188 ⟨#[97]⟩) (w : World) (hb : w.heap[b]? = some (.cells E 33 fr)) :
    Calls Tryz.prog 59 #[.slice (some ⟨b, 0, none⟩) 1 1] w fun e w' => e = .returned (.bool false) ∧ Below w.heap.size w w' := by
  have hmm := run_makeMapS 1 w
  have hM0 := World.ownsMap_made (H := Unit) w Tryz.prog 9 unitElem
  have hB0 : Below w.heap.size w (w.alloc (.map #[] 0)) := (Below.refl _ _).alloc (Nat.le_refl _) _
  have hblt : b < w.heap.size := (Array.getElem?_eq_some_iff.1 hb).1
  have hb0 : (w.alloc (.map #[] 0)).heap[b]? = some (.cells E 33 fr) := by rw [hB0.block b hblt]; exact hb
  obtain ⟨x1, hx1⟩ : ∃ x1, w.alloc (.map #[] 0) = x1 := ⟨_, rfl⟩
  rw [hx1] at hmm hM0 hB0 hb0
  obtain ⟨x2, hx2, hB2, hlt2, hh2, hc2⟩ := box_ent x1 h
  have hM2 := World.ownsMap.alloc hM0 (.cells E 33)
  rw [hx2] at hM2
  have RX := Kept.mk hb0
  have KI := Kept.mk (info_entry h.sz)
  have KS := Kept.mk h.sz
  have KO := Kept.mk h.one
  have KM := Kept.mk hM2
  have hb12 := hB0.trans (hB2.mono hB0.size)
  have KB2 := Kept.mk hb12
  obtain ⟨c0, c1⟩ := hc2 x2 (Below.refl _ _)
  have hgs : w.heap.size < x1.heap.size := by rw [← hx1]; simp
  obtain ⟨x3, hup, hM3, hgr3⟩ := hM2.update (Maps.string_keyed Tryz.underlying9) Tryz.underlying116 (by unfold maxLen; omega) (key := .string ⟨#[97]⟩) (val := .agg #[]) (kl := .string [97]) (d := .agg []) (ps := []) (WideMaps.keyOf_string_mk Tryz.underlying9 (by unfold maxLen; decide)) unitElem_mk
  have KM3 : Kept (x3.ownsMap Tryz.prog 9 unitElem w.heap.size 1 setD) := ⟨hM3⟩
  have KG3 := Kept.mk hgr3
  clear h hb hc2 hB2 hh2 hM0 hB0 hb0 hx1 hM2 hb12 hM3 hgr3
  go_enter Tryz.func59, Tryz.ntmps59
  go_wp2
  go_loopw [11] (fun kv wr => (kv = .int .i64 0 ∧ wr = x1) ∨ (kv = .int .i64 1 ∧ Below w.heap.size w wr ∧ wr.ownsMap Tryz.prog 9 unitElem w.heap.size 1 setD)) (fun kv _ => 1 - (intOf kv).toNat)
  case atStart => exact Or.inl ⟨rfl, rfl⟩
  case round =>
    rcases hrel with ⟨rfl, rfl⟩ | ⟨rfl, hbel, hM⟩
    · go_wp2_with (first | (refine BigFrame.wpList_want rfl (fun K hK => wp_load_row 33 _ rfl _ rfl _ E _ _ RX.out Tryz.underlying33 rfl KI.out (hK _ _ ?_))) | (refine BigFrame.wpList_want rfl (fun K hK => wp_store_row 33 _ _ rfl wr.heap.size E rfl rfl 33 _ (heap_alloc_new wr _) KI.out (by rw [KS.out]; rfl) KO.out (hK _ _ ?_)); rw [World.setRow_alloc_new]))
      have KB3 : Kept (Below w.heap.size w x3) := ⟨KB2.out.grown KG3.out KB2.out.size (fun k hk => by cases hk; exact Nat.le_refl _)⟩
      go_wp2
      go_roundw
      case rel => exact Or.inr ⟨rfl, KB3.out, KM3.out⟩
      case measure => simp [intOf]
    · have KBr := Kept.mk hbel
      have hlen := hM.len Tryz.underlying116 3
      rw [setD_size] at hlen
      clear hbel hM
      go_wp2
      go_ret
      exact ⟨rfl, KBr.out⟩


set_option maxHeartbeats 400000 in
set_option maxRecDepth 100000 in
theorem treeError_one {E : Array Value} {b : Nat} {fr : Nat × Nat} (h : Ent E 33188 ⟨#[97]⟩) (w : World) (hg : Gv w) (hb : w.heap[b]? = some (.cells E 33 fr)) :
    Calls Tryz.prog 27 #[.slice (some ⟨b, 0, none⟩) 1 1] w fun e w' => e = .returned (.int .i64 0) ∧ Below w.heap.size w w' := by
  have hblt : b < w.heap.size := (Array.getElem?_eq_some_iff.1 hb).1
  have hfar : ∀ w', Below w.heap.size w w' → w'.heap[b]? = some (.cells E 33 fr) := fun w' hw => by rw [hw.block b hblt]; exact hb
  have K1 := Kept.mk (treeSize_one h w hg hb)
  have K2 : Kept (∀ w', Below w.heap.size w w' → _) := ⟨fun w' hw => containsFunc1 h w' (hfar w' hw)⟩
  have K3 : Kept (∀ w', Below w.heap.size w w' → _) := ⟨fun w' hw => containsFunc2 h w' (hfar w' hw)⟩
  have K4 : Kept (∀ w', Below w.heap.size w w' → _) := ⟨fun w' hw => rising_one (b := b) w'⟩
  have K5 : Kept (∀ w', Below w.heap.size w w' → _) := ⟨fun w' hw => sameName_one h w' (hfar w' hw)⟩
  clear hg hb h hfar hblt
  go_enter Tryz.func27, Tryz.ntmps27
  go_wp2_with fail
  refine Calls.mono K1.out (fun e w1 hp => ?_)
  obtain ⟨rfl, hb1⟩ := hp
  have KB1 := Kept.mk hb1
  clear hb1
  go_wp2_with fail
  refine Calls.mono (K2.out w1 KB1.out) (fun e w2 hp => ?_)
  obtain ⟨rfl, hb⟩ := hp
  have KB2 := Kept.mk (KB1.out.trans (hb.mono KB1.out.size))
  clear hb
  go_wp2_with fail
  refine Calls.mono (K3.out w2 KB2.out) (fun e w3 hp => ?_)
  obtain ⟨rfl, hb⟩ := hp
  have KB3 := Kept.mk (KB2.out.trans (hb.mono KB2.out.size))
  clear hb
  go_wp2_with fail
  refine Calls.mono (K4.out w3 KB3.out) (fun e w4 hp => ?_)
  obtain ⟨rfl, hb⟩ := hp
  have KB4 := Kept.mk (KB3.out.trans (hb.mono KB3.out.size))
  clear hb
  go_wp2_with fail
  refine Calls.mono (K5.out w4 KB4.out) (fun e w5 hp => ?_)
  obtain ⟨rfl, hb⟩ := hp
  have KB5 := Kept.mk (KB4.out.trans (hb.mono KB4.out.size))
  clear hb
  go_wp2
  go_ret
  exact ⟨rfl, KB5.out⟩
def strL (s : ByteArray) : List Int := s.data.toList.map fun b => (b.toNat : Int)
theorem strL_length (s : ByteArray) : (strL s).length = s.size := by rw [strL, List.length_map, Lib.size_eq]
theorem cells_strL (s : ByteArray) : cellsK .u8 (strL s) = Lib.strCells s := by
  unfold cellsK strL Lib.strCells
  rw [List.map_map]
  rfl
set_option maxRecDepth 100000 in
theorem info8z : ∃ i, Tryz.prog.info? 5 = some i ∧ i.zero = some (.int .u8 0) ∧ i.size = 1 ∧ i.bytes = 1 := ⟨_, rfl, rfl, rfl, rfl⟩
theorem wpList_append_s (w : World) {ops : Array Oper} {rest : List Oper} {o : Oper} {a : Act} {Q : Exit → Act → World → Prop} (hgd : o.guard = none) (sl x : Operand)
    (ho : o.op = .call { callee := .builtin .append, args := #[sl, x], argTypes := #[27, 9] })
    (base : Nat) (v : Value) (xs : List Int) (hs : a.eval sl = v) (hown : Own .u8 5 w base v xs) (s : ByteArray) (hx : a.eval x = .string s)
    (hbytes : xs.length + s.size ≤ 140737488355328) (hbase : base ≤ w.heap.size)
    (h : ∀ v' w', Own .u8 5 w' base v' (xs ++ strL s) → w.grownBy w' v.ownBlock → wpList Tryz.prog ops Q rest (a.put o.dst v') w') : wpList Tryz.prog ops Q (o :: rest) a w := by
  obtain ⟨i, hi, hz, hsz, hb⟩ := info8z
  refine Lib.wpList_append_own_string w hgd sl x 27 9 ho base 5 i Tryz.underlying27 Tryz.underlying9 hi hz hsz hb v xs.length (cellsK .u8 xs) hs hown s hx (by unfold maxLen; omega) hbytes hbase (fun v' w' h1 h2 _ => h v' w' ?_ h2)
  unfold Own
  rw [List.length_append, strL_length, cellsK_append, cells_strL]
  exact h1
theorem slice32 (w : World) (g k : Nat) : (Instr.sliceAt 31 (.pointer (some ⟨g, k, none⟩)) none none none).run Tryz.prog w = .ok (.slice (some ⟨g, k, none⟩) 32 32) w := by
  have hl : Tryz.prog.arrayLen 31 = 32 := by kernel_rfl
  have he : Tryz.prog.elem 31 = 5 := by kernel_rfl
  have hs : (sizeOf 5).run Tryz.prog w = .ok 1 w := by
    obtain ⟨i, z, hi, hz, hs, hb, hc⟩ := info8
    simp [sizeOf, typeInfo, hi, hs]
  rw [run_sliceAt_array_all w 31 ⟨g, k, none⟩ (by rw [hl, he]; exact Tryz.underlying31), hl, he, hs]
  simp only [Result.andThen, slicedAt, Nat.zero_mul]
  rw [if_neg (by omega), add_plain, Nat.add_zero]
theorem rd_id {w : World} {E : Array Value} {m : Int} {nm : ByteArray} {g : Nat} {fr : Nat × Nat} (h : Ent E m nm) (hb : w.heap[g]? = some (.cells E 33 fr)) : Rd .u8 anyB w (.slice (some ⟨g, 2, none⟩) 32 32) (List.replicate 32 0) := by
  refine ⟨some ⟨g, 2, none⟩, 32, rfl, by simp, by unfold maxLen; omega, (fun h => by cases h), fun _ => ⟨g, 2, rfl, (Array.getElem?_eq_some_iff.1 hb).1, trivial, fun i hi => ?_⟩⟩
  have hi' : i < 32 := by simpa using hi
  rw [cell_of_row w g (2 + i) E _ fr hb, h.idz i hi', List.getD_eq_getElem?_getD, List.getElem?_replicate, if_pos hi']
  rfl
set_option maxHeartbeats 1000000 in
set_option maxRecDepth 100000 in
theorem putTree_one {E : Array Value} {b : Nat} {fr : Nat × Nat} (h : Ent E 33188 ⟨#[97]⟩) (w : World) (hg : Gv w) (hb : w.heap[b]? = some (.cells E 33 fr)) :
    Calls Tryz.prog 7 #[.slice (some ⟨b, 0, none⟩) 1 1] w fun e w' => ∃ v, e = .returned (.tuple #[v, .int .i64 0]) ∧ Own .u8 5 w' w.heap.size v ([49, 48, 48, 54, 52, 52, 32, 97, 0] ++ List.replicate 32 0) ∧ Below w.heap.size w w' := by
  have hblt : b < w.heap.size := (Array.getElem?_eq_some_iff.1 hb).1
  have hfar : ∀ w', Below w.heap.size w w' → w'.heap[b]? = some (.cells E 33 fr) := fun w' hw => by rw [hw.block b hblt]; exact hb
  have K1 := Kept.mk (treeError_one h w hg hb)
  have KI := Kept.mk (info_entry h.sz)
  have KS := Kept.mk h.sz
  have KO := Kept.mk h.one
  obtain ⟨i0, z0, hi, hz, hsz, hbb, hc⟩ := info8
  have KH := Kept.mk h
  have KG := Kept.mk hg
  have KF := Kept.mk hfar
  clear h hg hb hfar
  go_enter Tryz.func7, Tryz.ntmps7
  go_wp2_with fail
  refine Calls.mono K1.out (fun e w1 hp => ?_)
  obtain ⟨rfl, hb1⟩ := hp
  have RX := Kept.mk (KF.out w1 hb1)
  have KB1 := Kept.mk hb1
  obtain ⟨x2, hx2, hB2, hlt2, hh2, hc2⟩ := box_ent w1 KH.out
  have KB2 := Kept.mk (KB1.out.trans (hB2.mono KB1.out.size))
  have KM := modeDigits_any 33188 x2 (KG.out.later KB2.out) (by omega)
  rw [oct644, show ((33188 : Nat) : Int) = 33188 from rfl] at KM
  have hS : strL (strOfNums [49, 48, 48, 54, 52, 52]) = [49, 48, 48, 54, 52, 52] := by decide
  have hSz : (strOfNums [49, 48, 48, 54, 52, 52]).size = 6 := by rfl
  generalize strOfNums [49, 48, 48, 54, 52, 52] = S at *
  have KM := Kept.mk KM
  have KC2 := Kept.mk hc2
  have KHh := Kept.mk hh2
  have KSS := Kept.mk hS
  obtain ⟨c0, c1⟩ := hc2 x2 (Below.refl _ _)
  have hw1s := KB1.out.size
  clear hb1 hB2 hc2 hh2 K1 hS
  go_wp2
  go_loopw [5, 15] (fun pv kv wr => (kv = .int .i64 0 ∧ pv = .slice none 0 0 ∧ wr = w1) ∨ (kv = .int .i64 1 ∧ Own .u8 5 wr w.heap.size pv ([49, 48, 48, 54, 52, 52, 32, 97, 0] ++ List.replicate 32 0) ∧ Below w.heap.size w wr)) (fun _ kv _ => 1 - (intOf kv).toNat)
  case atStart => exact Or.inl ⟨rfl, rfl, rfl⟩
  case round =>
    rcases hrel with ⟨rfl, rfl, rfl⟩ | ⟨rfl, hown, hbel⟩
    · go_wp2_with (first | (refine BigFrame.wpList_want rfl (fun K hK => wp_load_row 33 _ rfl _ rfl _ E _ _ RX.out Tryz.underlying33 rfl KI.out (hK _ _ ?_))) | (refine BigFrame.wpList_want rfl (fun K hK => wp_store_row 33 _ _ rfl wr.heap.size E rfl rfl 33 _ (heap_alloc_new wr _) KI.out (by rw [KS.out]; rfl) KO.out (hK _ _ ?_)); rw [World.setRow_alloc_new]))
      refine Calls.mono KM.out (fun e w3 hp => ?_)
      obtain ⟨rfl, hb3⟩ := hp
      have KB3 := Kept.mk (KB2.out.trans (hb3.mono KB2.out.size))
      have K23 := Kept.mk hb3
      clear hb3 c0 c1
      go_wp2_with (first | (at_builtin; refine wpList_append_s _ rfl _ _ rfl x2.heap.size (.slice none 0 0) [] rfl (Own.nil _ _ _ _) S rfl (by simp; omega) K23.out.size ?_; intro p4 w4 ho4 hg4; have KB4 := Kept.mk (K23.out.grown hg4 K23.out.size (fun k hk => by cases hk)); rw [List.nil_append, KSS.out] at ho4; have KO4 := Kept.mk (ho4.alloc (.cells #[.int .u8 32] 5)); have KL4 := Kept.mk ho4; obtain ⟨a4, n4, rfl, -, -, -⟩ := ho4.rd.form; have KA4 := Kept.mk (KB4.out.alloc KB4.out.size (.cells #[.int .u8 32] 5)); clear ho4 hg4) | (at_builtin; refine wpList_append_rd _ rfl _ _ 27 rfl .u8 anyB 1 x2.heap.size 5 i0 z0 Tryz.underlying27 hi hz hsz hbb hc (by omega) _ [49, 48, 48, 54, 52, 52] rfl KO4.out _ [32] rfl (Rd.one .u8 _ 32 _) (by simp) KA4.out.size ?_; intro p5 w5 ho5 hg5 hat5; have KB5 := Kept.mk (KA4.out.grown hg5 KA4.out.size (fun k hk => (KL4.out.lt k hk).1)); have KO5 := Kept.mk ho5; obtain ⟨a5, n5, rfl, -, -, -⟩ := ho5.rd.form; obtain ⟨d0, d1⟩ := KC2.out w5 KB5.out; clear ho5 hg5 hat5) | (at_builtin; refine wpList_append_s _ rfl _ _ rfl x2.heap.size _ ([49, 48, 48, 54, 52, 52] ++ [32]) rfl KO5.out ⟨#[97]⟩ rfl (by decide) KB5.out.size ?_; intro p6 w6 ho6 hg6; have KB6 := Kept.mk (KB5.out.grown hg6 KB5.out.size (fun k hk => (KO5.out.lt k hk).1)); have KO6 := Kept.mk (ho6.alloc (.cells #[.int .u8 0] 5)); have KL6 := Kept.mk ho6; obtain ⟨a6, n6, rfl, -, -, -⟩ := ho6.rd.form; have KA6 := Kept.mk (KB6.out.alloc KB6.out.size (.cells #[.int .u8 0] 5)); clear ho6 hg6 d0 d1) | (at_builtin; refine wpList_append_rd _ rfl _ _ 27 rfl .u8 anyB 1 x2.heap.size 5 i0 z0 Tryz.underlying27 hi hz hsz hbb hc (by omega) _ ([49, 48, 48, 54, 52, 52] ++ [32] ++ strL ⟨#[97]⟩) rfl KO6.out _ [0] rfl (Rd.one .u8 _ 0 _) (by decide) KA6.out.size ?_; intro p7 w7 ho7 hg7 hat7; have KB7 := Kept.mk (KA6.out.grown hg7 KA6.out.size (fun k hk => (KL6.out.lt k hk).1)); have KO7 := Kept.mk ho7; obtain ⟨a7, n7, rfl, -, -, -⟩ := ho7.rd.form; have hsl := slice32 w7 wr.heap.size 2; have KR7 := Kept.mk (rd_id KH.out (by rw [KB7.out.block _ hlt2]; exact KHh.out)); clear ho7 hg7 hat7) | (at_builtin; refine wpList_append_rd _ rfl _ _ 27 rfl .u8 anyB 1 x2.heap.size 5 i0 z0 Tryz.underlying27 hi hz hsz hbb hc (by omega) _ ([49, 48, 48, 54, 52, 52] ++ [32] ++ strL ⟨#[97]⟩ ++ [0]) rfl KO7.out _ (List.replicate 32 0) rfl KR7.out (by decide) KB7.out.size ?_; intro p8 w8 ho8 hg8 hat8; have KB8 := Kept.mk (KB7.out.grown hg8 KB7.out.size (fun k hk => (KO7.out.lt k hk).1)); have KO8 := Kept.mk ho8; clear ho8 hg8 hat8))
      go_roundw
      case rel =>
        refine Or.inr ⟨rfl, ?_, KB2.out.trans (KB8.out.mono KB2.out.size)⟩
        exact KO8.out.mono KB2.out.size
      case measure => simp [intOf]
    · have KBr := Kept.mk hbel
      have KOr := Kept.mk hown
      clear hbel hown
      go_wp2
      go_ret2
      exact ⟨_, rfl, KOr.out, KBr.out⟩
end Go.Proofs.YtkbalngddlhlpaaGreatDoor
