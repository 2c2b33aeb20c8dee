/-
  A list of one entry.
-/
import Derived.Test.YtmnadnhabfflkaaDoorO3
namespace Go.Proofs.YtmnadnhabfflkaaDoor
open Go.RowKit

/-- The cells of an entry. -/
structure Ent (xs : Array Value) (m : Int) (nm : ByteArray) : Prop where
  sz : xs.size = 34
  c0 : xs[0]? = some (.int .i64 m)
  c1 : xs[1]? = some (.string nm)
  one : xs.all (·.oneCell') = true
  idz : ∀ i, i < 32 → xs[2 + i]? = some (.int .u8 0)
theorem info_entry {xs : Array Value} (h : xs.size = 34) : (Tryd.prog.info? 39).map (·.size) = some xs.size := by
  rw [h]
  kernel_rfl
/-- An entry in a block of the call's own. -/
theorem box_ent (w : World) {E : Array Value} {m : Int} {nm : ByteArray} (h : Ent E m nm) : ∃ w1, w.alloc (.cells E 39) = w1 ∧ Below w.heap.size w w1 ∧ w.heap.size < w1.heap.size ∧ w1.heap[w.heap.size]? = some (.cells E 39) ∧ ∀ w', Below w1.heap.size w1 w' → w'.cell? ⟨w.heap.size, 0, none⟩ = some (.int .i64 m) ∧ w'.cell? ⟨w.heap.size, 1, none⟩ = some (.string nm) := by
  have hlt : w.heap.size < (w.alloc (.cells E 39)).heap.size := by simp
  refine ⟨_, rfl, (Below.refl _ _).alloc (Nat.le_refl _) _, hlt, heap_alloc_new w _, fun w' hw => ⟨?_, ?_⟩⟩
  · rw [hw.cell (p := ⟨w.heap.size, 0, none⟩) hlt]
    exact alloc_cell _ _ _ _ _ h.c0
  · rw [hw.cell (p := ⟨w.heap.size, 1, none⟩) hlt]
    exact alloc_cell _ _ _ _ _ h.c1
theorem oct644 : octF 22 33188 = [49, 48, 48, 54, 52, 52] := by decide
set_option maxHeartbeats 400000 in
set_option maxRecDepth 100000 in
theorem treeSize_one {E : Array Value} {b : Nat} {fr : Nat × Nat} (h : Ent E 33188 ⟨#[97]⟩) (w : World) (hg : Gv w) (hb : w.heap[b]? = some (.cells E 39 fr)) :
    Calls Tryd.prog 28 #[.slice (some ⟨b, 0, none⟩) 1 1] w fun e w' => e = .returned (.int .i64 41) ∧ Below w.heap.size w w' := by
  obtain ⟨w1, hw1, hB1, hlt, hh1, hc1⟩ := box_ent w h
  have RX := Kept.mk hb
  have KI := Kept.mk (info_entry h.sz)
  have KS := Kept.mk h.sz
  have KO := Kept.mk h.one
  have KM2 : Kept (∀ W, CC w1 W → Calls Tryd.prog 21 #[.int .i64 33188] W fun e w' => e = .returned (.string (strOfNums [49, 48, 48, 54, 52, 52])) ∧ CC w1 w') := ⟨fun W hW => by
    have := modeDigits_any 33188 W ((hg.later hB1).later hW) (by omega)
    rw [oct644, show ((33188 : Nat) : Int) = 33188 from rfl] at this
    exact this.mono fun e w' hp => ⟨hp.1, hW.on hp.2⟩⟩
  have hsz : (strOfNums [49, 48, 48, 54, 52, 52]).size = 6 := by rfl
  generalize strOfNums [49, 48, 48, 54, 52, 52] = S at *
  have KB1 := Kept.mk hB1
  have KC := Kept.mk hc1
  obtain ⟨c0, c1⟩ := hc1 w1 (Below.refl _ _)
  clear h hg hb hc1 hB1 hh1
  go_enter Tryd.func28, Tryd.ntmps28
  go_wp2
  go_loopw [3, 8] (fun sv kv wr => (kv = .int .i64 0 ∧ sv = .int .i64 0 ∧ wr = w) ∨ (kv = .int .i64 1 ∧ sv = .int .i64 41 ∧ Below w.heap.size w wr)) (fun _ kv _ => 1 - (intOf kv).toNat)
  case atStart => exact Or.inl ⟨rfl, rfl, rfl⟩
  case round =>
    rcases hrel with ⟨rfl, rfl, rfl⟩ | ⟨rfl, rfl, hbel⟩
    · go_wp2_with (first | (refine BigFrame.wpList_want rfl (fun K hK => wp_load_row 39 _ rfl _ rfl _ E _ _ RX.out Tryd.underlying39 rfl KI.out (hK _ _ ?_))) | (refine BigFrame.wpList_want rfl (fun K hK => wp_store_row 39 _ _ rfl wr.heap.size E rfl rfl 39 _ (heap_alloc_new wr _) KI.out (by rw [KS.out]; rfl) KO.out (hK _ _ ?_)); rw [World.setRow_alloc_new]))
      rw [hw1]
      simp only [Act.put]
      refine wp_region_quietC (C := CC w1) (by kernel_rfl) (by kernel_rfl) (Below.refl _ _).drew ?_
      go_big_quiet_step ((intro _; rfl))
      refine BigFrame.wpQuiet_want rfl (fun K hK => quiet_run (v := .pointer (some ⟨wr.heap.size, 0, none⟩)) (fun W hW => by go_simp; all_goals rfl) (hK _ ?_))
      clear hK K
      simp only [Act.put, List.setIfInBounds_toArray, List.set_cons_zero, List.set_cons_succ]
      refine BigFrame.wpQuiet_want rfl (fun K hK => quiet_run (v := .int .i64 33188) (fun W hW => by obtain ⟨c0, c1⟩ := KC.out W hW; go_simp; all_goals rfl) (hK _ ?_))
      clear hK K
      simp only [Act.put, List.setIfInBounds_toArray, List.set_cons_zero, List.set_cons_succ]
      go_big_quiet_step ((intro hCw; exact KM2.out _ hCw))
      refine BigFrame.wpQuiet_want rfl (fun K hK => quiet_run (v := .int .i64 6) (fun W hW => by go_simp; all_goals rfl) (hK _ ?_))
      clear hK K
      simp only [Act.put, List.setIfInBounds_toArray, List.set_cons_zero, List.set_cons_succ]
      refine BigFrame.wpQuiet_want rfl (fun K hK => quiet_run (v := .int .i64 7) (fun W hW => by go_simp; all_goals rfl) (hK _ ?_))
      clear hK K
      simp only [Act.put, List.setIfInBounds_toArray, List.set_cons_zero, List.set_cons_succ]
      refine BigFrame.wpQuiet_want rfl (fun K hK => quiet_run (v := .pointer (some ⟨wr.heap.size, 1, none⟩)) (fun W hW => by go_simp; all_goals rfl) (hK _ ?_))
      clear hK K
      simp only [Act.put, List.setIfInBounds_toArray, List.set_cons_zero, List.set_cons_succ]
      refine BigFrame.wpQuiet_want rfl (fun K hK => quiet_run (v := .string ⟨#[97]⟩) (fun W hW => by obtain ⟨c0, c1⟩ := KC.out W hW; go_simp; all_goals rfl) (hK _ ?_))
      clear hK K
      simp only [Act.put, List.setIfInBounds_toArray, List.set_cons_zero, List.set_cons_succ]
      refine BigFrame.wpQuiet_want rfl (fun K hK => quiet_run (v := .int .i64 1) (fun W hW => by go_simp; all_goals rfl) (hK _ ?_))
      clear hK K
      simp only [Act.put, List.setIfInBounds_toArray, List.set_cons_zero, List.set_cons_succ]
      refine BigFrame.wpQuiet_want rfl (fun K hK => quiet_run (v := .int .i64 8) (fun W hW => by go_simp; all_goals rfl) (hK _ ?_))
      clear hK K
      simp only [Act.put, List.setIfInBounds_toArray, List.set_cons_zero, List.set_cons_succ]
      refine BigFrame.wpQuiet_want rfl (fun K hK => quiet_run (v := .int .i64 9) (fun W hW => by go_simp; all_goals rfl) (hK _ ?_))
      clear hK K
      simp only [Act.put, List.setIfInBounds_toArray, List.set_cons_zero, List.set_cons_succ]
      refine BigFrame.wpQuiet_want rfl (fun K hK => quiet_run (v := .int .i64 41) (fun W hW => by go_simp; all_goals rfl) (hK _ ?_))
      clear hK K
      simp only [Act.put, List.setIfInBounds_toArray, List.set_cons_zero, List.set_cons_succ]
      refine BigFrame.wpQuiet_want rfl (fun K hK => quiet_run (v := .int .i64 41) (fun W hW => by go_simp; all_goals rfl) (hK _ ?_))
      clear hK K
      simp only [Act.put, List.setIfInBounds_toArray, List.set_cons_zero, List.set_cons_succ]
      go_big_quiet_step ((intro _; rfl))
      refine wpQuiet_nil ?_
      intro w2 hw2
      have KB2 := Kept.mk (KB1.out.trans (Below.mono hw2 KB1.out.size))
      clear hw2
      go_wp2
      go_roundw
      case rel => exact Or.inr ⟨rfl, rfl, KB2.out⟩
      case measure => simp [intOf]
    · have KBr := Kept.mk hbel
      clear hbel
      go_wp2
      go_ret
      exact ⟨rfl, KBr.out⟩
end Go.Proofs.YtmnadnhabfflkaaDoor
