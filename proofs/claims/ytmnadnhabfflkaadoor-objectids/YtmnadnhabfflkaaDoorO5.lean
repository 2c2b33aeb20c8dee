/-
  A list of one entry: rising, the two closures, treeError.
-/
import Derived.Test.YtmnadnhabfflkaaDoorO4
import Derived.Maps.OwnSet
namespace Go.Proofs.YtmnadnhabfflkaaDoor
open Go.RowKit

set_option maxHeartbeats 400000 in
set_option maxRecDepth 100000 in
theorem rising_one {b : Nat} (w : World) :
    Calls Tryd.prog 34 #[.slice (some ⟨b, 0, none⟩) 1 1] w fun e w' => e = .returned (.bool true) ∧ Below w.heap.size w w' := by
  go_enter Tryd.func34, Tryd.ntmps34
  go_wp2
  go_loopw [3] (fun iv wr => iv = .int .i64 1 ∧ wr = w) (fun _ _ => 0)
  case atStart => exact ⟨rfl, rfl⟩
  case round =>
    obtain ⟨rfl, rfl⟩ := hrel
    go_wp2
    go_ret
    exact ⟨rfl, Below.refl _ _⟩
theorem name_a : nameF ⟨#[97]⟩ = true := by kernel_rfl
set_option maxHeartbeats 400000 in
set_option maxRecDepth 100000 in
theorem f1_any {E : Array Value} (h : Ent E 33188 ⟨#[97]⟩) (w : World) :
    Calls Tryd.prog 30 #[.agg E] w fun e w' => e = .returned (.bool false) ∧ Below w.heap.size w w' := by
  obtain ⟨w1, hw1, hB1, hlt, hh1, hc1⟩ := box_ent w h
  have KN := name_any ⟨#[97]⟩ w1
  rw [name_a] at KN
  have KN := Kept.mk KN
  have KB1 := Kept.mk hB1
  obtain ⟨c0, c1⟩ := hc1 w1 (Below.refl _ _)
  clear hc1 hB1 hh1 h
  go_enter Tryd.func30, Tryd.ntmps30
  go_wp2_with fail
  refine Calls.mono KN.out (fun e w2 hp => ?_)
  obtain ⟨rfl, hb⟩ := hp
  have KB2 := Kept.mk (KB1.out.trans (hb.mono KB1.out.size))
  clear hb
  go_wp2
  go_ret
  exact ⟨rfl, KB2.out⟩
theorem mode_f : modF 33188 = true := by kernel_rfl
set_option maxHeartbeats 400000 in
set_option maxRecDepth 100000 in
theorem f2_any {E : Array Value} (h : Ent E 33188 ⟨#[97]⟩) (w : World) :
    Calls Tryd.prog 32 #[.agg E] w fun e w' => e = .returned (.bool false) ∧ Below w.heap.size w w' := by
  obtain ⟨w1, hw1, hB1, hlt, hh1, hc1⟩ := box_ent w h
  have KN := mode_any 33188 w1
  rw [mode_f] at KN
  have KN := Kept.mk KN
  have KB1 := Kept.mk hB1
  obtain ⟨c0, c1⟩ := hc1 w1 (Below.refl _ _)
  clear hc1 hB1 hh1 h
  go_enter Tryd.func32, Tryd.ntmps32
  go_wp2_with fail
  refine Calls.mono KN.out (fun e w2 hp => ?_)
  obtain ⟨rfl, hb⟩ := hp
  have KB2 := Kept.mk (KB1.out.trans (hb.mono KB1.out.size))
  clear hb
  go_wp2
  go_ret
  exact ⟨rfl, KB2.out⟩
set_option maxHeartbeats 400000 in
set_option maxRecDepth 100000 in
theorem indexFunc1 {E : Array Value} {b : Nat} {fr : Nat × Nat} (h : Ent E 33188 ⟨#[97]⟩) (w : World) (hb : w.heap[b]? = some (.cells E 39 fr)) :
    Calls Tryd.prog 42 #[.slice (some ⟨b, 0, none⟩) 1 1, .func (.func 30) #[] #[]] w fun e w' => e = .returned (.int .i64 (-1)) ∧ Below w.heap.size w w' := by
  have RX := Kept.mk hb
  have KI := Kept.mk (info_entry h.sz)
  have KF := Kept.mk (f1_any h w)
  clear h hb
  go_enter Tryd.func42, Tryd.ntmps42
  go_wp2
  go_loopw [4, 8] (fun _ kv wr => (kv = .int .i64 0 ∧ wr = w) ∨ (kv = .int .i64 1 ∧ Below w.heap.size w wr)) (fun _ kv _ => 1 - (intOf kv).toNat)
  case atStart => exact Or.inl ⟨rfl, rfl⟩
  case round =>
    rcases hrel with ⟨rfl, rfl⟩ | ⟨rfl, hbel⟩
    · go_wp2_with (first | (refine BigFrame.wpList_want rfl (fun K hK => wp_load_row 39 _ rfl _ rfl _ E _ _ RX.out Tryd.underlying39 rfl KI.out (hK _ _ ?_))))
      refine Calls.mono KF.out (fun e w1 hp => ?_)
      obtain ⟨rfl, hb⟩ := hp
      have KB := Kept.mk hb
      clear hb
      go_wp2
      go_roundw
      case rel => exact Or.inr ⟨rfl, KB.out⟩
      case measure => simp [intOf]
    · have KBr := Kept.mk hbel
      clear hbel
      go_wp2
      go_ret
      exact ⟨rfl, KBr.out⟩
set_option maxHeartbeats 400000 in
set_option maxRecDepth 100000 in
theorem containsFunc1 {E : Array Value} {b : Nat} {fr : Nat × Nat} (h : Ent E 33188 ⟨#[97]⟩) (w : World) (hb : w.heap[b]? = some (.cells E 39 fr)) :
    Calls Tryd.prog 29 #[.slice (some ⟨b, 0, none⟩) 1 1, .func (.func 30) #[] #[]] w fun e w' => e = .returned (.bool false) ∧ Below w.heap.size w w' := by
  have K1 := Kept.mk (indexFunc1 h w hb)
  clear h hb
  go_enter Tryd.func29, Tryd.ntmps29
  go_wp2_with fail
  refine Calls.mono K1.out (fun e w1 hp => ?_)
  obtain ⟨rfl, hb⟩ := hp
  have KB := Kept.mk hb
  clear hb
  go_wp2
  go_ret
  exact ⟨rfl, KB.out⟩
set_option maxHeartbeats 400000 in
set_option maxRecDepth 100000 in
theorem indexFunc2 {E : Array Value} {b : Nat} {fr : Nat × Nat} (h : Ent E 33188 ⟨#[97]⟩) (w : World) (hb : w.heap[b]? = some (.cells E 39 fr)) :
    Calls Tryd.prog 42 #[.slice (some ⟨b, 0, none⟩) 1 1, .func (.func 32) #[] #[]] w fun e w' => e = .returned (.int .i64 (-1)) ∧ Below w.heap.size w w' := by
  have RX := Kept.mk hb
  have KI := Kept.mk (info_entry h.sz)
  have KF := Kept.mk (f2_any h w)
  clear h hb
  go_enter Tryd.func42, Tryd.ntmps42
  go_wp2
  go_loopw [4, 8] (fun _ kv wr => (kv = .int .i64 0 ∧ wr = w) ∨ (kv = .int .i64 1 ∧ Below w.heap.size w wr)) (fun _ kv _ => 1 - (intOf kv).toNat)
  case atStart => exact Or.inl ⟨rfl, rfl⟩
  case round =>
    rcases hrel with ⟨rfl, rfl⟩ | ⟨rfl, hbel⟩
    · go_wp2_with (first | (refine BigFrame.wpList_want rfl (fun K hK => wp_load_row 39 _ rfl _ rfl _ E _ _ RX.out Tryd.underlying39 rfl KI.out (hK _ _ ?_))))
      refine Calls.mono KF.out (fun e w1 hp => ?_)
      obtain ⟨rfl, hb⟩ := hp
      have KB := Kept.mk hb
      clear hb
      go_wp2
      go_roundw
      case rel => exact Or.inr ⟨rfl, KB.out⟩
      case measure => simp [intOf]
    · have KBr := Kept.mk hbel
      clear hbel
      go_wp2
      go_ret
      exact ⟨rfl, KBr.out⟩
set_option maxHeartbeats 400000 in
set_option maxRecDepth 100000 in
theorem containsFunc2 {E : Array Value} {b : Nat} {fr : Nat × Nat} (h : Ent E 33188 ⟨#[97]⟩) (w : World) (hb : w.heap[b]? = some (.cells E 39 fr)) :
    Calls Tryd.prog 29 #[.slice (some ⟨b, 0, none⟩) 1 1, .func (.func 32) #[] #[]] w fun e w' => e = .returned (.bool false) ∧ Below w.heap.size w w' := by
  have K1 := Kept.mk (indexFunc2 h w hb)
  clear h hb
  go_enter Tryd.func29, Tryd.ntmps29
  go_wp2_with fail
  refine Calls.mono K1.out (fun e w1 hp => ?_)
  obtain ⟨rfl, hb⟩ := hp
  have KB := Kept.mk hb
  clear hb
  go_wp2
  go_ret
  exact ⟨rfl, KB.out⟩
theorem run_makeMapS (n : Int) (w : World) : (Instr.makeMap 70 (some (.int .i64 n))).run Tryd.prog w = .ok (.map (some w.heap.size)) (w.alloc (.map #[] 0)) := by
  simp [Instr.makeMap, run_underlying Tryd.underlying70, asInt, asIntOf, newObj]
  rfl
def setD : DataW Unit := DataW.put (.map []) (.string [97]) (.agg [])
theorem setD_size : Maps.size setD = 1 := by kernel_rfl
set_option maxHeartbeats 400000 in
set_option maxRecDepth 100000 in
theorem sameName_one {E : Array Value} {b : Nat} {fr : Nat × Nat} (h : Ent E 33188 ⟨#[97]⟩) (w : World) (hb : w.heap[b]? = some (.cells E 39 fr)) :
    Calls Tryd.prog 35 #[.slice (some ⟨b, 0, none⟩) 1 1] w fun e w' => e = .returned (.bool false) ∧ Below w.heap.size w w' := by
  have hmm := run_makeMapS 1 w
  have hM0 := World.ownsMap_made (H := Unit) w Tryd.prog 9 unitElem
  have hB0 : Below w.heap.size w (w.alloc (.map #[] 0)) := (Below.refl _ _).alloc (Nat.le_refl _) _
  have hblt : b < w.heap.size := (Array.getElem?_eq_some_iff.1 hb).1
  have hb0 : (w.alloc (.map #[] 0)).heap[b]? = some (.cells E 39 fr) := by rw [hB0.block b hblt]; exact hb
  obtain ⟨x1, hx1⟩ : ∃ x1, w.alloc (.map #[] 0) = x1 := ⟨_, rfl⟩
  rw [hx1] at hmm hM0 hB0 hb0
  obtain ⟨x2, hx2, hB2, hlt2, hh2, hc2⟩ := box_ent x1 h
  have hM2 := World.ownsMap.alloc hM0 (.cells E 39)
  rw [hx2] at hM2
  have RX := Kept.mk hb0
  have KI := Kept.mk (info_entry h.sz)
  have KS := Kept.mk h.sz
  have KO := Kept.mk h.one
  have KM := Kept.mk hM2
  have hb12 := hB0.trans (hB2.mono hB0.size)
  have KB2 := Kept.mk hb12
  obtain ⟨c0, c1⟩ := hc2 x2 (Below.refl _ _)
  have hgs : w.heap.size < x1.heap.size := by rw [← hx1]; simp
  obtain ⟨x3, hup, hM3, hgr3⟩ := hM2.update (Maps.string_keyed Tryd.underlying9) Tryd.underlying70 (by unfold maxLen; omega) (key := .string ⟨#[97]⟩) (val := .agg #[]) (kl := .string [97]) (d := .agg []) (ps := []) (WideMaps.keyOf_string_mk Tryd.underlying9 (by unfold maxLen; decide)) unitElem_mk
  have KM3 : Kept (x3.ownsMap Tryd.prog 9 unitElem w.heap.size 1 setD) := ⟨hM3⟩
  have KG3 := Kept.mk hgr3
  clear h hb hc2 hB2 hh2 hM0 hB0 hb0 hx1 hM2 hb12 hM3 hgr3
  go_enter Tryd.func35, Tryd.ntmps35
  go_wp2
  go_loopw [11] (fun kv wr => (kv = .int .i64 0 ∧ wr = x1) ∨ (kv = .int .i64 1 ∧ Below w.heap.size w wr ∧ wr.ownsMap Tryd.prog 9 unitElem w.heap.size 1 setD)) (fun kv _ => 1 - (intOf kv).toNat)
  case atStart => exact Or.inl ⟨rfl, rfl⟩
  case round =>
    rcases hrel with ⟨rfl, rfl⟩ | ⟨rfl, hbel, hM⟩
    · go_wp2_with (first | (refine BigFrame.wpList_want rfl (fun K hK => wp_load_row 39 _ rfl _ rfl _ E _ _ RX.out Tryd.underlying39 rfl KI.out (hK _ _ ?_))) | (refine BigFrame.wpList_want rfl (fun K hK => wp_store_row 39 _ _ rfl wr.heap.size E rfl rfl 39 _ (heap_alloc_new wr _) KI.out (by rw [KS.out]; rfl) KO.out (hK _ _ ?_)); rw [World.setRow_alloc_new]))
      have KB3 : Kept (Below w.heap.size w x3) := ⟨KB2.out.grown KG3.out KB2.out.size (fun k hk => by cases hk; exact Nat.le_refl _)⟩
      go_wp2
      go_roundw
      case rel => exact Or.inr ⟨rfl, KB3.out, KM3.out⟩
      case measure => simp [intOf]
    · have KBr := Kept.mk hbel
      have hlen := hM.len Tryd.underlying70 3
      rw [setD_size] at hlen
      clear hbel hM
      go_wp2
      go_ret
      exact ⟨rfl, KBr.out⟩
end Go.Proofs.YtmnadnhabfflkaaDoor
