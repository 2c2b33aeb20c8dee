/-
  Walks: calls of a nil disk.
-/
import Derived.Test.YtegdadkejheagaaDoorFX1
namespace Go.Proofs.YtegdadkejheagaaDoor
open Go.RowKit Go.WideMaps Go.Maps

set_option maxRecDepth 100000 in
theorem begin_nil (r : Bool) (v : Value) (w : World) (hv : ∃ a n c, v = .slice a n c) : Calls Tryd.prog 31 #[.pointer none, .bool r, v] w fun e w' => e = .returned (.int .i64 7) ∧ w' = w := by
  have KRy := Kept.mk (ready_nil w)
  obtain ⟨a, n, c, rfl⟩ := hv
  go_enter Tryd.func31, Tryd.ntmps31
  go_wp2_with fail
  refine Calls.mono KRy.out (fun x w1 hp => ?_)
  obtain ⟨rfl, rfl⟩ := hp
  go_wp2
  go_ret
  exact ⟨rfl, rfl⟩
set_option maxRecDepth 100000 in
theorem open_nil (v : Value) (w : World) (hv : ∃ a n c, v = .slice a n c) : Calls Tryd.prog 27 #[.pointer none, v] w fun e w' => e = .returned (.tuple #[.pointer none, .int .i64 7]) ∧ w' = w := by
  have KBg := Kept.mk (begin_nil true v w hv)
  obtain ⟨a, n, c, rfl⟩ := hv
  go_enter Tryd.func27, Tryd.ntmps27
  go_wp2_with fail
  refine Calls.mono KBg.out (fun x w1 hp => ?_)
  obtain ⟨rfl, rfl⟩ := hp
  go_wp2
  go_ret2
  exact ⟨rfl, rfl⟩
set_option maxRecDepth 100000 in
theorem create_nil (p : ByteArray) (w : World) : Calls Tryd.prog 17 #[.pointer none, .string p] w fun e w' => e = .returned (.int .i64 7) ∧ Below w.heap.size w w' := by
  have KBg := Kept.mk (begin_nil true (.slice (some ⟨w.heap.size, 0, none⟩) 1 1) (w.alloc (.cells #[.string p] 9)) ⟨_, _, _, rfl⟩)
  have KB : Kept (Below w.heap.size w (w.alloc (.cells #[.string p] 9))) := ⟨(Below.refl _ _).alloc (Nat.le_refl _) _⟩
  go_enter Tryd.func17, Tryd.ntmps17
  go_wp2_with fail
  refine Calls.mono KBg.out (fun x w1 hp => ?_)
  obtain ⟨rfl, rfl⟩ := hp
  go_wp2
  go_ret
  exact ⟨rfl, KB.out⟩
set_option maxRecDepth 100000 in
theorem append_nil (p : ByteArray) (v : Value) (w : World) (hv : ∃ a n c, v = .slice a n c) : Calls Tryd.prog 10 #[.pointer none, .string p, v] w fun e w' => e = .returned (.int .i64 7) ∧ Below w.heap.size w w' := by
  have KBg := Kept.mk (open_nil (.slice (some ⟨w.heap.size, 0, none⟩) 1 1) (w.alloc (.cells #[.string p] 9)) ⟨_, _, _, rfl⟩)
  have KB : Kept (Below w.heap.size w (w.alloc (.cells #[.string p] 9))) := ⟨(Below.refl _ _).alloc (Nat.le_refl _) _⟩
  obtain ⟨a, n, c, rfl⟩ := hv
  go_enter Tryd.func10, Tryd.ntmps10
  go_wp2_with fail
  refine Calls.mono KBg.out (fun x w1 hp => ?_)
  obtain ⟨rfl, rfl⟩ := hp
  go_wp2
  go_ret
  exact ⟨rfl, KB.out⟩
set_option maxRecDepth 100000 in
theorem sync_nil (p : ByteArray) (w : World) : Calls Tryd.prog 12 #[.pointer none, .string p] w fun e w' => e = .returned (.int .i64 7) ∧ Below w.heap.size w w' := by
  have KBg := Kept.mk (open_nil (.slice (some ⟨w.heap.size, 0, none⟩) 1 1) (w.alloc (.cells #[.string p] 9)) ⟨_, _, _, rfl⟩)
  have KB : Kept (Below w.heap.size w (w.alloc (.cells #[.string p] 9))) := ⟨(Below.refl _ _).alloc (Nat.le_refl _) _⟩
  go_enter Tryd.func12, Tryd.ntmps12
  go_wp2_with fail
  refine Calls.mono KBg.out (fun x w1 hp => ?_)
  obtain ⟨rfl, rfl⟩ := hp
  go_wp2
  go_ret
  exact ⟨rfl, KB.out⟩
set_option maxRecDepth 100000 in
theorem remove_nil (p : ByteArray) (w : World) : Calls Tryd.prog 19 #[.pointer none, .string p] w fun e w' => e = .returned (.int .i64 7) ∧ Below w.heap.size w w' := by
  have KBg := Kept.mk (open_nil (.slice (some ⟨w.heap.size, 0, none⟩) 1 1) (w.alloc (.cells #[.string p] 9)) ⟨_, _, _, rfl⟩)
  have KB : Kept (Below w.heap.size w (w.alloc (.cells #[.string p] 9))) := ⟨(Below.refl _ _).alloc (Nat.le_refl _) _⟩
  go_enter Tryd.func19, Tryd.ntmps19
  go_wp2_with fail
  refine Calls.mono KBg.out (fun x w1 hp => ?_)
  obtain ⟨rfl, rfl⟩ := hp
  go_wp2
  go_ret
  exact ⟨rfl, KB.out⟩
set_option maxRecDepth 100000 in
theorem rename_nil (p q : ByteArray) (w : World) : Calls Tryd.prog 18 #[.pointer none, .string p, .string q] w fun e w' => e = .returned (.int .i64 7) ∧ Below w.heap.size w w' := by
  have KBg := Kept.mk (open_nil (.slice (some ⟨w.heap.size, 0, none⟩) 2 2) (w.alloc (.cells #[.string p, .string q] 9)) ⟨_, _, _, rfl⟩)
  have KB : Kept (Below w.heap.size w (w.alloc (.cells #[.string p, .string q] 9))) := ⟨(Below.refl _ _).alloc (Nat.le_refl _) _⟩
  go_enter Tryd.func18, Tryd.ntmps18
  go_wp2_with fail
  refine Calls.mono KBg.out (fun x w1 hp => ?_)
  obtain ⟨rfl, rfl⟩ := hp
  go_wp2
  go_ret
  exact ⟨rfl, KB.out⟩
set_option maxRecDepth 100000 in
theorem syncDir_nil (p : ByteArray) (w : World) : Calls Tryd.prog 13 #[.pointer none, .string p] w fun e w' => e = .returned (.int .i64 7) ∧ w' = w := by
  have KBg := Kept.mk (begin_nil false (.slice none 0 0) w ⟨_, _, _, rfl⟩)
  go_enter Tryd.func13, Tryd.ntmps13
  go_wp2_with fail
  refine Calls.mono KBg.out (fun x w1 hp => ?_)
  obtain ⟨rfl, rfl⟩ := hp
  go_wp2
  go_ret
  exact ⟨rfl, rfl⟩
set_option maxRecDepth 100000 in
theorem read_nil (p : ByteArray) (w : World) : Calls Tryd.prog 11 #[.pointer none, .string p] w fun e w' => e = .returned (.tuple #[.slice none 0 0, .int .i64 7]) ∧ w' = w := by
  have KRy := Kept.mk (ready_nil w)
  go_enter Tryd.func11, Tryd.ntmps11
  go_wp2_with fail
  refine Calls.mono KRy.out (fun x w1 hp => ?_)
  obtain ⟨rfl, rfl⟩ := hp
  go_wp2
  go_ret2
  exact ⟨rfl, rfl⟩
set_option maxRecDepth 100000 in
theorem plan_nil (v : Value) (o : Int) (w : World) (hv : ∃ a n c, v = .slice a n c) : Calls Tryd.prog 20 #[.pointer none, v, .int .i64 o] w fun e w' => e = .returned (.tuple #[]) ∧ w' = w := by
  obtain ⟨a, n, c, rfl⟩ := hv
  go_enter Tryd.func20, Tryd.ntmps20
  go_wp2
  refine bodyPost_ret (results_none rfl _ _ _) rfl ?_
  exact ⟨rfl, rfl⟩
end Go.Proofs.YtegdadkejheagaaDoor
