/-
  How two slots follow one another.
-/
import Derived.Test.YthkaohkondkhgaaDoorI2
import Derived.Test.YthkaohkondkhgaaDoorQ3
namespace Go.Proofs.YthkaohkondkhgaaDoor
open Go.RowKit

def orI (x y : Int) : Int := if x = 0 then y else x
def ordZ (a b : SlC) : Int := orI (Lib.compareBytes a.pt.data.toList b.pt.data.toList) (Lib.compareInt a.st b.st)
set_option maxHeartbeats 400000 in
set_option maxRecDepth 100000 in
theorem cmpOr_any (x y : Int) (g : Nat) (w : World) (h0 : w.cell? ⟨g, 0, none⟩ = some (.int .i64 x)) (h1 : w.cell? ⟨g, 1, none⟩ = some (.int .i64 y)) :
    Calls Tryd.prog 62 #[.slice (some ⟨g, 0, none⟩) 2 2] w fun e w' => e = .returned (.int .i64 (orI x y)) ∧ w' = w := by
  have KE : Kept (orI x y = if x = 0 then y else x) := ⟨rfl⟩
  generalize orI x y = o at *
  go_enter Tryd.func62, Tryd.ntmps62
  go_wp2
  go_loopw [5, 8] (fun _ kv wr => wr = w ∧ ∃ k : Nat, k ≤ 2 ∧ kv = .int .i64 k ∧ (1 ≤ k → x = 0) ∧ (2 ≤ k → y = 0)) (fun _ kv _ => 2 - (intOf kv).toNat)
  case atStart => exact ⟨rfl, 0, by omega, rfl, by omega, by omega⟩
  case round =>
    obtain ⟨rfl, k, hk, rfl, hx, hy⟩ := hrel
    have hk3 : k = 0 ∨ k = 1 ∨ k = 2 := by omega
    clear hk
    rcases hk3 with rfl | rfl | rfl
    · clear hx hy
      by_cases hx : x = 0
      · subst hx
        go_wp2
        go_roundw
        case rel => exact ⟨trivial, 1, by omega, rfl, fun _ => trivial, by omega⟩
        case measure => simp [intOf]
      · have KX := Kept.mk hx
        go_wp2
        go_ret
        exact ⟨by rw [KE.out, if_neg KX.out]; rfl, rfl⟩
    · obtain rfl := hx (by omega)
      clear hx hy
      by_cases hy : y = 0
      · subst hy
        go_wp2
        go_roundw
        case rel => exact ⟨trivial, 2, by omega, rfl, fun _ => trivial, fun _ => trivial⟩
        case measure => simp [intOf]
      · go_wp2
        go_ret
        exact ⟨by have := KE.out; simp at this; rw [this]; rfl, rfl⟩
    · obtain rfl := hx (by omega)
      obtain rfl := hy (by omega)
      clear hx hy
      go_wp2
      go_ret
      exact ⟨by have := KE.out; simp at this; rw [this]; rfl, rfl⟩
/-- Two slots that were handed in. -/
theorem box_two (w : World) {a b : SlC} (ha : a.ok) (hb : b.ok) : ∃ w1, (w.alloc (.cells a.l.toArray 41)).alloc (.cells b.l.toArray 41) = w1 ∧ Below w.heap.size w w1 ∧ w1.heap.size = w.heap.size + 2 ∧
    ∀ w', CC w1 w' → (w'.cell? ⟨w.heap.size, 0, none⟩ = some (.string a.pt) ∧ w'.cell? ⟨w.heap.size, 1, none⟩ = some (.int .i64 a.st) ∧ w'.cell? ⟨w.heap.size + 1, 0, none⟩ = some (.string b.pt) ∧ w'.cell? ⟨w.heap.size + 1, 1, none⟩ = some (.int .i64 b.st)) := by
  obtain ⟨w1, hw1, hB1, hz1, -, hc1⟩ := SlC.box w ha
  obtain ⟨w2, hw2, hB2, hz2, -, hc2⟩ := SlC.box w1 hb
  rw [hz1] at hc2
  refine ⟨w2, by rw [hw1]; exact hw2, hB1.trans (hB2.mono (by omega)), by omega, fun w' hw => ?_⟩
  have h1 := hc1 w' (hB2.trans (Below.mono hw (by omega)))
  have h2 := hc2 w' hw
  exact ⟨h1.1, h1.2.1, h2.1, h2.2.1⟩
set_option maxHeartbeats 400000 in
set_option maxRecDepth 100000 in
theorem order_any {a b : SlC} (ha : a.ok) (hb : b.ok) (w : World) :
    Calls Tryd.prog 38 #[.agg a.l.toArray, .agg b.l.toArray] w fun e w' => e = .returned (.int .i64 (ordZ a b)) ∧ Below w.heap.size w w' := by
  obtain ⟨w1, hw1, hB, hz, hk⟩ := box_two w ha hb
  have KB := Kept.mk hB
  have K1 : Kept (∀ W, Calls Tryd.prog 63 #[.string a.pt, .string b.pt] W fun e w'' => e = .returned (.int .i64 (Lib.compareBytes a.pt.data.toList b.pt.data.toList)) ∧ w'' = W) := ⟨fun W => Tryd.strings_Compare _ _ W⟩
  have K2 : Kept (∀ W, Calls Tryd.prog 64 #[.int .i64 a.st, .int .i64 b.st] W fun e w'' => e = .returned (.int .i64 (Lib.compareInt a.st b.st)) ∧ w'' = W) := ⟨fun W => Tryd.cmp_Compare_int _ _ W⟩
  have KE : Kept (ordZ a b = orI (Lib.compareBytes a.pt.data.toList b.pt.data.toList) (Lib.compareInt a.st b.st)) := ⟨rfl⟩
  have KK := Kept.mk hk
  clear hk hB ha hb
  generalize Lib.compareBytes a.pt.data.toList b.pt.data.toList = r at *
  generalize Lib.compareInt a.st b.st = s at *
  generalize a.l.toArray = A1 at *
  generalize b.l.toArray = B1 at *
  generalize ordZ a b = o at *
  go_enter Tryd.func38, Tryd.ntmps38
  go_wp2_with fail
  obtain ⟨c0, c1, c2, c3⟩ := KK.out w1 (CC.refl _)
  clear KK
  refine wp_region_tail 0 10 2 (by kernel_rfl) (by kernel_rfl) ?_
  simp only [List.take_succ_cons, List.take_zero, List.drop_succ_cons, List.drop_zero, List.foldl_nil]
  repeat (go_big_quiet_step ((first | (go_at_call 63; exact Calls.quiet_of_same (K1.out _)) | (go_at_call 64; exact Calls.quiet_of_same (K2.out _)))))
  refine wpQuiet_nil ?_
  intro m
  have KB3 := Kept.mk (below_drewN KB.out m)
  clear c0 c1 c2 c3
  generalize w1.drewN m = w3 at *
  have KB4 := Kept.mk (KB3.out.alloc KB3.out.size (.cells #[.int .i64 r, .int .i64 s] 3))
  have KL := Kept.mk (cmpOr_any r s w3.heap.size (w3.alloc (.cells #[.int .i64 r, .int .i64 s] 3)) (alloc_cell _ _ _ _ _ rfl) (alloc_cell _ _ _ _ _ rfl))
  refine wpTail_step (fun K hK => ?_)
  go_simp
  refine hK _ _ ?_
  clear hK K
  refine wpTail_step (fun K hK => ?_)
  go_simp
  refine Calls.mono KL.out (fun e w5 hp => ?_)
  obtain ⟨rfl, rfl⟩ := hp
  refine hK _ _ ?_
  clear hK K
  refine wpTail_step (fun K hK => ?_)
  go_simp
  refine hK _ _ (wpTail_nil (NoPanic.normal ?_))
  clear hK K
  go_wp2
  go_ret
  rw [KE.out]
  exact ⟨rfl, KB4.out⟩
/-- Does a slot stand rightly behind another? -/
def behB (a b : SlC) : Bool := !(decide (a.pt = b.pt) && decide (a.st = 0)) && decide (ordZ a b < 0)
end Go.Proofs.YthkaohkondkhgaaDoor
