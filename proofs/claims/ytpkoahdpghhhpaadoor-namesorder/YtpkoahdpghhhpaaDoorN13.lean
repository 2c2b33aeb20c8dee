/-
  The walk of NamesOrder.
-/
import Derived.Test.YtpkoahdpghhhpaaDoorN12
namespace Go.Proofs.YtpkoahdpghhhpaaDoor
open Go.RowKit

theorem box_three (w : World) (xs ys zs : Array Value) : ∃ w1, ((w.alloc (.cells xs 38)).alloc (.cells ys 38)).alloc (.cells zs 38) = w1 ∧ Below w.heap.size w w1 ∧ ∀ w', CC w1 w' → w'.heap[w.heap.size]? = some (.cells xs 38 (0, 0)) ∧ w'.heap[w.heap.size + 1]? = some (.cells ys 38 (0, 0)) ∧ w'.heap[w.heap.size + 1 + 1]? = some (.cells zs 38 (0, 0)) ∧ Below w.heap.size w w' := by
  obtain ⟨w2, hw2, hB, hk⟩ := box_two w xs ys
  rw [hw2]
  have hz2 : w2.heap.size = w.heap.size + 2 := by rw [← hw2]; simp
  have hb : Below w2.heap.size w2 (w2.alloc (.cells zs 38)) := (Below.refl _ _).alloc (Nat.le_refl _) _
  refine ⟨_, rfl, hB.trans (hb.mono (by omega)), fun w' h => ?_⟩
  have h2 : CC w2 w' := hb.trans (Below.mono h hb.size)
  obtain ⟨k1, k2, k3⟩ := hk w' h2
  refine ⟨k1, k2, ?_, k3⟩
  rw [Below.block h _ (by simp; omega)]
  have := heap_alloc_new w2 (.cells zs 38)
  rw [hz2] at this
  exact this

theorem wrap_neg {x : Int} (h : -1 ≤ x ∧ x ≤ 1) : IntKind.i64.wrap (-x) = -x := by
  have : x = -1 ∨ x = 0 ∨ x = 1 := by omega
  rcases this with rfl | rfl | rfl <;> rfl

set_option maxHeartbeats 1000000 in
set_option maxRecDepth 100000 in
theorem order_walk {xs ys zs : Array Value} {m n k : Int} {a b c : ByteArray} (h : Ent xs m a) (g : Ent ys n b) (f : Ent zs k c) (hn : a.size ≤ 140737488351232) (gn : b.size ≤ 140737488351232) (fn : c.size ≤ 140737488351232) (w : World) (hg : Gl w) :
    Calls Tryd.prog 6 #[.agg xs, .agg ys, .agg zs] w fun e w' => e = .returned (.bool true) ∧ Below w.heap.size w w' := by
  obtain ⟨w1, hw1, hB, hk⟩ := box_three w xs ys zs
  have KA := Kept.mk (awake_any w1 (hg.later hB))
  have K1 : Kept (∀ w', CC w1 w' → Calls Tryd.prog 24 #[.agg xs, .agg ys] w' fun e w'' => e = .returned (.int .i64 (Lib.compareBytes (okF m a).data.toList (okF n b).data.toList)) ∧ CC w1 w'') := ⟨fun w' hw => (order_any h g hn gn w').mono fun e w'' hp => ⟨hp.1, hw.on hp.2⟩⟩
  have K2 : Kept (∀ w', CC w1 w' → Calls Tryd.prog 24 #[.agg ys, .agg zs] w' fun e w'' => e = .returned (.int .i64 (Lib.compareBytes (okF n b).data.toList (okF k c).data.toList)) ∧ CC w1 w'') := ⟨fun w' hw => (order_any g f gn fn w').mono fun e w'' hp => ⟨hp.1, hw.on hp.2⟩⟩
  have K3 : Kept (∀ w', CC w1 w' → Calls Tryd.prog 24 #[.agg xs, .agg zs] w' fun e w'' => e = .returned (.int .i64 (Lib.compareBytes (okF m a).data.toList (okF k c).data.toList)) ∧ CC w1 w'') := ⟨fun w' hw => (order_any h f hn fn w').mono fun e w'' hp => ⟨hp.1, hw.on hp.2⟩⟩
  have K4 : Kept (∀ w', CC w1 w' → Calls Tryd.prog 25 #[.agg xs, .agg ys] w' fun e w'' => e = .returned (.int .i64 (Lib.compareBytes (okF m a).data.toList (okF n b).data.toList)) ∧ CC w1 w'') := ⟨fun w' hw => (rorder_any h g hn gn w').mono fun e w'' hp => ⟨hp.1, hw.on hp.2⟩⟩
  have K5 : Kept (∀ w', CC w1 w' → Calls Tryd.prog 24 #[.agg ys, .agg xs] w' fun e w'' => e = .returned (.int .i64 (-Lib.compareBytes (okF m a).data.toList (okF n b).data.toList)) ∧ CC w1 w'') := ⟨fun w' hw => by
    have := order_any g h gn hn w'
    rw [cmp_flip] at this
    exact this.mono fun e w'' hp => ⟨hp.1, hw.on hp.2⟩⟩
  have K6 : Kept (∀ w', CC w1 w' → Calls Tryd.prog 24 #[.agg xs, .agg xs] w' fun e w'' => e = .returned (.int .i64 0) ∧ CC w1 w'') := ⟨fun w' hw => by
    have := order_any h h hn hn w'
    rw [cmp_same] at this
    exact this.mono fun e w'' hp => ⟨hp.1, hw.on hp.2⟩⟩
  have KI1 := Kept.mk (info_entry h.sz)
  have KI2 := Kept.mk (info_entry g.sz)
  have KI3 := Kept.mk (info_entry f.sz)
  have KK := Kept.mk hk
  have z1 := h.sz
  have z2 := g.sz
  have z3 := f.sz
  have hx := cmp_range (okF m a).data.toList (okF n b).data.toList
  have hy := cmp_range (okF n b).data.toList (okF k c).data.toList
  have hz := cmp_range (okF m a).data.toList (okF k c).data.toList
  have ho := cmp_on (okF m a).data.toList (okF n b).data.toList (okF k c).data.toList
  clear h g f hn gn fn hk hB hg
  generalize Lib.compareBytes (okF m a).data.toList (okF n b).data.toList = x at *
  generalize Lib.compareBytes (okF n b).data.toList (okF k c).data.toList = y at *
  generalize Lib.compareBytes (okF m a).data.toList (okF k c).data.toList = z at *
  go_enter Tryd.func6, Tryd.ntmps6
  go_wp2_with fail
  refine Calls.mono KA.out (fun e w2 hp => ?_)
  obtain ⟨rfl, hb2⟩ := hp
  have KB2 : Kept (CC w1 w2) := ⟨hb2⟩
  clear hb2 KA
  go_wp2_with fail
  refine wp_region_quietC (C := CC w1) (by kernel_rfl) (by kernel_rfl) (Below.drew KB2.out) ?_
  refine BigFrame.wpQuiet_want rfl (fun K hK => quiet_load_row _ _ rfl _ rfl xs _ _ _ (fun W hW => (KK.out W hW).1) Tryd.underlying38 rfl KI1.out (hK _ ?_))
  clear hK K
  simp only [Act.put, List.setIfInBounds_toArray, List.set_cons_zero, List.set_cons_succ]
  refine BigFrame.wpQuiet_want rfl (fun K hK => quiet_load_row _ _ rfl _ rfl ys _ _ _ (fun W hW => (KK.out W hW).2.1) Tryd.underlying38 rfl KI2.out (hK _ ?_))
  clear hK K
  simp only [Act.put, List.setIfInBounds_toArray, List.set_cons_zero, List.set_cons_succ]
  go_big_quiet_step ((intro hCw; exact K1.out _ hCw))
  refine BigFrame.wpQuiet_want rfl (fun K hK => quiet_load_row _ _ rfl _ rfl ys _ _ _ (fun W hW => (KK.out W hW).2.1) Tryd.underlying38 rfl KI2.out (hK _ ?_))
  clear hK K
  simp only [Act.put, List.setIfInBounds_toArray, List.set_cons_zero, List.set_cons_succ]
  refine BigFrame.wpQuiet_want rfl (fun K hK => quiet_load_row _ _ rfl _ rfl zs _ _ _ (fun W hW => (KK.out W hW).2.2.1) Tryd.underlying38 rfl KI3.out (hK _ ?_))
  clear hK K
  simp only [Act.put, List.setIfInBounds_toArray, List.set_cons_zero, List.set_cons_succ]
  go_big_quiet_step ((intro hCw; exact K2.out _ hCw))
  refine BigFrame.wpQuiet_want rfl (fun K hK => quiet_load_row _ _ rfl _ rfl xs _ _ _ (fun W hW => (KK.out W hW).1) Tryd.underlying38 rfl KI1.out (hK _ ?_))
  clear hK K
  simp only [Act.put, List.setIfInBounds_toArray, List.set_cons_zero, List.set_cons_succ]
  refine BigFrame.wpQuiet_want rfl (fun K hK => quiet_load_row _ _ rfl _ rfl zs _ _ _ (fun W hW => (KK.out W hW).2.2.1) Tryd.underlying38 rfl KI3.out (hK _ ?_))
  clear hK K
  simp only [Act.put, List.setIfInBounds_toArray, List.set_cons_zero, List.set_cons_succ]
  go_big_quiet_step ((intro hCw; exact K3.out _ hCw))
  go_big_quiet_step ((intro _; rfl))
  go_big_quiet_step ((intro _; rfl))
  go_big_quiet_step ((intro _; rfl))
  refine wpQuiet_nil ?_
  intro w3 hw3
  have KB3 : Kept (CC w1 w3) := ⟨hw3⟩
  clear hw3 KB2
  have hwr : IntKind.i64.wrap (-x) = -x := wrap_neg hx
  have hnn : (-x == -x) = true := by simp
  have hxx : (x == x) = true := by simp
  obtain ⟨rx, ry, -, -⟩ := KK.out w3 KB3.out
  have RX := Kept.mk rx
  have RY := Kept.mk ry
  clear rx ry
  go_wp2_with (first | (refine BigFrame.wpList_want rfl (fun K hK => wp_load_row 38 _ rfl _ rfl _ xs _ _ RX.out Tryd.underlying38 rfl KI1.out (hK _ _ ?_))) | (refine BigFrame.wpList_want rfl (fun K hK => wp_load_row 38 _ rfl _ rfl _ ys _ _ RY.out Tryd.underlying38 rfl KI2.out (hK _ _ ?_))))
  refine Calls.mono (K4.out w3 KB3.out) (fun e w4 hp => ?_)
  obtain ⟨rfl, hb4⟩ := hp
  have KB4 : Kept (CC w1 w4) := ⟨hb4⟩
  clear hb4 KB3 RX RY K4
  obtain ⟨rx, ry, -, -⟩ := KK.out w4 KB4.out
  have RX := Kept.mk rx
  have RY := Kept.mk ry
  clear rx ry
  go_wp2_with (first | (refine BigFrame.wpList_want rfl (fun K hK => wp_load_row 38 _ rfl _ rfl _ xs _ _ RX.out Tryd.underlying38 rfl KI1.out (hK _ _ ?_))) | (refine BigFrame.wpList_want rfl (fun K hK => wp_load_row 38 _ rfl _ rfl _ ys _ _ RY.out Tryd.underlying38 rfl KI2.out (hK _ _ ?_))))
  refine Calls.mono (K5.out w4 KB4.out) (fun e w5 hp => ?_)
  obtain ⟨rfl, hb5⟩ := hp
  have KB5 : Kept (CC w1 w5) := ⟨hb5⟩
  clear hb5 KB4 RX RY K5
  obtain ⟨rx, ry, -, -⟩ := KK.out w5 KB5.out
  have RX := Kept.mk rx
  have RY := Kept.mk ry
  clear rx ry
  go_wp2_with (first | (refine BigFrame.wpList_want rfl (fun K hK => wp_load_row 38 _ rfl _ rfl _ xs _ _ RX.out Tryd.underlying38 rfl KI1.out (hK _ _ ?_))) | (refine BigFrame.wpList_want rfl (fun K hK => wp_load_row 38 _ rfl _ rfl _ ys _ _ RY.out Tryd.underlying38 rfl KI2.out (hK _ _ ?_))))
  refine Calls.mono (K6.out w5 KB5.out) (fun e w6 hp => ?_)
  obtain ⟨rfl, hb6⟩ := hp
  have KB6 := Kept.mk (KK.out w6 hb6).2.2.2
  clear hb6 KB5 RX RY K6
  by_cases h1 : x ≤ 0
  · by_cases h2 : y ≤ 0
    · have h3 : ¬ z > 0 := by have := ho h1 h2; omega
      have KZ : Kept (decide (0 < z) = false) := ⟨decide_eq_false h3⟩
      clear ho
      go_wp2
      go_ret
      exact ⟨by show Ending.returned (.bool (!decide (0 < z))) = _; rw [KZ.out]; rfl, KB6.out⟩
    · clear ho
      go_wp2
      go_ret
      exact ⟨rfl, KB6.out⟩
  · clear ho
    go_wp2
    go_ret
    exact ⟨rfl, KB6.out⟩
end Go.Proofs.YtpkoahdpghhhpaaDoor
