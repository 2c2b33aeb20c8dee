/-
  Walks: Order.
-/
import Derived.Test.YtkbalngddlhlpaaGreatDoorO15
namespace Go.Proofs.YtkbalngddlhlpaaGreatDoor.Nm
open Go.RowKit

def okF (m : Int) (nm : ByteArray) : ByteArray := if m = 16384 then nm ++ ⟨#[47]⟩ else nm

structure Ent (xs : Array Value) (m : Int) (nm : ByteArray) : Prop where
  sz : xs.size = 34
  c0 : xs[0]? = some (.int .i64 m)
  c1 : xs[1]? = some (.string nm)

theorem box_entry (w : World) {xs : Array Value} {m : Int} {nm : ByteArray} (h : Ent xs m nm) : ∃ w1, w.alloc (.cells xs 33) = w1 ∧ Below w.heap.size w w1 ∧ w1.cell? ⟨w.heap.size, 0, none⟩ = some (.int .i64 m) ∧ w1.cell? ⟨w.heap.size, 1, none⟩ = some (.string nm) :=
  ⟨_, rfl, (Below.refl _ _).alloc (Nat.le_refl _) _, alloc_cell _ _ _ _ _ h.c0, alloc_cell _ _ _ _ _ h.c1⟩

set_option maxHeartbeats 1000000 in
set_option maxRecDepth 100000 in
theorem orderedBy_any {xs : Array Value} {m : Int} {nm : ByteArray} (h : Ent xs m nm) (hn : nm.size ≤ 140737488351232) (w : World) : Calls Tryz.prog 119 #[.agg xs] w fun e w' => e = .returned (.string (okF m nm)) ∧ Below w.heap.size w w' := by
  obtain ⟨w1, hw1, hB, d0, d1⟩ := box_entry w h
  have KB := Kept.mk hB
  have hsz := h.sz
  clear hB h
  by_cases hm : m = 16384
  · have hd : (m == 16384) = true := by rw [hm]; rfl
    have hb2 : ¬ 9223372036854775807 < nm.size + 1 := by omega
    go_enter Tryz.func119, Tryz.ntmps119
    go_wp2
    go_ret
    exact ⟨by unfold okF; rw [if_pos hm]; rfl, KB.out⟩
  · have hd : (m == 16384) = false := by simpa using hm
    go_enter Tryz.func119, Tryz.ntmps119
    go_wp2
    go_ret
    exact ⟨by unfold okF; rw [if_neg hm]; rfl, KB.out⟩
set_option maxHeartbeats 1000000 in
set_option maxRecDepth 100000 in
theorem key_any {xs : Array Value} {m : Int} {nm : ByteArray} (h : Ent xs m nm) (hn : nm.size ≤ 140737488351232) (w : World) : Calls Tryz.prog 107 #[.agg xs] w fun e w' => e = .returned (.string (okF m nm)) ∧ Below w.heap.size w w' := by
  obtain ⟨w1, hw1, hB, d0, d1⟩ := box_entry w h
  have KB := Kept.mk hB
  have hsz := h.sz
  clear hB h
  by_cases hm : m = 16384
  · have hd : (m == 16384) = true := by rw [hm]; rfl
    have hb2 : ¬ 9223372036854775807 < nm.size + 1 := by omega
    go_enter Tryz.func107, Tryz.ntmps107
    go_wp2
    go_ret
    exact ⟨by unfold okF; rw [if_pos hm]; rfl, KB.out⟩
  · have hd : (m == 16384) = false := by simpa using hm
    go_enter Tryz.func107, Tryz.ntmps107
    go_wp2
    go_ret
    exact ⟨by unfold okF; rw [if_neg hm]; rfl, KB.out⟩
theorem quiet_load_row {P : Program} {C : World → Prop} {K : Act → Prop} {o : Oper} {a : Act} (ty : TypeId) (x : Operand) (ho : o.op = .load ty x)
    (g : Nat) (hx : a.eval x = .pointer (some ⟨g, 0, none⟩)) (cs : Array Value) (t : TypeId) (fr : Nat × Nat) (d : TypeDesc) (hS : ∀ w, C w → w.heap[g]? = some (.cells cs t fr))
    (hu : P.underlying ty = some d) (hd : (match d with | .struct _ | .array _ _ => true | _ => false) = true) (hi : (P.info? ty).map (·.size) = some cs.size) (hk : K (a.put o.dst (.agg cs))) : o.quiet P a C K :=
  quiet_run (fun w hw => by
    unfold execOp
    simp only [ho, hx, Instr.loadAt, Instr.sureAddr, Sem.run_bind, Sem.run_pure, Result.andThen_ok, run_loadVar_row w g t ty cs fr d (hS w hw) hu hd hi]) hk

theorem info_entry {xs : Array Value} (h : xs.size = 34) : (Tryz.prog.info? 33).map (·.size) = some xs.size := by
  rw [h]
  kernel_rfl
theorem box_two (w : World) (xs ys : Array Value) : ∃ w1, (w.alloc (.cells xs 33)).alloc (.cells ys 33) = w1 ∧ Below w.heap.size w w1 ∧ ∀ w', CC w1 w' → w'.heap[w.heap.size]? = some (.cells xs 33 (0, 0)) ∧ w'.heap[w.heap.size + 1]? = some (.cells ys 33 (0, 0)) ∧ Below w.heap.size w w' := by
  have hB : Below w.heap.size w ((w.alloc (.cells xs 33)).alloc (.cells ys 33)) := ((Below.refl _ _).alloc (Nat.le_refl _) _).alloc (by simp) _
  refine ⟨_, rfl, hB, fun w' h => ?_⟩
  have hz : ((w.alloc (.cells xs 33)).alloc (.cells ys 33)).heap.size = w.heap.size + 2 := by simp
  refine ⟨?_, ?_, hB.trans (Below.mono h (by rw [hz]; omega))⟩
  · rw [Below.block h _ (by rw [hz]; omega), ((Below.refl (w.heap.size + 1) (w.alloc (.cells xs 33))).alloc (by simp) (.cells ys 33)).block w.heap.size (by omega)]
    exact heap_alloc_new w _
  · rw [Below.block h _ (by rw [hz]; omega)]
    have := heap_alloc_new (w.alloc (.cells xs 33)) (.cells ys 33)
    rw [show (w.alloc (.cells xs 33)).heap.size = w.heap.size + 1 by simp] at this
    exact this

set_option maxHeartbeats 1000000 in
set_option maxRecDepth 100000 in
theorem order_any {xs ys : Array Value} {m n : Int} {a b : ByteArray} (h : Ent xs m a) (g : Ent ys n b) (hn : a.size ≤ 140737488351232) (gn : b.size ≤ 140737488351232) (w : World) :
    Calls Tryz.prog 93 #[.agg xs, .agg ys] w fun e w' => e = .returned (.int .i64 (Lib.compareBytes (okF m a).data.toList (okF n b).data.toList)) ∧ Below w.heap.size w w' := by
  obtain ⟨w1, hw1, hB, hk⟩ := box_two w xs ys
  have K1 : Kept (∀ w', CC w1 w' → Calls Tryz.prog 119 #[.agg xs] w' fun e w'' => e = .returned (.string (okF m a)) ∧ CC w1 w'') := ⟨fun w' hw => (orderedBy_any h hn w').mono fun e w'' hp => ⟨hp.1, hw.on hp.2⟩⟩
  have K2 : Kept (∀ w', CC w1 w' → Calls Tryz.prog 119 #[.agg ys] w' fun e w'' => e = .returned (.string (okF n b)) ∧ CC w1 w'') := ⟨fun w' hw => (orderedBy_any g gn w').mono fun e w'' hp => ⟨hp.1, hw.on hp.2⟩⟩
  have K3 : Kept (∀ w', CC w1 w' → Calls Tryz.prog 118 #[.string (okF m a), .string (okF n b)] w' fun e w'' => e = .returned (.int .i64 (Lib.compareBytes (okF m a).data.toList (okF n b).data.toList)) ∧ CC w1 w'') := ⟨fun w' hw => (Tryz.strings_Compare _ _ w').mono fun e w'' hp => ⟨hp.1, by rw [hp.2]; exact hw⟩⟩
  have KI1 := Kept.mk (info_entry h.sz)
  have KI2 := Kept.mk (info_entry g.sz)
  have KK := Kept.mk hk
  have z1 := h.sz
  have z2 := g.sz
  clear h g hn gn hk hB
  generalize Lib.compareBytes (okF m a).data.toList (okF n b).data.toList = r at *
  generalize okF m a = s at *
  generalize okF n b = t at *
  go_enter Tryz.func93, Tryz.ntmps93
  go_wp2_with fail
  refine wp_region_quietC (C := CC w1) (by kernel_rfl) (by kernel_rfl) (Below.refl _ _).drew ?_
  refine BigFrame.wpQuiet_want rfl (fun K hK => quiet_load_row _ _ rfl _ rfl xs _ _ _ (fun W hW => (KK.out W hW).1) Tryz.underlying33 rfl KI1.out (hK _ ?_))
  clear hK K
  simp only [Act.put, List.setIfInBounds_toArray, List.set_cons_zero, List.set_cons_succ]
  go_big_quiet_step ((intro hCw; exact K1.out _ hCw))
  refine BigFrame.wpQuiet_want rfl (fun K hK => quiet_load_row _ _ rfl _ rfl ys _ _ _ (fun W hW => (KK.out W hW).2.1) Tryz.underlying33 rfl KI2.out (hK _ ?_))
  clear hK K
  simp only [Act.put, List.setIfInBounds_toArray, List.set_cons_zero, List.set_cons_succ]
  go_big_quiet_step ((intro hCw; exact K2.out _ hCw))
  go_big_quiet_step ((intro hCw; exact K3.out _ hCw))
  go_big_quiet_step ((intro _; rfl))
  refine wpQuiet_nil ?_
  intro w3 hw3
  have KB3 := Kept.mk (KK.out w3 hw3).2.2
  clear hw3 KK K1 K2 K3
  go_wp2
  go_ret
  exact ⟨rfl, KB3.out⟩

theorem cmp_less : ∀ (x y : List UInt8), Op.bytesLess x y = true → Lib.compareBytes x y = -1
  | [], [], h => by simp [Op.bytesLess] at h
  | [], _ :: _, _ => by simp [Lib.compareBytes]
  | _ :: _, [], h => by simp [Op.bytesLess] at h
  | a :: x, b :: y, h => by
    have ih := cmp_less x y
    unfold Op.bytesLess at h
    unfold Lib.compareBytes
    by_cases h1 : a < b
    · rw [if_pos h1]
    · by_cases h2 : b < a
      · exfalso; grind
      · rw [if_neg h1, if_neg h2]
        apply ih
        grind
theorem cmp_more : ∀ (x y : List UInt8), Op.bytesLess x y = false → x ≠ y → Lib.compareBytes x y = 1
  | [], [], _, h => absurd rfl h
  | [], _ :: _, h, _ => by simp [Op.bytesLess] at h
  | _ :: _, [], _, _ => by simp [Lib.compareBytes]
  | a :: x, b :: y, h, hn => by
    have ih := cmp_more x y
    unfold Op.bytesLess at h
    unfold Lib.compareBytes
    by_cases h1 : a < b
    · exfalso; grind
    · by_cases h2 : b < a
      · rw [if_neg h1, if_pos h2]
      · rw [if_neg h1, if_neg h2]
        have e : a = b := by
          have := UInt8.not_lt.1 h1
          have := UInt8.not_lt.1 h2
          exact UInt8.le_antisymm ‹_› ‹_›
        apply ih
        · grind
        · intro he
          exact hn (by rw [e, he])
theorem cmp_same : ∀ (x : List UInt8), Lib.compareBytes x x = 0
  | [] => rfl
  | a :: x => by
    unfold Lib.compareBytes
    rw [if_neg (UInt8.lt_irrefl a), if_neg (UInt8.lt_irrefl a)]
    exact cmp_same x
set_option maxHeartbeats 1000000 in
set_option maxRecDepth 100000 in
theorem rorder_any {xs ys : Array Value} {m n : Int} {a b : ByteArray} (h : Ent xs m a) (g : Ent ys n b) (hn : a.size ≤ 140737488351232) (gn : b.size ≤ 140737488351232) (w : World) :
    Calls Tryz.prog 78 #[.agg xs, .agg ys] w fun e w' => e = .returned (.int .i64 (Lib.compareBytes (okF m a).data.toList (okF n b).data.toList)) ∧ Below w.heap.size w w' := by
  obtain ⟨w1, hw1, hB, hk⟩ := box_two w xs ys
  have K1 : Kept (∀ w', CC w1 w' → Calls Tryz.prog 107 #[.agg xs] w' fun e w'' => e = .returned (.string (okF m a)) ∧ CC w1 w'') := ⟨fun w' hw => (key_any h hn w').mono fun e w'' hp => ⟨hp.1, hw.on hp.2⟩⟩
  have K2 : Kept (∀ w', CC w1 w' → Calls Tryz.prog 107 #[.agg ys] w' fun e w'' => e = .returned (.string (okF n b)) ∧ CC w1 w'') := ⟨fun w' hw => (key_any g gn w').mono fun e w'' hp => ⟨hp.1, hw.on hp.2⟩⟩
  have KI1 := Kept.mk (info_entry h.sz)
  have KI2 := Kept.mk (info_entry g.sz)
  have KK := Kept.mk hk
  have z1 := h.sz
  have z2 := g.sz
  clear h g hn gn hk hB
  generalize okF m a = s at *
  generalize okF n b = t at *
  go_enter Tryz.func78, Tryz.ntmps78
  go_wp2_with fail
  refine wp_region_quietC (C := CC w1) (by kernel_rfl) (by kernel_rfl) (Below.refl _ _).drew ?_
  refine BigFrame.wpQuiet_want rfl (fun K hK => quiet_load_row _ _ rfl _ rfl xs _ _ _ (fun W hW => (KK.out W hW).1) Tryz.underlying33 rfl KI1.out (hK _ ?_))
  clear hK K
  simp only [Act.put, List.setIfInBounds_toArray, List.set_cons_zero, List.set_cons_succ]
  go_big_quiet_step ((intro hCw; exact K1.out _ hCw))
  refine BigFrame.wpQuiet_want rfl (fun K hK => quiet_load_row _ _ rfl _ rfl ys _ _ _ (fun W hW => (KK.out W hW).2.1) Tryz.underlying33 rfl KI2.out (hK _ ?_))
  clear hK K
  simp only [Act.put, List.setIfInBounds_toArray, List.set_cons_zero, List.set_cons_succ]
  go_big_quiet_step ((intro hCw; exact K2.out _ hCw))
  go_big_quiet_step ((intro _; rfl))
  go_big_quiet_step ((intro _; rfl))
  refine wpQuiet_nil ?_
  intro w3 hw3
  have KB3 := Kept.mk (KK.out w3 hw3).2.2
  clear hw3 KK K1 K2
  go_wp2
  · have e := cmp_less s.data.toList t.data.toList (by rw [← Lib.toList_data, ← Lib.toList_data]; assumption)
    go_ret
    exact ⟨by rw [e]; rfl, KB3.out⟩
  · rename_i h1 h2
    have e := cmp_more s.data.toList t.data.toList (by rw [← Lib.toList_data, ← Lib.toList_data]; exact h1) (by rw [← Lib.toList_data, ← Lib.toList_data]; simpa using h2)
    go_ret
    exact ⟨by rw [e]; rfl, KB3.out⟩
  · rename_i h1 h2
    have e : s.data.toList = t.data.toList := by rw [← Lib.toList_data, ← Lib.toList_data]; simpa using h2
    go_ret
    exact ⟨by rw [e, cmp_same]; rfl, KB3.out⟩
end Go.Proofs.YtkbalngddlhlpaaGreatDoor.Nm
