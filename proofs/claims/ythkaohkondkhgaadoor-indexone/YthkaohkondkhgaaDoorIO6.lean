/-
  Slots sorted.
-/
import Derived.Test.YthkaohkondkhgaaDoorIO5
import Derived.Sort.Grow
import Derived.Shelf.SlSortCmp.WholeK
namespace Go.Proofs.YthkaohkondkhgaaDoor
open Go.RowKit Go.Sort Go.Shelf

theorem drewN_grow (w : World) (os : Array Obj) (n : Nat) : (grow w os).drewN n = grow (w.drewN n) os := rfl
set_option maxHeartbeats 400000 in
set_option maxRecDepth 100000 in
theorem order_exact {a b : SlC} (ha : a.ok) (hb : b.ok) (w : World) :
    Calls Tryd.prog 38 #[.agg a.l.toArray, .agg b.l.toArray] w fun e w' => e = .returned (.int .i64 (ordZ a b)) ∧ ∃ q os', w' = grow (w.drewN q) os' := by
  obtain ⟨w1, hw1, hB, hz, hk⟩ := box_two w ha hb
  have KB := Kept.mk hB
  have KW : Kept (∃ os, w1 = grow w os) := ⟨_, by rw [← hw1, alloc_eq_grow, alloc_eq_grow, grow_grow]⟩
  have K1 : Kept (∀ W, Calls Tryd.prog 63 #[.string a.pt, .string b.pt] W fun e w'' => e = .returned (.int .i64 (Lib.compareBytes a.pt.data.toList b.pt.data.toList)) ∧ w'' = W) := ⟨fun W => Tryd.strings_Compare _ _ W⟩
  have K2 : Kept (∀ W, Calls Tryd.prog 64 #[.int .i64 a.st, .int .i64 b.st] W fun e w'' => e = .returned (.int .i64 (Lib.compareInt a.st b.st)) ∧ w'' = W) := ⟨fun W => Tryd.cmp_Compare_int _ _ W⟩
  have KE : Kept (ordZ a b = orI (Lib.compareBytes a.pt.data.toList b.pt.data.toList) (Lib.compareInt a.st b.st)) := ⟨rfl⟩
  have KK := Kept.mk hk
  clear hk hB ha hb
  generalize Lib.compareBytes a.pt.data.toList b.pt.data.toList = r at *
  generalize Lib.compareInt a.st b.st = s at *
  generalize a.l.toArray = A1 at *
  generalize b.l.toArray = B1 at *
  generalize ordZ a b = o at *
  go_enter Tryd.func38, Tryd.ntmps38
  go_wp2_with fail
  obtain ⟨c0, c1, c2, c3⟩ := KK.out w1 (CC.refl _)
  clear KK
  refine wp_region_tail 0 10 2 (by kernel_rfl) (by kernel_rfl) ?_
  simp only [List.take_succ_cons, List.take_zero, List.drop_succ_cons, List.drop_zero, List.foldl_nil]
  repeat (go_big_quiet_step ((first | (go_at_call 63; exact Calls.quiet_of_same (K1.out _)) | (go_at_call 64; exact Calls.quiet_of_same (K2.out _)))))
  refine wpQuiet_nil ?_
  intro m
  have KB3 := Kept.mk (below_drewN KB.out m)
  clear c0 c1 c2 c3
  have KWm : Kept (∃ os, w1.drewN m = grow (w.drewN m) os) := ⟨by obtain ⟨os, h⟩ := KW.out; exact ⟨os, by rw [h, drewN_grow]⟩⟩
  generalize w1.drewN m = w3 at *
  have KB4 := Kept.mk (KB3.out.alloc KB3.out.size (.cells #[.int .i64 r, .int .i64 s] 3))
  have KL := Kept.mk (cmpOr_any r s w3.heap.size (w3.alloc (.cells #[.int .i64 r, .int .i64 s] 3)) (alloc_cell _ _ _ _ _ rfl) (alloc_cell _ _ _ _ _ rfl))
  refine wpTail_step (fun K hK => ?_)
  go_simp
  refine hK _ _ ?_
  clear hK K
  refine wpTail_step (fun K hK => ?_)
  go_simp
  refine Calls.mono KL.out (fun e w5 hp => ?_)
  obtain ⟨rfl, rfl⟩ := hp
  refine hK _ _ ?_
  clear hK K
  refine wpTail_step (fun K hK => ?_)
  go_simp
  refine hK _ _ (wpTail_nil (NoPanic.normal ?_))
  clear hK K
  go_wp2
  go_ret
  rw [KE.out]
  obtain ⟨os, hos⟩ := KWm.out
  exact ⟨rfl, m, _, by rw [hos, alloc_eq_grow, grow_grow]⟩
theorem ordZ_tri {x y : SlC} (h : ¬ ordZ x y < 0) : ordZ y x < 0 ∨ (x.pt = y.pt ∧ x.st = y.st) := by
  rw [ordZ_neg] at h ⊢
  have hf := cmp_flip x.pt.data.toList y.pt.data.toList
  by_cases h0 : Lib.compareBytes x.pt.data.toList y.pt.data.toList = 0
  · have hp := pt_data.1 (cmp_zero h0)
    rcases Int.lt_trichotomy x.st y.st with q | q | q
    · exact absurd (.inr ⟨hp, q⟩) h
    · exact .inr ⟨hp, q⟩
    · exact .inl (.inr ⟨hp.symm, q⟩)
  · refine .inl (.inl ?_)
    have : ¬ Lib.compareBytes x.pt.data.toList y.pt.data.toList < 0 := fun q => h (.inl q)
    omega
theorem ordZ_keyL {a b c : SlC} (h1 : a.pt = b.pt) (h2 : a.st = b.st) : ordZ a c = ordZ b c := by
  unfold ordZ
  rw [h1, h2]
abbrev SlOk := {r : SlC // r.ok}
instance : Inhabited SlOk := ⟨⟨zS, zS_ok⟩⟩
def encZ (x : SlOk) : List Value := x.1.l
def cfZ (x y : SlOk) : Int := ordZ x.1 y.1
theorem swoZ : SWO (ltOf cfZ) where
  irrefl x := by simp [ltOf, cfZ, ordZ_irr]
  trans x y z h1 h2 := decide_eq_true (ordZ_trans (of_decide_eq_true h1) (of_decide_eq_true h2))
  ntrans x y z h1 h2 := by
    have g1 : ¬ ordZ x.1 y.1 < 0 := of_decide_eq_false h1
    have g2 : ¬ ordZ y.1 z.1 < 0 := of_decide_eq_false h2
    refine decide_eq_false ?_
    show ¬ ordZ x.1 z.1 < 0
    intro h3
    rcases ordZ_tri g1 with q | ⟨q1, q2⟩
    · exact g2 (ordZ_trans q h3)
    · exact g2 (by rw [← ordZ_keyL q1 q2]; exact h3)
end Go.Proofs.YthkaohkondkhgaaDoor
