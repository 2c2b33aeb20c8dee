/-
  Walks: Inflate; the document's Twin and Same.
-/
import Derived.Test.YtjifhhafllegbaaDoorT4
namespace Go.Proofs.YtjifhhafllegbaaDoor
open Go.RowKit

/-- What Inflate answers. -/
def AfterI (w w' : World) (r : Rs (List Int)) (e : Ending) : Prop :=
  match r with
  | .ok o t => ∃ v, e = .returned (.tuple #[v, .int .i64 ((t + 7) / 8 : Nat), .int .i64 0]) ∧ Own .u8 5 w' w.heap.size v o ∧ AllB o ∧ o.length ≤ 1048576 ∧ Below w.heap.size w w'
  | .bad er => e = .returned (.tuple #[.slice none 0 0, .int .i64 0, .int .i64 er.v]) ∧ Below w.heap.size w w'

set_option maxHeartbeats 1000000 in
set_option maxRecDepth 100000 in
theorem inflate_arg {v : Value} (w : World) (most : Int) (h : most < 0 ∨ 1048576 < most) :
    Calls Tryd.prog 10 #[v, .int .i64 most] w fun e w' => e = .returned (.tuple #[.slice none 0 0, .int .i64 0, .int .i64 1]) ∧ w' = w := by
  by_cases h0 : most < 0
  · clear h
    go_enter Tryd.func10, Tryd.ntmps10
    go_wp2
    go_ret3
    exact ⟨rfl, rfl⟩
  · have h1 : 1048576 < most := by omega
    clear h
    go_enter Tryd.func10, Tryd.ntmps10
    go_wp2
    go_ret3
    exact ⟨rfl, rfl⟩

set_option maxHeartbeats 2000000 in
set_option maxRecDepth 100000 in
theorem inflate_any {S : Nat → Prop} (v : Value) (p : List Int) (most : Nat) (w : World) (hT : Tab w) (hv : Rd .u8 S w v p) (hp : AllB p) (hl : p.length ≤ 70368744177664) (hm : most ≤ 1048576) :
    Calls Tryd.prog 10 #[v, .int .i64 most] w fun e w' => AfterI w w' (inflF p most) e := by
  have hm0 : ¬ (most : Int) < 0 := by omega
  have hm1 : ¬ (1048576 : Int) < (most : Int) := by omega
  obtain ⟨va, vc, rfl, -, -, -⟩ := hv.form
  have hR : Rdr w (w.alloc (.cells #[.slice va p.length vc, .int .i64 0, .int .u32 0, .int .i64 0, .slice none 0 0, .int .i64 most] 41)) w.heap.size none (.slice va p.length vc) p most [] 0 := by
    refine ⟨⟨0, 0, .slice none 0 0, heap_alloc_new w _, rfl, by omega, by omega, Own.nil _ _ _ _, rfl⟩, (Below.refl _ w).alloc (Nat.le_refl _) _, Nat.le_refl _, by simp, hv.any, hp, AllIn.nil, hl, hm, by simp⟩
  have KS := Kept.mk (stream_any hT (8 * p.length + 1) (by omega) hR)
  clear hT hv hp hR
  rcases hq : inflF p most with ⟨o, t⟩ | er
  · have hq2 : streamF p most (8 * p.length + 1) [] 0 = .ok o t := hq
    rw [hq2] at KS
    clear hq hq2
    go_enter Tryd.func10, Tryd.ntmps10
    go_wp2_with fail
    refine Calls.mono KS.out (fun e w1 hp => ?_)
    obtain ⟨rfl, ob, hR⟩ := hp
    obtain ⟨at_, held, outV, hB, h1, h2, h3, own, -⟩ := hR.blk
    obtain ⟨oa, oc, rfl, -, -, -⟩ := own.rd.form
    have c1 := hB.c1
    have c4 := hB.c4
    have hat : at_ = (t + 7) / 8 := by omega
    subst hat
    have KR := Kept.mk hR
    have KO := Kept.mk own
    clear hR own hB h1 h2 h3
    go_wp2
    go_quiet (fail)
    go_wp2
    go_ret3
    exact ⟨_, rfl, KO.out, KR.out.ao, by have := KR.out.lo; omega, below_drewN KR.out.bel _⟩
  · have hq2 : streamF p most (8 * p.length + 1) [] 0 = .bad er := hq
    rw [hq2] at KS
    have her := er.rng
    have hne : ¬ er.v = 0 := by omega
    clear hq hq2 her
    go_enter Tryd.func10, Tryd.ntmps10
    go_wp2_with fail
    refine Calls.mono KS.out (fun e w1 hp => ?_)
    obtain ⟨rfl, hR⟩ := hp
    have KR := Kept.mk hR
    clear hR
    go_wp2
    go_ret3
    exact ⟨rfl, KR.out⟩

set_option maxHeartbeats 400000 in
set_option maxRecDepth 100000 in
theorem twin_any {S : Nat → Prop} (v : Value) (xs : List Int) (w : World) (h : Rd .u8 S w v xs) (hl : xs.length ≤ 140737488355328) :
    Calls Tryd.prog 11 #[v] w fun e w' => ∃ v', e = .returned v' ∧ Own .u8 5 w' w.heap.size v' xs ∧ Below w.heap.size w w' := by
  obtain ⟨i0, z0, hi, hz, hs, hb, hc⟩ := info8
  go_enter Tryd.func11, Tryd.ntmps11
  go_wp2_with (at_builtin; refine wpList_append_rd _ rfl _ _ 22 rfl .u8 S 1 w.heap.size 5 i0 z0 Tryd.underlying22 hi hz hs hb hc (by omega) (.slice none 0 0) [] rfl (Own.nil _ _ _ _) _ xs rfl h (by simp; omega) (Nat.le_refl _) ?_; intro v' w1 hown hgrow hat)
  go_ret
  exact ⟨_, rfl, hown, (Below.refl _ w).grown hgrow (Nat.le_refl _) (fun k e => by simp [Value.ownBlock] at e)⟩

set_option maxHeartbeats 400000 in
set_option maxRecDepth 100000 in
theorem same_any {S S' : Nat → Prop} (v u : Value) (xs ys : List Int) (w : World) (h : Rd .u8 S w v xs) (k : Rd .u8 S' w u ys) (hx : AllB xs) (hy : AllB ys) :
    Calls Tryd.prog 13 #[v, u] w fun e w' => e = .returned (.bool (decide (xs = ys))) ∧ w' = w := by
  have c1 := h.str (P := Tryd.prog) (src := 22) Tryd.underlying22 Tryd.underlying5 9 Tryd.underlying9
  have c2 := k.str (P := Tryd.prog) (src := 22) Tryd.underlying22 Tryd.underlying5 9 Tryd.underlying9
  have he := strs_eq hx hy
  go_enter Tryd.func13, Tryd.ntmps13
  go_wp2
  go_ret
  exact ⟨rfl, rfl⟩


theorem inf1 : inflF [1, 3, 0, 252, 255, 97, 98, 99] 9 = .ok [97, 98, 99] 64 := by kernel_rfl
theorem inf2 : inflF [75, 4, 0] 9 = .ok [97] 18 := by kernel_rfl
theorem inf3 : inflF [7] 9 = .bad .form := by kernel_rfl

theorem allB_lit {xs : List Int} (h : xs.all (fun x => decide (0 ≤ x ∧ x < 256)) = true) : AllB xs := by
  intro x hx
  have := List.all_eq_true.1 h x hx
  simpa using this
theorem Rd.lit (k : IntKind) (w : World) (xs : List Int) (t : TypeId) (h : xs.length ≤ 1000) : Rd k (fun g => g = w.heap.size) (w.alloc (.cells (cellsK k xs).toArray t)) (.slice (some ⟨w.heap.size, 0, none⟩) xs.length xs.length) xs := by
  refine ⟨some ⟨w.heap.size, 0, none⟩, xs.length, rfl, Nat.le_refl _, by unfold maxLen; omega, (fun h => by cases h), fun _ => ⟨w.heap.size, 0, rfl, by simp, rfl, fun i hi => ?_⟩⟩
  have hh := heap_alloc_new w (.cells (cellsK k xs).toArray t)
  simp only [Nat.zero_add, World.cell?, hh]
  simp [cellsK, List.getD, List.getElem?_eq_getElem hi]
theorem Tab.far {w w' : World} (h : Tab w) (hb : Below w.heap.size w w') : Tab w' := ⟨Nat.lt_of_lt_of_le h.pos hb.size, fun i hi => h.cell hb i hi⟩

set_option maxHeartbeats 2000000 in
set_option maxRecDepth 100000 in
theorem awake_any (w : World) (hT : Tab w) : Calls Tryd.prog 9 #[] w fun e w' => e = .returned (.bool true) ∧ Below w.heap.size w w' := by
  have hb0 := (Below.refl w.heap.size w).alloc (Nat.le_refl _) (.cells (cellsK .u8 [1, 3, 0, 252, 255, 97, 98, 99]).toArray 5)
  have K1 := inflate_any _ [1, 3, 0, 252, 255, 97, 98, 99] 9 (w.alloc (.cells (cellsK .u8 [1, 3, 0, 252, 255, 97, 98, 99]).toArray 5)) (hT.far hb0) (Rd.lit .u8 w [1, 3, 0, 252, 255, 97, 98, 99] 5 (by simp)) (allB_lit rfl) (by simp) (by omega)
  rw [inf1] at K1
  have K1 := Kept.mk K1
  have KT := Kept.mk hT
  have KB0 := Kept.mk hb0
  clear hT hb0
  go_enter Tryd.func9, Tryd.ntmps9
  go_wp2_with fail
  refine Calls.mono K1.out (fun e w1 hp => ?_)
  obtain ⟨v1, rfl, ho1, -, -, hb1⟩ := hp
  have hB1 : Below w.heap.size w w1 := KB0.out.trans (hb1.mono (by simp))
  have hc1 := (Below.refl w1.heap.size w1).alloc (Nat.le_refl _) (.cells (cellsK .u8 [75, 4, 0]).toArray 5)
  have K2 := inflate_any _ [75, 4, 0] 9 (w1.alloc (.cells (cellsK .u8 [75, 4, 0]).toArray 5)) ((KT.out.far hB1).far hc1) (Rd.lit .u8 w1 [75, 4, 0] 5 (by simp)) (allB_lit rfl) (by simp) (by omega)
  rw [inf2] at K2
  have K2 := Kept.mk K2
  have KO1 := Kept.mk ho1
  have KB1 := Kept.mk hB1
  have KC1 := Kept.mk hc1
  clear ho1 hB1 hb1 hc1
  go_wp2_with fail
  refine Calls.mono K2.out (fun e w2 hp => ?_)
  obtain ⟨v2, rfl, ho2, -, -, hb2⟩ := hp
  have hB12 : Below w1.heap.size w1 w2 := KC1.out.trans (hb2.mono (by simp))
  have hB2 : Below w.heap.size w w2 := KB1.out.trans (hB12.mono KB1.out.size)
  have hc2 := (Below.refl w2.heap.size w2).alloc (Nat.le_refl _) (.cells (cellsK .u8 [7]).toArray 5)
  have K3 := inflate_any _ [7] 9 (w2.alloc (.cells (cellsK .u8 [7]).toArray 5)) ((KT.out.far hB2).far hc2) (Rd.lit .u8 w2 [7] 5 (by simp)) (allB_lit rfl) (by simp) (by omega)
  rw [inf3] at K3
  have K3 := Kept.mk K3
  have KO1' := Kept.mk (KO1.out.later hB12 (Nat.le_refl _))
  have KO2 := Kept.mk ho2
  have KB2 := Kept.mk hB2
  have KC2 := Kept.mk hc2
  clear ho2 hB2 hb2 hc2 hB12
  go_wp2_with fail
  refine Calls.mono K3.out (fun e w3 hp => ?_)
  obtain ⟨rfl, hb3⟩ := hp
  have hB23 : Below w2.heap.size w2 w3 := KC2.out.trans (hb3.mono (by simp))
  have KB3 := Kept.mk (KB2.out.trans (hB23.mono KB2.out.size))
  have c1 := ((KO1'.out.later hB23 (Nat.le_refl _)).rd).str (P := Tryd.prog) (src := 22) Tryd.underlying22 Tryd.underlying5 9 Tryd.underlying9
  have c2 := ((KO2.out.later hB23 (Nat.le_refl _)).rd).str (P := Tryd.prog) (src := 22) Tryd.underlying22 Tryd.underlying5 9 Tryd.underlying9
  have e1 : strOfNums [97, 98, 99] = { data := #[97, 98, 99] } := by kernel_rfl
  have e2 : strOfNums [97] = { data := #[97] } := by kernel_rfl
  rw [e1] at c1
  rw [e2] at c2
  clear hb3 hB23 e1 e2
  go_wp2
  go_ret
  exact ⟨rfl, KB3.out⟩
end Go.Proofs.YtjifhhafllegbaaDoor
