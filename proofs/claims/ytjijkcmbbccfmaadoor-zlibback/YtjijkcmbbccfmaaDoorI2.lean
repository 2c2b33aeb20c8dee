/-
  Walks: Inflate; the document's Twin and Same.
-/
import Derived.Test.YtjijkcmbbccfmaaDoorT4
namespace Go.Proofs.YtjijkcmbbccfmaaDoor
open Go.RowKit

/-- What Inflate answers. -/
def AfterI (w w' : World) (r : Rs (List Int)) (e : Ending) : Prop :=
  match r with
  | .ok o t => ∃ v, e = .returned (.tuple #[v, .int .i64 ((t + 7) / 8 : Nat), .int .i64 0]) ∧ Own .u8 5 w' w.heap.size v o ∧ AllB o ∧ o.length ≤ 1048576 ∧ Below w.heap.size w w'
  | .bad er => e = .returned (.tuple #[.slice none 0 0, .int .i64 0, .int .i64 er.v]) ∧ Below w.heap.size w w'

set_option maxHeartbeats 1000000 in
set_option maxRecDepth 100000 in
theorem inflate_arg {v : Value} (w : World) (most : Int) (h : most < 0 ∨ 1048576 < most) :
    Calls Tryd.prog 11 #[v, .int .i64 most] w fun e w' => e = .returned (.tuple #[.slice none 0 0, .int .i64 0, .int .i64 1]) ∧ w' = w := by
  by_cases h0 : most < 0
  · clear h
    go_enter Tryd.func11, Tryd.ntmps11
    go_wp2
    go_ret3
    exact ⟨rfl, rfl⟩
  · have h1 : 1048576 < most := by omega
    clear h
    go_enter Tryd.func11, Tryd.ntmps11
    go_wp2
    go_ret3
    exact ⟨rfl, rfl⟩

set_option maxHeartbeats 2000000 in
set_option maxRecDepth 100000 in
theorem inflate_any {S : Nat → Prop} (v : Value) (p : List Int) (most : Nat) (w : World) (hT : Tab w) (hv : Rd .u8 S w v p) (hp : AllB p) (hl : p.length ≤ 70368744177664) (hm : most ≤ 1048576) :
    Calls Tryd.prog 11 #[v, .int .i64 most] w fun e w' => AfterI w w' (inflF p most) e := by
  have hm0 : ¬ (most : Int) < 0 := by omega
  have hm1 : ¬ (1048576 : Int) < (most : Int) := by omega
  obtain ⟨va, vc, rfl, -, -, -⟩ := hv.form
  have hR : Rdr w (w.alloc (.cells #[.slice va p.length vc, .int .i64 0, .int .u32 0, .int .i64 0, .slice none 0 0, .int .i64 most] 41)) w.heap.size none (.slice va p.length vc) p most [] 0 := by
    refine ⟨⟨0, 0, .slice none 0 0, heap_alloc_new w _, rfl, by omega, by omega, Own.nil _ _ _ _, rfl⟩, (Below.refl _ w).alloc (Nat.le_refl _) _, Nat.le_refl _, by simp, hv.any, hp, AllIn.nil, hl, hm, by simp⟩
  have KS := Kept.mk (stream_any hT (8 * p.length + 1) (by omega) hR)
  clear hT hv hp hR
  rcases hq : inflF p most with ⟨o, t⟩ | er
  · have hq2 : streamF p most (8 * p.length + 1) [] 0 = .ok o t := hq
    rw [hq2] at KS
    clear hq hq2
    go_enter Tryd.func11, Tryd.ntmps11
    go_wp2_with fail
    refine Calls.mono KS.out (fun e w1 hp => ?_)
    obtain ⟨rfl, ob, hR⟩ := hp
    obtain ⟨at_, held, outV, hB, h1, h2, h3, own, -⟩ := hR.blk
    obtain ⟨oa, oc, rfl, -, -, -⟩ := own.rd.form
    have c1 := hB.c1
    have c4 := hB.c4
    have hat : at_ = (t + 7) / 8 := by omega
    subst hat
    have KR := Kept.mk hR
    have KO := Kept.mk own
    clear hR own hB h1 h2 h3
    go_wp2
    go_quiet (fail)
    go_wp2
    go_ret3
    exact ⟨_, rfl, KO.out, KR.out.ao, by have := KR.out.lo; omega, below_drewN KR.out.bel _⟩
  · have hq2 : streamF p most (8 * p.length + 1) [] 0 = .bad er := hq
    rw [hq2] at KS
    have her := er.rng
    have hne : ¬ er.v = 0 := by omega
    clear hq hq2 her
    go_enter Tryd.func11, Tryd.ntmps11
    go_wp2_with fail
    refine Calls.mono KS.out (fun e w1 hp => ?_)
    obtain ⟨rfl, hR⟩ := hp
    have KR := Kept.mk hR
    clear hR
    go_wp2
    go_ret3
    exact ⟨rfl, KR.out⟩

set_option maxHeartbeats 400000 in
set_option maxRecDepth 100000 in
theorem twin_any {S : Nat → Prop} (v : Value) (xs : List Int) (w : World) (h : Rd .u8 S w v xs) (hl : xs.length ≤ 140737488355328) :
    Calls Tryd.prog 10 #[v] w fun e w' => ∃ v', e = .returned v' ∧ Own .u8 5 w' w.heap.size v' xs ∧ Below w.heap.size w w' := by
  obtain ⟨i0, z0, hi, hz, hs, hb, hc⟩ := info8
  go_enter Tryd.func10, Tryd.ntmps10
  go_wp2_with (at_builtin; refine wpList_append_rd _ rfl _ _ 22 rfl .u8 S 1 w.heap.size 5 i0 z0 Tryd.underlying22 hi hz hs hb hc (by omega) (.slice none 0 0) [] rfl (Own.nil _ _ _ _) _ xs rfl h (by simp; omega) (Nat.le_refl _) ?_; intro v' w1 hown hgrow hat)
  go_ret
  exact ⟨_, rfl, hown, (Below.refl _ w).grown hgrow (Nat.le_refl _) (fun k e => by simp [Value.ownBlock] at e)⟩

set_option maxHeartbeats 400000 in
set_option maxRecDepth 100000 in
theorem same_any {S S' : Nat → Prop} (v u : Value) (xs ys : List Int) (w : World) (h : Rd .u8 S w v xs) (k : Rd .u8 S' w u ys) (hx : AllB xs) (hy : AllB ys) :
    Calls Tryd.prog 13 #[v, u] w fun e w' => e = .returned (.bool (decide (xs = ys))) ∧ w' = w := by
  have c1 := h.str (P := Tryd.prog) (src := 22) Tryd.underlying22 Tryd.underlying5 9 Tryd.underlying9
  have c2 := k.str (P := Tryd.prog) (src := 22) Tryd.underlying22 Tryd.underlying5 9 Tryd.underlying9
  have he := strs_eq hx hy
  go_enter Tryd.func13, Tryd.ntmps13
  go_wp2
  go_ret
  exact ⟨rfl, rfl⟩


theorem allB_lit {xs : List Int} (h : xs.all (fun x => decide (0 ≤ x ∧ x < 256)) = true) : AllB xs := by
  intro x hx
  have := List.all_eq_true.1 h x hx
  simpa using this
theorem Rd.lit (k : IntKind) (w : World) (xs : List Int) (t : TypeId) (h : xs.length ≤ 1000) : Rd k (fun g => g = w.heap.size) (w.alloc (.cells (cellsK k xs).toArray t)) (.slice (some ⟨w.heap.size, 0, none⟩) xs.length xs.length) xs := by
  refine ⟨some ⟨w.heap.size, 0, none⟩, xs.length, rfl, Nat.le_refl _, by unfold maxLen; omega, (fun h => by cases h), fun _ => ⟨w.heap.size, 0, rfl, by simp, rfl, fun i hi => ?_⟩⟩
  have hh := heap_alloc_new w (.cells (cellsK k xs).toArray t)
  simp only [Nat.zero_add, World.cell?, hh]
  simp [cellsK, List.getD, List.getElem?_eq_getElem hi]
theorem Tab.far {w w' : World} (h : Tab w) (hb : Below w.heap.size w w') : Tab w' := ⟨Nat.lt_of_lt_of_le h.pos hb.size, fun i hi => h.cell hb i hi⟩

end Go.Proofs.YtjijkcmbbccfmaaDoor
