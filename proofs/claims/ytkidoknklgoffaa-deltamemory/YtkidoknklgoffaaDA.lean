/-
  Walks: Twin, Same, awake; Make's other answers.
-/
import Derived.Test.YtkidoknklgoffaaDW10
import Derived.Lib.SlBytesConst
namespace Go.Proofs.Ytkidoknklgoffaa
open Go.RowKit

set_option maxHeartbeats 400000 in
set_option maxRecDepth 100000 in
theorem twin_any {S : Nat → Prop} (v : Value) (xs : List Int) (w : World) (h : Rd .u8 S w v xs) (hl : xs.length ≤ 140737488355328) :
    Calls Try.prog 11 #[v] w fun e w' => ∃ v', e = .returned v' ∧ Own .u8 5 w' w.heap.size v' xs ∧ Below w.heap.size w w' := by
  obtain ⟨i0, z0, hi, hz, hs, hb, hc⟩ := info8
  go_enter Try.func11, Try.ntmps11
  go_wp2_with (at_builtin; refine wpList_append_rd _ rfl _ _ 22 rfl .u8 S 1 w.heap.size 5 i0 z0 Try.underlying22 hi hz hs hb hc (by omega) (.slice none 0 0) [] rfl (Own.nil _ _ _ _) _ xs rfl h (by simp; omega) (Nat.le_refl _) ?_; intro v' w1 hown hgrow hat)
  go_ret
  exact ⟨_, rfl, hown, (Below.refl _ w).grown hgrow (Nat.le_refl _) (fun k e => by simp [Value.ownBlock] at e)⟩

set_option maxHeartbeats 400000 in
set_option maxRecDepth 100000 in
theorem same_any {S S' : Nat → Prop} (v u : Value) (xs ys : List Int) (w : World) (h : Rd .u8 S w v xs) (k : Rd .u8 S' w u ys) (hx : AllB xs) (hy : AllB ys) :
    Calls Try.prog 13 #[v, u] w fun e w' => e = .returned (.bool (decide (xs = ys))) ∧ w' = w := by
  have c1 := h.str (P := Try.prog) (src := 22) Try.underlying22 Try.underlying5 9 Try.underlying9
  have c2 := k.str (P := Try.prog) (src := 22) Try.underlying22 Try.underlying5 9 Try.underlying9
  have he := strs_eq hx hy
  go_enter Try.func13, Try.ntmps13
  go_wp2
  go_ret
  exact ⟨rfl, rfl⟩

theorem allB_lit {xs : List Int} (h : xs.all (fun x => decide (0 ≤ x ∧ x < 256)) = true) : AllB xs := by
  intro x hx
  have := List.all_eq_true.1 h x hx
  simpa using this
theorem Rd.lit (k : IntKind) (w : World) (xs : List Int) (t : TypeId) (h : xs.length ≤ 1000) : Rd k (fun g => g = w.heap.size) (w.alloc (.cells (cellsK k xs).toArray t)) (.slice (some ⟨w.heap.size, 0, none⟩) xs.length xs.length) xs := by
  refine ⟨some ⟨w.heap.size, 0, none⟩, xs.length, rfl, Nat.le_refl _, by unfold maxLen; omega, (fun h => by cases h), fun _ => ⟨w.heap.size, 0, rfl, by simp, rfl, fun i hi => ?_⟩⟩
  have hh := heap_alloc_new w (.cells (cellsK k xs).toArray t)
  simp only [Nat.zero_add, World.cell?, hh]
  simp [cellsK, List.getD, List.getElem?_eq_getElem hi]

theorem Rd.litF (k : IntKind) (w : World) (xs : List Int) (t : TypeId) (fr : Nat × Nat) (h : xs.length ≤ 1000) : Rd k (fun g => g = w.heap.size) (w.alloc (.cells (cellsK k xs).toArray t fr)) (.slice (some ⟨w.heap.size, 0, none⟩) xs.length xs.length) xs := by
  refine ⟨some ⟨w.heap.size, 0, none⟩, xs.length, rfl, Nat.le_refl _, by unfold maxLen; omega, (fun h => by cases h), fun _ => ⟨w.heap.size, 0, rfl, by simp, rfl, fun i hi => ?_⟩⟩
  have hh := heap_alloc_new w (.cells (cellsK k xs).toArray t fr)
  simp only [Nat.zero_add, World.cell?, hh]
  simp [cellsK, List.getD, List.getElem?_eq_getElem hi]
theorem conv_const (w : World) (C : Array Value) (n c : Nat) : (convert 22 22 (.slice (some ⟨w.heap.size, 0, none⟩) n c)).run Try.prog (w.alloc (.cells C 5)) = .ok (.slice (some ⟨w.heap.size, 0, none⟩) n c) (w.alloc (.cells C 5 (C.size, C.size + 1))) :=
  Lib.run_convert_bytes_const w _ _ C n c Try.underlying22 Try.underlying5

/-- The bytes of a text that the program has. -/
theorem lit_step (w : World) (xs : List Int) (h : xs.length ≤ 1000) : ∃ wa, (convert 22 22 (.slice (some ⟨w.heap.size, 0, none⟩) xs.length xs.length)).run Try.prog (w.alloc (.cells (cellsK .u8 xs).toArray 5)) = .ok (.slice (some ⟨w.heap.size, 0, none⟩) xs.length xs.length) wa ∧
    Rd .u8 anyB wa (.slice (some ⟨w.heap.size, 0, none⟩) xs.length xs.length) xs ∧ Below w.heap.size w wa :=
  ⟨_, conv_const w _ _ _, (Rd.litF .u8 w xs 5 _ h).any, (Below.refl w.heap.size w).alloc (Nat.le_refl _) _⟩

/-- What Apply answers, as a list and an error. -/
def anL : An (List Int) → List Int
  | .ok o => o
  | .bad _ => []
def anE : An (List Int) → Int
  | .ok _ => 0
  | .bad e => e
theorem afterA_own {w w' : World} {r : An (List Int)} {e : Ending} (h : AfterA w w' r e) : ∃ v, e = .returned (.tuple #[v, .int .i64 (anE r)]) ∧ Own .u8 5 w' w.heap.size v (anL r) ∧ AllB (anL r) ∧ (anL r).length ≤ 1048576 ∧ Below w.heap.size w w' := by
  rcases r with o | er
  · obtain ⟨v, h1, h2, h3, h4, h5⟩ := h
    exact ⟨v, h1, h2, h3, h4, h5⟩
  · obtain ⟨h1, h2⟩ := h
    exact ⟨_, h1, Own.nil _ _ _ _, AllIn.nil, by simp [anL], h2⟩

theorem apl1 : applF [97, 98, 99, 100, 101, 102] [6, 5, 144, 3, 2, 120, 121] 9 = .ok [97, 98, 99, 120, 121] := by kernel_rfl

set_option maxHeartbeats 4000000 in
set_option maxRecDepth 100000 in
theorem awake_any (w : World) : Calls Try.prog 9 #[] w fun e w' => e = .returned (.bool true) ∧ Below w.heap.size w w' := by
  obtain ⟨wa, cvA, rdA, blA⟩ := lit_step w [97, 98, 99, 100, 101, 102] (by simp)
  have cvA : (convert 22 22 (.slice (some ⟨w.heap.size, 0, none⟩) 6 6)).run Try.prog (w.alloc (.cells #[.int .u8 97, .int .u8 98, .int .u8 99, .int .u8 100, .int .u8 101, .int .u8 102] 5)) = .ok (.slice (some ⟨w.heap.size, 0, none⟩) 6 6) wa := cvA
  have hbB := (Below.refl wa.heap.size wa).alloc (Nat.le_refl _) (.cells (cellsK .u8 [6, 5, 144, 3, 2, 120, 121]).toArray 5)
  have K1 := apply_any _ _ [97, 98, 99, 100, 101, 102] [6, 5, 144, 3, 2, 120, 121] 9 _ (rdA.later hbB (Nat.le_refl _)) (Rd.lit .u8 wa [6, 5, 144, 3, 2, 120, 121] 5 (by simp)) (allB_lit rfl) (allB_lit rfl) (by simp) (by simp) (by omega)
  rw [apl1] at K1
  have K1 := Kept.mk K1
  have KB0 := Kept.mk (blA.trans (hbB.mono blA.size))
  clear blA hbB rdA
  go_enter Try.func9, Try.ntmps9
  go_wp2_with (rw [cvA])
  refine Calls.mono K1.out (fun e w1 hp => ?_)
  obtain ⟨v1, rfl, ho1, -, -, hb1⟩ := hp
  have KB1 := Kept.mk (KB0.out.trans (hb1.mono KB0.out.size))
  have KO1 := Kept.mk ho1
  clear ho1 hb1 K1 KB0 cvA
  obtain ⟨wc, cvC, rdC, blC⟩ := lit_step w1 [97, 98, 99] (by simp)
  have cvC : (convert 22 22 (.slice (some ⟨w1.heap.size, 0, none⟩) 3 3)).run Try.prog (w1.alloc (.cells #[.int .u8 97, .int .u8 98, .int .u8 99] 5)) = .ok (.slice (some ⟨w1.heap.size, 0, none⟩) 3 3) wc := cvC
  obtain ⟨wd, cvD, rdD, blD⟩ := lit_step wc [97, 98, 99, 100] (by simp)
  have cvD : (convert 22 22 (.slice (some ⟨wc.heap.size, 0, none⟩) 4 4)).run Try.prog (wc.alloc (.cells #[.int .u8 97, .int .u8 98, .int .u8 99, .int .u8 100] 5)) = .ok (.slice (some ⟨wc.heap.size, 0, none⟩) 4 4) wd := cvD
  have K2 := Kept.mk (make_any _ _ [97, 98, 99] [97, 98, 99, 100] wd (rdC.later blD (Nat.le_refl _)) rdD (allB_lit rfl) (allB_lit rfl) (by simp) (by simp))
  have hb1d : Below w1.heap.size w1 wd := blC.trans (blD.mono blC.size)
  have KB2 := Kept.mk (KB1.out.trans (hb1d.mono KB1.out.size))
  have KO2 := Kept.mk (KO1.out.later hb1d (Nat.le_refl _))
  clear rdC rdD blC blD hb1d KB1 KO1
  go_wp2_with (first | rw [cvC] | rw [cvD])
  refine Calls.mono K2.out (fun e w2 hp => ?_)
  obtain ⟨v2, I, rfl, ho2, hTl, hIl, -, hb2⟩ := hp
  have KB3 := Kept.mk (KB2.out.trans (hb2.mono KB2.out.size))
  have KO3 := Kept.mk (KO2.out.later hb2 (Nat.le_refl _))
  obtain ⟨we, cvE, rdE, blE⟩ := lit_step w2 [97, 98, 99] (by simp)
  have cvE : (convert 22 22 (.slice (some ⟨w2.heap.size, 0, none⟩) 3 3)).run Try.prog (w2.alloc (.cells #[.int .u8 97, .int .u8 98, .int .u8 99] 5)) = .ok (.slice (some ⟨w2.heap.size, 0, none⟩) 3 3) we := cvE
  have hdl : (dlL [97, 98, 99] [97, 98, 99, 100] I).length + 20 ≤ 140737488355328 := by
    have h1 := Nu.sizeL_length (([97, 98, 99] : List Int).length : Int)
    have h2 := Nu.sizeL_length (([97, 98, 99, 100] : List Int).length : Int)
    unfold dlL
    simp only [List.length_append, List.length_cons, List.length_nil] at hIl h1 h2 ⊢
    omega
  have K3 := apply_any _ _ [97, 98, 99] (dlL [97, 98, 99] [97, 98, 99, 100] I) 4 we rdE (ho2.later blE (Nat.le_refl _)).rd (allB_lit rfl) (dlL_all (by simp) (by simp) hTl.1) hdl (by simp) (by omega)
  rw [appl_tl (allB_lit rfl) (by simp) (by simp) hTl 4 (by simp)] at K3
  have K3 := Kept.mk K3
  have KB4 := Kept.mk (KB3.out.trans (blE.mono KB3.out.size))
  have KO4 := Kept.mk (KO3.out.later blE (Nat.le_refl _))
  clear ho2 hTl hIl hb2 KB2 KB3 KO2 KO3 K2 rdE blE hdl cvC cvD
  go_wp2_with (rw [cvE])
  refine Calls.mono K3.out (fun e w3 hp => ?_)
  obtain ⟨v3, rfl, ho3, -, -, hb3⟩ := hp
  have KB5 := Kept.mk (KB4.out.trans (hb3.mono KB4.out.size))
  have c1 := ((KO4.out.later hb3 (Nat.le_refl _)).rd).str (P := Try.prog) (src := 22) Try.underlying22 Try.underlying5 9 Try.underlying9
  have c2 := (ho3.rd).str (P := Try.prog) (src := 22) Try.underlying22 Try.underlying5 9 Try.underlying9
  have e1 : strOfNums [97, 98, 99, 120, 121] = { data := #[97, 98, 99, 120, 121] } := by kernel_rfl
  have e2 : strOfNums [97, 98, 99, 100] = { data := #[97, 98, 99, 100] } := by kernel_rfl
  rw [e1] at c1
  rw [e2] at c2
  clear ho3 hb3 e1 e2 KB4 KO4 K3 cvE
  go_wp2
  go_ret
  exact ⟨rfl, KB5.out⟩
end Go.Proofs.Ytkidoknklgoffaa
