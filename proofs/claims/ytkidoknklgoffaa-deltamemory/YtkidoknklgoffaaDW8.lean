/-
  Walks: grow.
-/
import Derived.Test.YtkidoknklgoffaaDW7
namespace Go.Proofs.Ytkidoknklgoffaa
open Go.RowKit

/-- A match in memory. -/
def MB (w : World) (mb : Nat) (f a c : Int) : Prop := w.heap[mb]? = some (.cells #[.int .i64 f, .int .i64 a, .int .i64 c] 56)
section
variable {w : World} {mb : Nat} {f a c : Int}
theorem MB.lt (h : MB w mb f a c) : mb < w.heap.size := by
  rcases Nat.lt_or_ge mb w.heap.size with h' | h'
  · exact h'
  · unfold MB at h
    rw [Array.getElem?_eq_none h'] at h
    cases h
theorem MB.c0 (h : MB w mb f a c) : w.cell? ⟨mb, 0, none⟩ = some (.int .i64 f) := by unfold MB at h; simp [World.cell?, h]
theorem MB.c1 (h : MB w mb f a c) : w.cell? ⟨mb, 1, none⟩ = some (.int .i64 a) := by unfold MB at h; simp [World.cell?, h]
theorem MB.c2 (h : MB w mb f a c) : w.cell? ⟨mb, 2, none⟩ = some (.int .i64 c) := by unfold MB at h; simp [World.cell?, h]
theorem MB.fz (h : MB w mb f a c) (i : Nat) : w.frozen? ⟨mb, i, none⟩ = false := by unfold MB at h; simp [World.frozen?, h]
theorem MB.s0 (h : MB w mb f a c) (n : Int) : MB (w.setCell ⟨mb, 0, none⟩ (.int .i64 n)) mb n a c := by
  unfold MB at h ⊢
  simp only [World.setCell, Array.getElem?_modify, h]
  simp
theorem MB.s1 (h : MB w mb f a c) (n : Int) : MB (w.setCell ⟨mb, 1, none⟩ (.int .i64 n)) mb f n c := by
  unfold MB at h ⊢
  simp only [World.setCell, Array.getElem?_modify, h]
  simp
theorem MB.s2 (h : MB w mb f a c) (n : Int) : MB (w.setCell ⟨mb, 2, none⟩ (.int .i64 n)) mb f a n := by
  unfold MB at h ⊢
  simp only [World.setCell, Array.getElem?_modify, h]
  simp
end
/-- The first number of a match, for the measure. -/
def m0Of (w : World) (mb : Nat) : Nat :=
  match w.cell? ⟨mb, 0, none⟩ with
  | some (.int _ f) => f.toNat
  | _ => 0
def m2Of (w : World) (mb : Nat) : Nat :=
  match w.cell? ⟨mb, 2, none⟩ with
  | some (.int _ f) => f.toNat
  | _ => 0
theorem m0_on {w : World} {mb f : Nat} {a c : Int} (h : MB w mb f a c) : m0Of w mb = f := by unfold m0Of; rw [h.c0]; simp
theorem m2_on {w : World} {mb c : Nat} {a f : Int} (h : MB w mb f a c) : m2Of w mb = c := by unfold m2Of; rw [h.c2]; simp

theorem seg_front {base target : List Int} {f a c : Nat} (h : (base.drop (f + 1)).take c = (target.drop (a + 1)).take c) (hf : f < base.length) (ha : a < target.length) (he : base.getD f 0 = target.getD a 0) : (base.drop f).take (c + 1) = (target.drop a).take (c + 1) := by
  rw [Nu.drop_cons base f hf, Nu.drop_cons target a ha, List.take_succ_cons, List.take_succ_cons, h, he]
theorem seg_back {base target : List Int} {f a c : Nat} (h : (base.drop f).take c = (target.drop a).take c) (hf : f + c < base.length) (ha : a + c < target.length) (he : base.getD (f + c) 0 = target.getD (a + c) 0) : (base.drop f).take (c + 1) = (target.drop a).take (c + 1) := by
  rw [Nu.take_snoc _ c (by simp; omega), Nu.take_snoc _ c (by simp; omega), h]
  congr 2
  simp only [List.getD, List.getElem?_drop] at he ⊢
  exact he

theorem gr_ret {w2 : World} {b : Nat} {f a c : Int} (h : MB w2 b f a c) (t0 t1 t2 t3 t4 t5 t6 t7 : Value) (ts : List Value) :
    (results Try.f28 (t0 :: t1 :: t2 :: t3 :: t4 :: t5 :: t6 :: t7 :: .pointer (some ⟨b, 0, none⟩) :: ts).toArray).run Try.prog w2 = .ok (.agg #[.int .i64 f, .int .i64 a, .int .i64 c]) w2 := by
  have c0 := h.c0
  have c1 := h.c1
  have c2 := h.c2
  simp [results, Try.results28, go_sem, c0, c1, c2]

set_option maxHeartbeats 2000000 in
set_option maxRecDepth 100000 in
theorem grow_any {S S' : Nat → Prop} (bv tv : Value) (base target : List Int) (fr at_ cnt done : Nat) (w : World) (g : Rd .u8 S w bv base) (h : Rd .u8 S' w tv target) (hg : AllB base) (ht : AllB target) (hgl : base.length ≤ 1048576) (hl : target.length ≤ 1048576)
    (hf : fr + cnt ≤ base.length) (ha : at_ + cnt ≤ target.length) (hd : done ≤ at_) (he : (base.drop fr).take cnt = (target.drop at_).take cnt) :
    Calls Try.prog 28 #[bv, tv, .agg #[.int .i64 fr, .int .i64 at_, .int .i64 cnt], .int .i64 done] w fun e w' => ∃ f a c : Nat, e = .returned (.agg #[.int .i64 f, .int .i64 a, .int .i64 c]) ∧
      f + c ≤ base.length ∧ a + c ≤ target.length ∧ done ≤ a ∧ a ≤ at_ ∧ f + at_ = fr + a ∧ at_ + cnt ≤ a + c ∧ (base.drop f).take c = (target.drop a).take c ∧ (f + c = base.length ∨ a + c = target.length ∨ base.getD (f + c) 0 ≠ target.getD (a + c) 0) ∧ Below w.heap.size w w' := by
  obtain ⟨ba, bc, rfl, -, -, -⟩ := g.form
  obtain ⟨ta, tc, rfl, -, -, -⟩ := h.form
  have KG := Kept.mk g
  have KH := Kept.mk h
  have KE := Kept.mk he
  have KAg := Kept.mk hg
  have KAt := Kept.mk ht
  have hM0 : MB (w.alloc (.cells #[.int .i64 fr, .int .i64 at_, .int .i64 cnt] 56)) w.heap.size fr at_ cnt := heap_alloc_new w _
  have hM1 : MB ((w.alloc (.cells #[.int .i64 fr, .int .i64 at_, .int .i64 cnt] 56)).alloc (.cells #[.int .i64 0, .int .i64 0, .int .i64 0] 56)) w.heap.size fr at_ cnt := by
    unfold MB at hM0 ⊢
    rw [Below.heap_alloc _ _ _ (by simp)]
    exact hM0
  have hM2 : MB ((w.alloc (.cells #[.int .i64 fr, .int .i64 at_, .int .i64 cnt] 56)).alloc (.cells #[.int .i64 0, .int .i64 0, .int .i64 0] 56)) (w.heap.size + 1) 0 0 0 := by
    have := heap_alloc_new (w.alloc (.cells #[.int .i64 fr, .int .i64 at_, .int .i64 cnt] 56)) (.cells #[.int .i64 0, .int .i64 0, .int .i64 0] 56)
    unfold MB
    simpa using this
  have KM0 := Kept.mk hM1
  have KM2 := Kept.mk hM2
  have KB0 := Kept.mk (((Below.refl w.heap.size w).alloc (Nat.le_refl _) (.cells #[.int .i64 fr, .int .i64 at_, .int .i64 cnt] 56)).alloc (by simp) (.cells #[.int .i64 0, .int .i64 0, .int .i64 0] 56))
  clear g h he hg ht hM0 hM1 hM2
  go_enter Try.func28, Try.ntmps28
  go_wp2
  go_loopw [32] (fun _ wr => ∃ f a c : Nat, MB wr w.heap.size f a c ∧ MB wr (w.heap.size + 1) 0 0 0 ∧ Below w.heap.size w wr ∧ f + c ≤ base.length ∧ a + c ≤ target.length ∧ done ≤ a ∧ a ≤ at_ ∧ f + at_ = fr + a ∧ at_ + cnt ≤ a + c ∧ (base.drop f).take c = (target.drop a).take c) (fun _ wr => m0Of wr w.heap.size)
  case atStart => exact ⟨fr, at_, cnt, KM0.out, KM2.out, KB0.out, hf, ha, hd, Nat.le_refl _, by omega, Nat.le_refl _, KE.out⟩
  case round =>
    obtain ⟨f, a, c, hM, hN, hbel, h1, h2, h3, h4, h5, h6, h7⟩ := hrel
    have c0 := hM.c0
    have c1 := hM.c1
    have c2 := hM.c2
    have f0 := hM.fz 0
    have f1 := hM.fz 1
    have f2 := hM.fz 2
    have KM := Kept.mk hM
    have KN := Kept.mk hN
    have KB := Kept.mk hbel
    have K7 := Kept.mk h7
    have K5 := Kept.mk h5
    clear hM hN hbel h7 h5
    by_cases hf0 : f = 0
    · have hfo : decide (0 < f) = false := by simp; omega
      clear hf0
      go_wp2
      go_quiet (fail)
      go_wp2
      have KMq : Kept (MB (wr.drewN nq) w.heap.size f a c) := ⟨KM.out⟩
      have KNq : Kept (MB (wr.drewN nq) (w.heap.size + 1) 0 0 0) := ⟨KN.out⟩
      have KBq := Kept.mk (below_drewN KB.out nq)
      clear c0 c1 c2 f0 f1 f2
      generalize wr.drewN nq = wx at *
      go_loopw [81] (fun _ wr2 => ∃ c2 : Nat, MB wr2 w.heap.size f a c2 ∧ MB wr2 (w.heap.size + 1) 0 0 0 ∧ Below w.heap.size w wr2 ∧ f + c2 ≤ base.length ∧ a + c2 ≤ target.length ∧ at_ + cnt ≤ a + c2 ∧ (base.drop f).take c2 = (target.drop a).take c2) (fun _ wr2 => base.length - m2Of wr2 w.heap.size)
      case atStart => exact ⟨c, KMq.out, KNq.out, KBq.out, h1, h2, h6, K7.out⟩
      case round =>
        clear KMq KNq KBq K7
        obtain ⟨c2, hM, hN, hbel, g1, g2, g6, g7⟩ := hrel
        have c0 := hM.c0
        have c1 := hM.c1
        have cc2 := hM.c2
        have f2 := hM.fz 2
        have n0 := hN.fz 0
        have n1 := hN.fz 1
        have n2 := hN.fz 2
        have d0 := hN.c0
        have d1 := hN.c1
        have d2 := hN.c2
        have KM3 := Kept.mk hM
        have KN3 := Kept.mk hN
        have KB3 := Kept.mk hbel
        have K73 := Kept.mk g7
        clear hM hN hbel g7
        by_cases he1 : f + c2 = base.length
        · have hfo : decide ((f : Int) + (c2 : Int) < (base.length : Int)) = false := by simp; omega
          have KX : Kept (f + c2 = base.length ∨ a + c2 = target.length ∨ base.getD (f + c2) 0 ≠ target.getD (a + c2) 0) := ⟨Or.inl he1⟩
          clear he1
          go_wp2
          go_quiet (fail)
          go_wp2
          have hN4 : MB ((((wr.drewN nq).setCell ⟨w.heap.size + 1, 0, none⟩ (.int .i64 f)).setCell ⟨w.heap.size + 1, 1, none⟩ (.int .i64 a)).setCell ⟨w.heap.size + 1, 2, none⟩ (.int .i64 c2)) (w.heap.size + 1) f a c2 := ((MB.s0 (w := wr.drewN nq) KN3.out f).s1 a).s2 c2
          refine bodyPost_ret (gr_ret hN4 _ _ _ _ _ _ _ _ _) rfl ⟨f, a, c2, rfl, g1, g2, h3, h4, K5.out, g6, K73.out, KX.out, ?_⟩
          exact (((below_drewN KB3.out nq).setCell (p := ⟨w.heap.size + 1, 0, none⟩) (Nat.le_succ _) _).setCell (p := ⟨w.heap.size + 1, 1, none⟩) (Nat.le_succ _) _).setCell (p := ⟨w.heap.size + 1, 2, none⟩) (Nat.le_succ _) _
        · have hfo : decide ((f : Int) + (c2 : Int) < (base.length : Int)) = true := by simp; omega
          by_cases he2 : a + c2 = target.length
          · have hao : decide ((a : Int) + (c2 : Int) < (target.length : Int)) = false := by simp; omega
            have KX : Kept (f + c2 = base.length ∨ a + c2 = target.length ∨ base.getD (f + c2) 0 ≠ target.getD (a + c2) 0) := ⟨Or.inr (Or.inl he2)⟩
            clear he1 he2
            go_wp2
            go_quiet (fail)
            go_wp2
            have hN4 : MB ((((wr.drewN nq).setCell ⟨w.heap.size + 1, 0, none⟩ (.int .i64 f)).setCell ⟨w.heap.size + 1, 1, none⟩ (.int .i64 a)).setCell ⟨w.heap.size + 1, 2, none⟩ (.int .i64 c2)) (w.heap.size + 1) f a c2 := ((MB.s0 (w := wr.drewN nq) KN3.out f).s1 a).s2 c2
            refine bodyPost_ret (gr_ret hN4 _ _ _ _ _ _ _ _ _) rfl ⟨f, a, c2, rfl, g1, g2, h3, h4, K5.out, g6, K73.out, KX.out, ?_⟩
            exact (((below_drewN KB3.out nq).setCell (p := ⟨w.heap.size + 1, 0, none⟩) (Nat.le_succ _) _).setCell (p := ⟨w.heap.size + 1, 1, none⟩) (Nat.le_succ _) _).setCell (p := ⟨w.heap.size + 1, 2, none⟩) (Nat.le_succ _) _
          · have hao : decide ((a : Int) + (c2 : Int) < (target.length : Int)) = true := by simp; omega
            obtain ⟨ib, io, ic2, hq1, hib, -, -, -, hcb⟩ := KG.out.open (by omega)
            simp only [Value.slice.injEq, true_and] at hq1
            obtain ⟨rfl, rfl⟩ := hq1
            obtain ⟨jb, jo, jc2, hq2, hjb, -, -, -, hct⟩ := KH.out.open (by omega)
            simp only [Value.slice.injEq, true_and] at hq2
            obtain ⟨rfl, rfl⟩ := hq2
            have hcb := Kept.mk hcb
            have hct := Kept.mk hct
            have cb : wr.cell? ⟨ib, io + (f + c2), none⟩ = some (.int .u8 (base.getD (f + c2) 0)) := by rw [KB3.out.cell (p := ⟨ib, io + (f + c2), none⟩) hib]; exact hcb.out (f + c2) (by omega)
            have ct : wr.cell? ⟨jb, jo + (a + c2), none⟩ = some (.int .u8 (target.getD (a + c2) 0)) := by rw [KB3.out.cell (p := ⟨jb, jo + (a + c2), none⟩) hjb]; exact hct.out (a + c2) (by omega)
            have hfl : (f : Int) + (c2 : Int) < (base.length : Int) := by omega
            have hal : (a : Int) + (c2 : Int) < (target.length : Int) := by omega
            by_cases hxy : base.getD (f + c2) 0 = target.getD (a + c2) 0
            · have hxo : (base.getD (f + c2) 0 == target.getD (a + c2) 0) = true := by simpa using hxy
              have K8 := Kept.mk (seg_back K73.out (by omega) (by omega) hxy)
              clear hxy
              generalize base.getD (f + c2) 0 = x at *
              generalize target.getD (a + c2) 0 = y at *
              clear he1 he2
              have hm2 := m2_on KM3.out
              go_wp2
              go_quiet (fail)
              go_wp2
              have hM4 : MB ((wr.drewN nq).setCell ⟨w.heap.size, 2, none⟩ (.int .i64 ((c2 : Int) + 1))) w.heap.size f a ((c2 + 1 : Nat) : Int) := MB.s2 (w := wr.drewN nq) KM3.out _
              refine ⟨⟨c2 + 1, hM4, ?_, (below_drewN KB3.out nq).setCell (p := ⟨w.heap.size, 2, none⟩) (Nat.le_refl _) _, by omega, by omega, by omega, K8.out⟩, ?_⟩
              · have := KN3.out
                unfold MB at this ⊢
                rw [Below.heap_setCell _ _ _ _ (by show w.heap.size + 1 ≠ w.heap.size; omega)]
                exact this
              · rw [m2_on hM4, hm2]
                omega
            · have hxo : (base.getD (f + c2) 0 == target.getD (a + c2) 0) = false := by simpa using hxy
              have KX : Kept (f + c2 = base.length ∨ a + c2 = target.length ∨ base.getD (f + c2) 0 ≠ target.getD (a + c2) 0) := ⟨Or.inr (Or.inr hxy)⟩
              clear hxy he1 he2
              obtain ⟨x, hx⟩ : ∃ x, x = base.getD (f + c2) 0 := ⟨_, rfl⟩
              rw [← hx] at cb hxo
              obtain ⟨y, hy⟩ : ∃ y, y = target.getD (a + c2) 0 := ⟨_, rfl⟩
              rw [← hy] at ct hxo
              clear hx hy
              go_wp2
              go_quiet (fail)
              go_wp2
              have hN4 : MB ((((wr.drewN nq).setCell ⟨w.heap.size + 1, 0, none⟩ (.int .i64 f)).setCell ⟨w.heap.size + 1, 1, none⟩ (.int .i64 a)).setCell ⟨w.heap.size + 1, 2, none⟩ (.int .i64 c2)) (w.heap.size + 1) f a c2 := ((MB.s0 (w := wr.drewN nq) KN3.out f).s1 a).s2 c2
              refine bodyPost_ret (gr_ret hN4 _ _ _ _ _ _ _ _ _) rfl ⟨f, a, c2, rfl, g1, g2, h3, h4, K5.out, g6, K73.out, KX.out, ?_⟩
              exact (((below_drewN KB3.out nq).setCell (p := ⟨w.heap.size + 1, 0, none⟩) (Nat.le_succ _) _).setCell (p := ⟨w.heap.size + 1, 1, none⟩) (Nat.le_succ _) _).setCell (p := ⟨w.heap.size + 1, 2, none⟩) (Nat.le_succ _) _
    · by_cases had : a ≤ done
      · have hfo : decide (0 < f) = true := by simp; omega
        have hao : decide (done < a) = false := by simp; omega
        have hao2 : decide ((done : Int) < (a : Int)) = false := by simp; omega
        clear hf0 had
        go_wp2
        go_quiet (fail)
        go_wp2
        have KMq : Kept (MB (wr.drewN nq) w.heap.size f a c) := ⟨KM.out⟩
        have KNq : Kept (MB (wr.drewN nq) (w.heap.size + 1) 0 0 0) := ⟨KN.out⟩
        have KBq := Kept.mk (below_drewN KB.out nq)
        clear c0 c1 c2 f0 f1 f2
        generalize wr.drewN nq = wx at *
        go_loopw [81] (fun _ wr2 => ∃ c2 : Nat, MB wr2 w.heap.size f a c2 ∧ MB wr2 (w.heap.size + 1) 0 0 0 ∧ Below w.heap.size w wr2 ∧ f + c2 ≤ base.length ∧ a + c2 ≤ target.length ∧ at_ + cnt ≤ a + c2 ∧ (base.drop f).take c2 = (target.drop a).take c2) (fun _ wr2 => base.length - m2Of wr2 w.heap.size)
        case atStart => exact ⟨c, KMq.out, KNq.out, KBq.out, h1, h2, h6, K7.out⟩
        case round =>
          clear KMq KNq KBq K7
          obtain ⟨c2, hM, hN, hbel, g1, g2, g6, g7⟩ := hrel
          have c0 := hM.c0
          have c1 := hM.c1
          have cc2 := hM.c2
          have f2 := hM.fz 2
          have n0 := hN.fz 0
          have n1 := hN.fz 1
          have n2 := hN.fz 2
          have d0 := hN.c0
          have d1 := hN.c1
          have d2 := hN.c2
          have KM3 := Kept.mk hM
          have KN3 := Kept.mk hN
          have KB3 := Kept.mk hbel
          have K73 := Kept.mk g7
          clear hM hN hbel g7
          by_cases he1 : f + c2 = base.length
          · have hfo : decide ((f : Int) + (c2 : Int) < (base.length : Int)) = false := by simp; omega
            have KX : Kept (f + c2 = base.length ∨ a + c2 = target.length ∨ base.getD (f + c2) 0 ≠ target.getD (a + c2) 0) := ⟨Or.inl he1⟩
            clear he1
            go_wp2
            go_quiet (fail)
            go_wp2
            have hN4 : MB ((((wr.drewN nq).setCell ⟨w.heap.size + 1, 0, none⟩ (.int .i64 f)).setCell ⟨w.heap.size + 1, 1, none⟩ (.int .i64 a)).setCell ⟨w.heap.size + 1, 2, none⟩ (.int .i64 c2)) (w.heap.size + 1) f a c2 := ((MB.s0 (w := wr.drewN nq) KN3.out f).s1 a).s2 c2
            refine bodyPost_ret (gr_ret hN4 _ _ _ _ _ _ _ _ _) rfl ⟨f, a, c2, rfl, g1, g2, h3, h4, K5.out, g6, K73.out, KX.out, ?_⟩
            exact (((below_drewN KB3.out nq).setCell (p := ⟨w.heap.size + 1, 0, none⟩) (Nat.le_succ _) _).setCell (p := ⟨w.heap.size + 1, 1, none⟩) (Nat.le_succ _) _).setCell (p := ⟨w.heap.size + 1, 2, none⟩) (Nat.le_succ _) _
          · have hfo : decide ((f : Int) + (c2 : Int) < (base.length : Int)) = true := by simp; omega
            by_cases he2 : a + c2 = target.length
            · have hao : decide ((a : Int) + (c2 : Int) < (target.length : Int)) = false := by simp; omega
              have KX : Kept (f + c2 = base.length ∨ a + c2 = target.length ∨ base.getD (f + c2) 0 ≠ target.getD (a + c2) 0) := ⟨Or.inr (Or.inl he2)⟩
              clear he1 he2
              go_wp2
              go_quiet (fail)
              go_wp2
              have hN4 : MB ((((wr.drewN nq).setCell ⟨w.heap.size + 1, 0, none⟩ (.int .i64 f)).setCell ⟨w.heap.size + 1, 1, none⟩ (.int .i64 a)).setCell ⟨w.heap.size + 1, 2, none⟩ (.int .i64 c2)) (w.heap.size + 1) f a c2 := ((MB.s0 (w := wr.drewN nq) KN3.out f).s1 a).s2 c2
              refine bodyPost_ret (gr_ret hN4 _ _ _ _ _ _ _ _ _) rfl ⟨f, a, c2, rfl, g1, g2, h3, h4, K5.out, g6, K73.out, KX.out, ?_⟩
              exact (((below_drewN KB3.out nq).setCell (p := ⟨w.heap.size + 1, 0, none⟩) (Nat.le_succ _) _).setCell (p := ⟨w.heap.size + 1, 1, none⟩) (Nat.le_succ _) _).setCell (p := ⟨w.heap.size + 1, 2, none⟩) (Nat.le_succ _) _
            · have hao : decide ((a : Int) + (c2 : Int) < (target.length : Int)) = true := by simp; omega
              obtain ⟨ib, io, ic2, hq1, hib, -, -, -, hcb⟩ := KG.out.open (by omega)
              simp only [Value.slice.injEq, true_and] at hq1
              obtain ⟨rfl, rfl⟩ := hq1
              obtain ⟨jb, jo, jc2, hq2, hjb, -, -, -, hct⟩ := KH.out.open (by omega)
              simp only [Value.slice.injEq, true_and] at hq2
              obtain ⟨rfl, rfl⟩ := hq2
              have hcb := Kept.mk hcb
              have hct := Kept.mk hct
              have cb : wr.cell? ⟨ib, io + (f + c2), none⟩ = some (.int .u8 (base.getD (f + c2) 0)) := by rw [KB3.out.cell (p := ⟨ib, io + (f + c2), none⟩) hib]; exact hcb.out (f + c2) (by omega)
              have ct : wr.cell? ⟨jb, jo + (a + c2), none⟩ = some (.int .u8 (target.getD (a + c2) 0)) := by rw [KB3.out.cell (p := ⟨jb, jo + (a + c2), none⟩) hjb]; exact hct.out (a + c2) (by omega)
              have hfl : (f : Int) + (c2 : Int) < (base.length : Int) := by omega
              have hal : (a : Int) + (c2 : Int) < (target.length : Int) := by omega
              by_cases hxy : base.getD (f + c2) 0 = target.getD (a + c2) 0
              · have hxo : (base.getD (f + c2) 0 == target.getD (a + c2) 0) = true := by simpa using hxy
                have K8 := Kept.mk (seg_back K73.out (by omega) (by omega) hxy)
                clear hxy
                generalize base.getD (f + c2) 0 = x at *
                generalize target.getD (a + c2) 0 = y at *
                clear he1 he2
                have hm2 := m2_on KM3.out
                go_wp2
                go_quiet (fail)
                go_wp2
                have hM4 : MB ((wr.drewN nq).setCell ⟨w.heap.size, 2, none⟩ (.int .i64 ((c2 : Int) + 1))) w.heap.size f a ((c2 + 1 : Nat) : Int) := MB.s2 (w := wr.drewN nq) KM3.out _
                refine ⟨⟨c2 + 1, hM4, ?_, (below_drewN KB3.out nq).setCell (p := ⟨w.heap.size, 2, none⟩) (Nat.le_refl _) _, by omega, by omega, by omega, K8.out⟩, ?_⟩
                · have := KN3.out
                  unfold MB at this ⊢
                  rw [Below.heap_setCell _ _ _ _ (by show w.heap.size + 1 ≠ w.heap.size; omega)]
                  exact this
                · rw [m2_on hM4, hm2]
                  omega
              · have hxo : (base.getD (f + c2) 0 == target.getD (a + c2) 0) = false := by simpa using hxy
                have KX : Kept (f + c2 = base.length ∨ a + c2 = target.length ∨ base.getD (f + c2) 0 ≠ target.getD (a + c2) 0) := ⟨Or.inr (Or.inr hxy)⟩
                clear hxy he1 he2
                obtain ⟨x, hx⟩ : ∃ x, x = base.getD (f + c2) 0 := ⟨_, rfl⟩
                rw [← hx] at cb hxo
                obtain ⟨y, hy⟩ : ∃ y, y = target.getD (a + c2) 0 := ⟨_, rfl⟩
                rw [← hy] at ct hxo
                clear hx hy
                go_wp2
                go_quiet (fail)
                go_wp2
                have hN4 : MB ((((wr.drewN nq).setCell ⟨w.heap.size + 1, 0, none⟩ (.int .i64 f)).setCell ⟨w.heap.size + 1, 1, none⟩ (.int .i64 a)).setCell ⟨w.heap.size + 1, 2, none⟩ (.int .i64 c2)) (w.heap.size + 1) f a c2 := ((MB.s0 (w := wr.drewN nq) KN3.out f).s1 a).s2 c2
                refine bodyPost_ret (gr_ret hN4 _ _ _ _ _ _ _ _ _) rfl ⟨f, a, c2, rfl, g1, g2, h3, h4, K5.out, g6, K73.out, KX.out, ?_⟩
                exact (((below_drewN KB3.out nq).setCell (p := ⟨w.heap.size + 1, 0, none⟩) (Nat.le_succ _) _).setCell (p := ⟨w.heap.size + 1, 1, none⟩) (Nat.le_succ _) _).setCell (p := ⟨w.heap.size + 1, 2, none⟩) (Nat.le_succ _) _
      · obtain ⟨f, rfl⟩ : ∃ f', f = f' + 1 := ⟨f - 1, by omega⟩
        obtain ⟨a, rfl⟩ : ∃ a', a = a' + 1 := ⟨a - 1, by omega⟩
        have hao : decide ((done : Int) < (a : Int) + 1) = true := by simp; omega
        obtain ⟨ib, io, ic2, hq1, hib, -, -, -, hcb⟩ := KG.out.open (by omega)
        simp only [Value.slice.injEq, true_and] at hq1
        obtain ⟨rfl, rfl⟩ := hq1
        obtain ⟨jb, jo, jc2, hq2, hjb, -, -, -, hct⟩ := KH.out.open (by omega)
        simp only [Value.slice.injEq, true_and] at hq2
        obtain ⟨rfl, rfl⟩ := hq2
        have hcb := Kept.mk hcb
        have hct := Kept.mk hct
        have cb : wr.cell? ⟨ib, io + f, none⟩ = some (.int .u8 (base.getD f 0)) := by rw [KB.out.cell (p := ⟨ib, io + f, none⟩) hib]; exact hcb.out f (by omega)
        have ct : wr.cell? ⟨jb, jo + a, none⟩ = some (.int .u8 (target.getD a 0)) := by rw [KB.out.cell (p := ⟨jb, jo + a, none⟩) hjb]; exact hct.out a (by omega)
        have hfl : (f : Int) < (base.length : Int) := by omega
        have hal : (a : Int) < (target.length : Int) := by omega
        by_cases hxy : base.getD f 0 = target.getD a 0
        · have hxo : (base.getD f 0 == target.getD a 0) = true := by simpa using hxy
          have K8 := Kept.mk (seg_front K7.out (by omega) (by omega) hxy)
          have hm0 := m0_on KM.out
          clear hxy
          generalize base.getD f 0 = x at *
          generalize target.getD a 0 = y at *
          go_wp2
          go_quiet (fail)
          go_wp2
          have hM4 : MB ((((wr.drewN nq).setCell ⟨w.heap.size, 0, none⟩ (.int .i64 f)).setCell ⟨w.heap.size, 1, none⟩ (.int .i64 a)).setCell ⟨w.heap.size, 2, none⟩ (.int .i64 ((c : Int) + 1))) w.heap.size f a ((c + 1 : Nat) : Int) := ((MB.s0 (w := wr.drewN nq) KM.out f).s1 a).s2 _
          refine ⟨⟨f, a, c + 1, hM4, ?_, (((below_drewN KB.out nq).setCell (p := ⟨w.heap.size, 0, none⟩) (Nat.le_refl _) _).setCell (p := ⟨w.heap.size, 1, none⟩) (Nat.le_refl _) _).setCell (p := ⟨w.heap.size, 2, none⟩) (Nat.le_refl _) _, by omega, by omega, by omega, by omega, by have := K5.out; omega, by omega, K8.out⟩, ?_⟩
          · have := KN.out
            unfold MB at this ⊢
            rw [Below.heap_setCell _ _ _ _ (by show w.heap.size + 1 ≠ w.heap.size; omega), Below.heap_setCell _ _ _ _ (by show w.heap.size + 1 ≠ w.heap.size; omega), Below.heap_setCell _ _ _ _ (by show w.heap.size + 1 ≠ w.heap.size; omega)]
            exact this
          · rw [m0_on hM4, hm0]
            omega
        · have hxo : (base.getD f 0 == target.getD a 0) = false := by simpa using hxy
          clear hxy
          generalize base.getD f 0 = x at *
          generalize target.getD a 0 = y at *
          obtain ⟨F, hF⟩ : ∃ F, F = f + 1 := ⟨_, rfl⟩
          obtain ⟨A, hA⟩ : ∃ A, A = a + 1 := ⟨_, rfl⟩
          go_wp2
          go_quiet (fail)
          go_wp2
          clear cb ct hxo hfl hal hao hf0 had
          rw [← hF] at h1 K5 K7 KM
          rw [← hA] at h2 h3 h4 h6 K5 K7 KM
          clear hF hA
          have KMq : Kept (MB (wr.drewN nq) w.heap.size F A c) := ⟨KM.out⟩
          have KNq : Kept (MB (wr.drewN nq) (w.heap.size + 1) 0 0 0) := ⟨KN.out⟩
          have KBq := Kept.mk (below_drewN KB.out nq)
          clear c0 c1 c2 f0 f1 f2
          generalize wr.drewN nq = wx at *
          go_loopw [81] (fun _ wr2 => ∃ c2 : Nat, MB wr2 w.heap.size F A c2 ∧ MB wr2 (w.heap.size + 1) 0 0 0 ∧ Below w.heap.size w wr2 ∧ F + c2 ≤ base.length ∧ A + c2 ≤ target.length ∧ at_ + cnt ≤ A + c2 ∧ (base.drop F).take c2 = (target.drop A).take c2) (fun _ wr2 => base.length - m2Of wr2 w.heap.size)
          case atStart => exact ⟨c, KMq.out, KNq.out, KBq.out, h1, h2, h6, K7.out⟩
          case round =>
            clear KMq KNq KBq K7
            obtain ⟨c2, hM, hN, hbel, g1, g2, g6, g7⟩ := hrel
            have c0 := hM.c0
            have c1 := hM.c1
            have cc2 := hM.c2
            have f2 := hM.fz 2
            have n0 := hN.fz 0
            have n1 := hN.fz 1
            have n2 := hN.fz 2
            have d0 := hN.c0
            have d1 := hN.c1
            have d2 := hN.c2
            have KM3 := Kept.mk hM
            have KN3 := Kept.mk hN
            have KB3 := Kept.mk hbel
            have K73 := Kept.mk g7
            clear hM hN hbel g7
            by_cases he1 : F + c2 = base.length
            · have hfo : decide ((F : Int) + (c2 : Int) < (base.length : Int)) = false := by simp; omega
              have KX : Kept (F + c2 = base.length ∨ A + c2 = target.length ∨ base.getD (F + c2) 0 ≠ target.getD (A + c2) 0) := ⟨Or.inl he1⟩
              clear he1
              go_wp2
              go_quiet (fail)
              go_wp2
              have hN4 : MB ((((wr.drewN nq).setCell ⟨w.heap.size + 1, 0, none⟩ (.int .i64 F)).setCell ⟨w.heap.size + 1, 1, none⟩ (.int .i64 A)).setCell ⟨w.heap.size + 1, 2, none⟩ (.int .i64 c2)) (w.heap.size + 1) F A c2 := ((MB.s0 (w := wr.drewN nq) KN3.out F).s1 A).s2 c2
              refine bodyPost_ret (gr_ret hN4 _ _ _ _ _ _ _ _ _) rfl ⟨F, A, c2, rfl, g1, g2, h3, h4, K5.out, g6, K73.out, KX.out, ?_⟩
              exact (((below_drewN KB3.out nq).setCell (p := ⟨w.heap.size + 1, 0, none⟩) (Nat.le_succ _) _).setCell (p := ⟨w.heap.size + 1, 1, none⟩) (Nat.le_succ _) _).setCell (p := ⟨w.heap.size + 1, 2, none⟩) (Nat.le_succ _) _
            · have hfo : decide ((F : Int) + (c2 : Int) < (base.length : Int)) = true := by simp; omega
              by_cases he2 : A + c2 = target.length
              · have hao : decide ((A : Int) + (c2 : Int) < (target.length : Int)) = false := by simp; omega
                have KX : Kept (F + c2 = base.length ∨ A + c2 = target.length ∨ base.getD (F + c2) 0 ≠ target.getD (A + c2) 0) := ⟨Or.inr (Or.inl he2)⟩
                clear he1 he2
                go_wp2
                go_quiet (fail)
                go_wp2
                have hN4 : MB ((((wr.drewN nq).setCell ⟨w.heap.size + 1, 0, none⟩ (.int .i64 F)).setCell ⟨w.heap.size + 1, 1, none⟩ (.int .i64 A)).setCell ⟨w.heap.size + 1, 2, none⟩ (.int .i64 c2)) (w.heap.size + 1) F A c2 := ((MB.s0 (w := wr.drewN nq) KN3.out F).s1 A).s2 c2
                refine bodyPost_ret (gr_ret hN4 _ _ _ _ _ _ _ _ _) rfl ⟨F, A, c2, rfl, g1, g2, h3, h4, K5.out, g6, K73.out, KX.out, ?_⟩
                exact (((below_drewN KB3.out nq).setCell (p := ⟨w.heap.size + 1, 0, none⟩) (Nat.le_succ _) _).setCell (p := ⟨w.heap.size + 1, 1, none⟩) (Nat.le_succ _) _).setCell (p := ⟨w.heap.size + 1, 2, none⟩) (Nat.le_succ _) _
              · have hao : decide ((A : Int) + (c2 : Int) < (target.length : Int)) = true := by simp; omega
                have cb : wr.cell? ⟨ib, io + (F + c2), none⟩ = some (.int .u8 (base.getD (F + c2) 0)) := by rw [KB3.out.cell (p := ⟨ib, io + (F + c2), none⟩) hib]; exact hcb.out (F + c2) (by omega)
                have ct : wr.cell? ⟨jb, jo + (A + c2), none⟩ = some (.int .u8 (target.getD (A + c2) 0)) := by rw [KB3.out.cell (p := ⟨jb, jo + (A + c2), none⟩) hjb]; exact hct.out (A + c2) (by omega)
                have hfl : (F : Int) + (c2 : Int) < (base.length : Int) := by omega
                have hal : (A : Int) + (c2 : Int) < (target.length : Int) := by omega
                by_cases hxy : base.getD (F + c2) 0 = target.getD (A + c2) 0
                · have hxo : (base.getD (F + c2) 0 == target.getD (A + c2) 0) = true := by simpa using hxy
                  have K8 := Kept.mk (seg_back K73.out (by omega) (by omega) hxy)
                  clear hxy
                  generalize base.getD (F + c2) 0 = x at *
                  generalize target.getD (A + c2) 0 = y at *
                  clear he1 he2
                  have hm2 := m2_on KM3.out
                  go_wp2
                  go_quiet (fail)
                  go_wp2
                  have hM4 : MB ((wr.drewN nq).setCell ⟨w.heap.size, 2, none⟩ (.int .i64 ((c2 : Int) + 1))) w.heap.size F A ((c2 + 1 : Nat) : Int) := MB.s2 (w := wr.drewN nq) KM3.out _
                  refine ⟨⟨c2 + 1, hM4, ?_, (below_drewN KB3.out nq).setCell (p := ⟨w.heap.size, 2, none⟩) (Nat.le_refl _) _, by omega, by omega, by omega, K8.out⟩, ?_⟩
                  · have := KN3.out
                    unfold MB at this ⊢
                    rw [Below.heap_setCell _ _ _ _ (by show w.heap.size + 1 ≠ w.heap.size; omega)]
                    exact this
                  · rw [m2_on hM4, hm2]
                    omega
                · have hxo : (base.getD (F + c2) 0 == target.getD (A + c2) 0) = false := by simpa using hxy
                  have KX : Kept (F + c2 = base.length ∨ A + c2 = target.length ∨ base.getD (F + c2) 0 ≠ target.getD (A + c2) 0) := ⟨Or.inr (Or.inr hxy)⟩
                  clear hxy he1 he2
                  obtain ⟨x, hx⟩ : ∃ x, x = base.getD (F + c2) 0 := ⟨_, rfl⟩
                  rw [← hx] at cb hxo
                  obtain ⟨y, hy⟩ : ∃ y, y = target.getD (A + c2) 0 := ⟨_, rfl⟩
                  rw [← hy] at ct hxo
                  clear hx hy
                  go_wp2
                  go_quiet (fail)
                  go_wp2
                  have hN4 : MB ((((wr.drewN nq).setCell ⟨w.heap.size + 1, 0, none⟩ (.int .i64 F)).setCell ⟨w.heap.size + 1, 1, none⟩ (.int .i64 A)).setCell ⟨w.heap.size + 1, 2, none⟩ (.int .i64 c2)) (w.heap.size + 1) F A c2 := ((MB.s0 (w := wr.drewN nq) KN3.out F).s1 A).s2 c2
                  refine bodyPost_ret (gr_ret hN4 _ _ _ _ _ _ _ _ _) rfl ⟨F, A, c2, rfl, g1, g2, h3, h4, K5.out, g6, K73.out, KX.out, ?_⟩
                  exact (((below_drewN KB3.out nq).setCell (p := ⟨w.heap.size + 1, 0, none⟩) (Nat.le_succ _) _).setCell (p := ⟨w.heap.size + 1, 1, none⟩) (Nat.le_succ _) _).setCell (p := ⟨w.heap.size + 1, 2, none⟩) (Nat.le_succ _) _
end Go.Proofs.Ytkidoknklgoffaa
