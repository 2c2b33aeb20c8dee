/-
  Walks: inForm at hunks that are in form.
-/
import Derived.Test.YtjhcpmhjdhmjpaaVC
namespace Go.Proofs.Ytjhcpmhjdhmjpaa
open Go.RowKit

/-- Hunks that can be read. -/
def RdHk (w : World) (v : Value) (hs : List (Pt × Pt)) : Prop :=
  ∃ a c, v = .slice a hs.length c ∧ (0 < hs.length → ∃ b o, a = some ⟨b, o, none⟩ ∧ w.rangeAt b o (hkV hs))
theorem OwnHk.rdk {w : World} {base : Nat} {v : Value} {hs : List (Pt × Pt)} (h : OwnHk w base v hs) : ∀ W, (∀ g, v.ownBlock = some g → W.heap[g]? = w.heap[g]?) → RdHk W v hs := by
  intro W hW
  rcases h.2 with ⟨rfl, hn⟩ | ⟨g, cap, cur, rfl, hg, hh, hnc, hcm, hcs, htake⟩
  · exact ⟨none, 0, by rw [hn], fun h0 => by omega⟩
  · refine ⟨_, _, rfl, fun _ => ⟨g, 0, rfl, ?_⟩⟩
    have hh' := hW g rfl
    rw [hh] at hh'
    intro j u hu
    rw [Nat.zero_add, cell_of_row _ _ j _ _ (0, 0) hh']
    have h1 : (cur.toList.take (hs.length * 2))[j]? = some u := by rw [htake]; exact hu
    rw [List.getElem?_take] at h1
    split at h1
    · simpa using h1
    · cases h1
/-- In form, from a point on. -/
def inF (n m : Nat) : Pt → Bool → List (Pt × Pt) → Prop
  | bh, _, [] => bh.1 ≤ n ∧ bh.2 ≤ m ∧ n - bh.1 = m - bh.2
  | bh, f, h :: r => bh.1 ≤ h.1.1 ∧ bh.2 ≤ h.1.2 ∧ h.1.1 - bh.1 = h.1.2 - bh.2 ∧ (f = false → 1 ≤ h.1.1 - bh.1) ∧ h.1.1 ≤ h.2.1 ∧ h.1.2 ≤ h.2.2 ∧ h.1 ≠ h.2 ∧ h.2.1 ≤ n ∧ h.2.2 ≤ m ∧ inF n m h.2 false r
theorem hkV_get {hs : List (Pt × Pt)} {k : Nat} {h : Pt × Pt} (hk : hs[k]? = some h) : (hkV hs)[k * 2]? = some (pt h.1.1 h.1.2) ∧ (hkV hs)[k * 2 + 1]? = some (pt h.2.1 h.2.2) := by
  induction hs generalizing k with
  | nil => cases hk
  | cons x r ih =>
    cases k with
    | zero =>
      have : x = h := by simpa using hk
      subst this
      exact ⟨rfl, rfl⟩
    | succ k =>
      have hk' : r[k]? = some h := by simpa using hk
      have e1 : (k + 1) * 2 = k * 2 + 2 := by omega
      rw [e1]
      show ((hkC x) ++ hkV r)[k * 2 + 2]? = _ ∧ ((hkC x) ++ hkV r)[k * 2 + 2 + 1]? = _
      have := ih hk'
      rw [List.getElem?_append_right (by simp [hkC]), List.getElem?_append_right (by simp [hkC])]
      have e2 : k * 2 + 2 - (hkC x).length = k * 2 := by simp [hkC]
      have e3 : k * 2 + 2 + 1 - (hkC x).length = k * 2 + 1 := by simp [hkC]
      rw [e2, e3]
      exact this
theorem c_subG {x y u v : Nat} (hx : x ≤ 60) (hy : y ≤ 60) (hu : u ≤ x) (hv : v ≤ y) (w : World) :
    (binOp .sub 45 (.complex .f64 (fl x) (fl y)) (.complex .f64 (fl u) (fl v))).run Try.prog w = .ok (.complex .f64 (fl (x - u)) (fl (y - v))) w := by
  refine run_complex_sum w .sub (.inr rfl) _ _ _ _ _ _ _ _ ?_
  unfold cSumBits
  rw [fl_sub hx hu, fl_sub hy hv]
  rfl
theorem ord_lt {x y : Nat} (hx : x < 1100) (hy : y < 1100) (h : y ≤ x) : (FloatKind.f64.format.order (fl x) (fl y) == some .lt) = false := by
  rcases cmp_ge hx hy h with h | h <;> rw [h] <;> rfl
set_option maxHeartbeats 1000000 in
set_option maxRecDepth 100000 in
theorem inForm_any (v : Value) (n m : Nat) (hs : List (Pt × Pt)) (w : World) (hn : n ≤ 60) (hm : m ≤ 60) (hr : ∀ W, Below w.heap.size w W → RdHk W v hs) (hl : hs.length ≤ 100000) (hf : inF n m (0, 0) true hs) :
    Calls Try.prog 41 #[v, pt n m] w fun e w' => e = .returned (.bool true) ∧ Below w.heap.size w w' := by
  obtain ⟨pa, pc, rfl, -⟩ := hr w (Below.refl _ _)
  have KR := Kept.mk hr
  have K0 := Kept.mk hf
  clear hr hf
  unfold pt
  go_enter Try.func41, Try.ntmps41
  go_upto_region 3 with fail
  go_loopw [5, 13] (fun bv iv wr => ∃ (k : Nat) (bh : Pt), k ≤ hs.length ∧ iv = .int .i64 k ∧ bv = .complex .f64 (fl bh.1) (fl bh.2) ∧ inF n m bh (decide (k = 0)) (hs.drop k) ∧ Below w.heap.size w wr) (fun _ iv _ => hs.length - (intOf iv).toNat)
  case atStart => exact ⟨0, (0, 0), Nat.zero_le _, rfl, by rw [fl_zero], K0.out, Below.refl _ _⟩
  case round =>
    obtain ⟨k, bh, hk, rfl, rfl, hF, hbr⟩ := hrel
    have KBr := Kept.mk hbr
    clear K0
    by_cases hlt : k < hs.length
    · have hki : (k : Int) < (hs.length : Int) := by omega
      have n0 : (0 : Int) ≤ (k : Int) := by omega
      have e1 : IntKind.i64.wrap ((k : Int) + 1) = (k : Int) + 1 := wr64 (by omega) (by omega)
      obtain ⟨h, hh⟩ : ∃ h, hs[k]? = some h := ⟨_, List.getElem?_eq_getElem hlt⟩
      obtain ⟨p', c', he, hr⟩ := KR.out wr hbr
      obtain ⟨b, o, hp1, hrow⟩ := hr (by omega)
      have hpa : pa = some ⟨b, o, none⟩ := by injection he with h1 h2 h3; rw [h1, hp1]
      subst hpa
      have hdr : hs.drop k = h :: hs.drop (k + 1) := by
        obtain ⟨hl', hg⟩ := List.getElem?_eq_some_iff.1 hh
        rw [← hg]
        exact List.drop_eq_getElem_cons hl'
      rw [hdr] at hF
      obtain ⟨f1, f2, f3, f4, f5, f6, f7, f8, f9, f10⟩ := hF
      obtain ⟨⟨fx, fy⟩, ⟨tx, ty⟩⟩ := h
      obtain ⟨bx, by'⟩ := bh
      simp only at f1 f2 f3 f4 f5 f6 f8 f9 f10
      obtain ⟨g1, g2⟩ := hkV_get hh
      have r1 := hrow _ _ g1
      have r2 := hrow _ _ g2
      unfold pt at r1 r2
      have hR : wr.rangeAt b (o + k * 2) [.complex .f64 (fl fx) (fl fy), .complex .f64 (fl tx) (fl ty)] := by
        intro j u hu
        match j, hu with
        | 0, hu => simp at hu; subst hu; exact r1
        | 1, hu => simp at hu; subst hu; rw [Nat.add_assoc]; exact r2
      have KRow := Kept.mk hR
      have Kf : Kept (inF n m (tx, ty) (decide (k + 1 = 0)) (hs.drop (k + 1))) := ⟨by rw [decide_eq_false (by omega)]; exact f10⟩
      have KI : Kept ((Try.prog.info? 47).map (·.size) = some 2) := ⟨by kernel_rfl⟩
      obtain ⟨p1, hp1'⟩ : ∃ p, tx - fx = p := ⟨_, rfl⟩
      obtain ⟨p2, hp2'⟩ : ∃ p, ty - fy = p := ⟨_, rfl⟩
      obtain ⟨sx, hsx⟩ : ∃ p, fx - bx = p := ⟨_, rfl⟩
      have hB0 := Bk.new wr 47 [.complex .f64 0 0, .complex .f64 0 0]
      have hB1 := hB0.set 0 (.complex .f64 (fl fx) (fl fy))
      have hB2 := hB1.set 1 (.complex .f64 (fl tx) (fl ty))
      have hst1 := run_store_c _ _ (fl fx) (fl fy) _ (hB0.cell 0 _ rfl) (hB0.frozen 0)
      have hst2 := run_store_c _ _ (fl tx) (fl ty) _ (hB1.cell 1 _ rfl) (hB1.frozen 1)
      have hb1 : Below w.heap.size w ((((wr.alloc (.cells #[.complex .f64 0 0, .complex .f64 0 0] 47)).setCell ⟨wr.heap.size, 0, none⟩ (.complex .f64 (fl fx) (fl fy))).setCell ⟨wr.heap.size, 1, none⟩ (.complex .f64 (fl tx) (fl ty)))) := ((hbr.alloc hbr.size _).setCell hbr.size _).setCell hbr.size _
      have c0 := hB2.cell 0 (.complex .f64 (fl fx) (fl fy)) rfl
      have c1 := hB2.cell 1 (.complex .f64 (fl tx) (fl ty)) rfl
      have ef : ([Value.complex .f64 0 0, .complex .f64 0 0] : List Value).toArray = #[.complex .f64 0 0, .complex .f64 0 0] := rfl
      rw [ef] at hst1 hst2 c0 c1
      obtain ⟨w1, hw1⟩ : ∃ x, ((((wr.alloc (.cells #[.complex .f64 0 0, .complex .f64 0 0] 47)).setCell ⟨wr.heap.size, 0, none⟩ (.complex .f64 (fl fx) (fl fy))).setCell ⟨wr.heap.size, 1, none⟩ (.complex .f64 (fl tx) (fl ty)))) = x := ⟨_, rfl⟩
      rw [hw1] at hst2 c0 c1 hb1
      obtain ⟨w0, hw0⟩ : ∃ x, ((wr.alloc (.cells #[.complex .f64 0 0, .complex .f64 0 0] 47)).setCell ⟨wr.heap.size, 0, none⟩ (.complex .f64 (fl fx) (fl fy))) = x := ⟨_, rfl⟩
      rw [hw0] at hst1 hst2
      have KB1 := Kept.mk hb1
      have K1 := Kept.mk (inPlane_any (x := fx) (y := fy) (n := n) (m := m) (by omega) (by omega) (by omega) (by omega) w1)
      have K2 := Kept.mk (inPlane_any (x := tx) (y := ty) (n := n) (m := m) (by omega) (by omega) (by omega) (by omega) w1)
      have s1 := c_subG (x := fx) (y := fy) (u := bx) (v := by') (by omega) (by omega) f1 f2
      have s2 := c_subG (x := tx) (y := ty) (u := fx) (v := fy) (by omega) (by omega) f5 f6
      rw [← f3, hsx] at s1
      rw [hp1', hp2'] at s2
      have q1 := cmp_eq (x := sx) (by omega)
      have q2 := ord_lt (x := p1) (y := 0) (by omega) (by omega) (Nat.zero_le _)
      have q3 := ord_lt (x := p2) (y := 0) (by omega) (by omega) (Nat.zero_le _)
      have q4 := fl_order (x := p1) (y := 0) (by omega) (by omega)
      have q5 := fl_order (x := p2) (y := 0) (by omega) (by omega)
      have q6 : (decide (p1 = 0) && decide (p2 = 0)) = false := by
        rw [Bool.and_eq_false_iff, decide_eq_false_iff_not, decide_eq_false_iff_not]
        by_cases h1 : p1 = 0
        · right; intro h2; exact f7 (by rw [Prod.mk.injEq]; omega)
        · exact .inl h1
      have q7 : k = 0 ∨ (FloatKind.f64.format.order (fl sx) 4607182418800017408 == some .lt) = false := by
        by_cases h0 : k = 0
        · exact .inl h0
        · right
          have := ord_lt (x := sx) (y := 1) (by omega) (by omega) (by have := f4 (decide_eq_false h0); omega)
          rw [fl_one] at this
          exact this
      rw [fl_zero] at q2 q3 q4 q5
      unfold pt at K1 K2
      generalize decide (p1 = 0) = b1 at *
      generalize decide (p2 = 0) = b2 at *
      have Kt : Kept (inF n m (tx, ty) (decide (k + 1 = 0)) (hs.drop (k + 1)) ∧ Value.complex .f64 (fl tx) (fl ty) = Value.complex .f64 (fl (tx, ty).1) (fl (tx, ty).2)) := ⟨Kf.out, rfl⟩
      clear Kf hB0 hB1 hB2 hb1 hbr f1 f2 f3 f4 f5 f6 f7 f8 f9 ef hw1 hw0 KR
      have KE : Kept (∃ bv : Pt, inF n m bv (decide (k + 1 = 0)) (hs.drop (k + 1)) ∧ Value.complex .f64 (fl tx) (fl ty) = Value.complex .f64 (fl bv.1) (fl bv.2)) := ⟨⟨_, Kt.out⟩⟩
      clear Kt hp1' hp2' hsx
      simp only
      generalize fl fx = FX at *
      generalize fl fy = FY at *
      generalize fl tx = TX at *
      generalize fl ty = TY at *
      generalize fl bx = BX at *
      generalize fl by' = BY at *
      generalize fl sx = SX at *
      generalize fl p1 = P1 at *
      generalize fl p2 = P2 at *
      go_wp2_with (refine wpList_load_mid rfl 47 _ rfl b (o + k * 2) rfl [.complex .f64 FX FY, .complex .f64 TX TY] _ KRow.out Try.underlying47 rfl KI.out ?_)
      refine Calls.mono K1.out (fun e w2 hp => ?_)
      obtain ⟨rfl, hw⟩ := hp
      subst w2
      clear K1
      go_wp2_with fail
      refine Calls.mono K2.out (fun e w2 hp => ?_)
      obtain ⟨rfl, hw⟩ := hp
      subst w2
      clear K2
      obtain ⟨bv, hbv⟩ := KE.out
      have KF := Kept.mk hbv.1
      have KV := Kept.mk hbv.2
      clear KE hbv
      go_upto_region 7 with fail
      refine wp_region_held_drew (S := fun W => W.cell? ⟨wr.heap.size, 0, none⟩ = some (.complex .f64 FX FY) ∧ W.cell? ⟨wr.heap.size, 1, none⟩ = some (.complex .f64 TX TY)) (by kernel_rfl) ⟨c0, c1⟩ (fun hHeld => ?_)
      refine wpAnyH_takeD (i := 0) (d := some 30) (v := .pointer (some ⟨wr.heap.size, 0, none⟩)) rfl rfl (by kernel_rfl) (by kernel_rfl) (by kernel_rfl) (fun _ _ _ h => h) (Or.inl ⟨by rfl, fun W hSw => by (try dsimp only at hSw); obtain ⟨hS0, hS1⟩ := hSw; clear s1 s2 hHeld; go_simp⟩) (by assumption) ?_
      simp only [Act.put, List.setIfInBounds_toArray, List.set_cons_zero, List.set_cons_succ]
      refine wpAnyH_takeD (i := 1) (d := some 31) (v := .complex .f64 FX FY) rfl rfl (by kernel_rfl) (by kernel_rfl) (by kernel_rfl) (fun _ _ _ h => h) (Or.inl ⟨by rfl, fun W hSw => by (try dsimp only at hSw); obtain ⟨hS0, hS1⟩ := hSw; clear s1 s2 hHeld; go_simp⟩) (by assumption) ?_
      simp only [Act.put, List.setIfInBounds_toArray, List.set_cons_zero, List.set_cons_succ]
      refine wpAnyH_takeD (i := 2) (d := some 32) (v := .complex .f64 BX BY) rfl rfl (by kernel_rfl) (by kernel_rfl) (by kernel_rfl) (fun _ _ _ h => h) (Or.inl ⟨by rfl, fun W hSw => by (try dsimp only at hSw); obtain ⟨hS0, hS1⟩ := hSw; clear s1 s2 hHeld; go_simp⟩) (by assumption) ?_
      simp only [Act.put, List.setIfInBounds_toArray, List.set_cons_zero, List.set_cons_succ]
      refine wpAnyH_takeD (i := 3) (d := some 33) (v := .complex .f64 SX SX) rfl rfl (by kernel_rfl) (by kernel_rfl) (by kernel_rfl) (fun _ _ _ h => h) (Or.inl ⟨by rfl, fun W hSw => by (try dsimp only at hSw); obtain ⟨hS0, hS1⟩ := hSw; have s1W := s1 W; clear s1 s2 hHeld; go_simp⟩) (by assumption) ?_
      simp only [Act.put, List.setIfInBounds_toArray, List.set_cons_zero, List.set_cons_succ]
      refine wpAnyH_takeD (i := 4) (d := some 34) (v := .pointer (some ⟨wr.heap.size, 1, none⟩)) rfl rfl (by kernel_rfl) (by kernel_rfl) (by kernel_rfl) (fun _ _ _ h => h) (Or.inl ⟨by rfl, fun W hSw => by (try dsimp only at hSw); obtain ⟨hS0, hS1⟩ := hSw; clear s1 s2 hHeld; go_simp⟩) (by assumption) ?_
      simp only [Act.put, List.setIfInBounds_toArray, List.set_cons_zero, List.set_cons_succ]
      refine wpAnyH_takeD (i := 5) (d := some 35) (v := .complex .f64 TX TY) rfl rfl (by kernel_rfl) (by kernel_rfl) (by kernel_rfl) (fun _ _ _ h => h) (Or.inl ⟨by rfl, fun W hSw => by (try dsimp only at hSw); obtain ⟨hS0, hS1⟩ := hSw; clear s1 s2 hHeld; go_simp⟩) (by assumption) ?_
      simp only [Act.put, List.setIfInBounds_toArray, List.set_cons_zero, List.set_cons_succ]
      refine wpAnyH_takeD (i := 6) (d := some 36) (v := .pointer (some ⟨wr.heap.size, 0, none⟩)) rfl rfl (by kernel_rfl) (by kernel_rfl) (by kernel_rfl) (fun _ _ _ h => h) (Or.inl ⟨by rfl, fun W hSw => by (try dsimp only at hSw); obtain ⟨hS0, hS1⟩ := hSw; clear s1 s2 hHeld; go_simp⟩) (by assumption) ?_
      simp only [Act.put, List.setIfInBounds_toArray, List.set_cons_zero, List.set_cons_succ]
      refine wpAnyH_takeD (i := 7) (d := some 37) (v := .complex .f64 FX FY) rfl rfl (by kernel_rfl) (by kernel_rfl) (by kernel_rfl) (fun _ _ _ h => h) (Or.inl ⟨by rfl, fun W hSw => by (try dsimp only at hSw); obtain ⟨hS0, hS1⟩ := hSw; clear s1 s2 hHeld; go_simp⟩) (by assumption) ?_
      simp only [Act.put, List.setIfInBounds_toArray, List.set_cons_zero, List.set_cons_succ]
      refine wpAnyH_takeD (i := 8) (d := some 38) (v := .complex .f64 P1 P2) rfl rfl (by kernel_rfl) (by kernel_rfl) (by kernel_rfl) (fun _ _ _ h => h) (Or.inl ⟨by rfl, fun W hSw => by (try dsimp only at hSw); obtain ⟨hS0, hS1⟩ := hSw; have s2W := s2 W; clear s1 s2 hHeld; go_simp⟩) (by assumption) ?_
      simp only [Act.put, List.setIfInBounds_toArray, List.set_cons_zero, List.set_cons_succ]
      refine wpAnyH_takeD (i := 9) (d := some 8) (v := .complex .f64 SX SX) rfl rfl (by kernel_rfl) (by kernel_rfl) (by kernel_rfl) (fun _ _ _ h => h) (Or.inl ⟨by rfl, fun W hSw => by (try dsimp only at hSw); obtain ⟨hS0, hS1⟩ := hSw; clear s1 s2 hHeld; go_simp⟩) (by assumption) ?_
      simp only [Act.put, List.setIfInBounds_toArray, List.set_cons_zero, List.set_cons_succ]
      refine wpAnyH_takeD (i := 10) (d := some 9) (v := .complex .f64 P1 P2) rfl rfl (by kernel_rfl) (by kernel_rfl) (by kernel_rfl) (fun _ _ _ h => h) (Or.inl ⟨by rfl, fun W hSw => by (try dsimp only at hSw); obtain ⟨hS0, hS1⟩ := hSw; clear s1 s2 hHeld; go_simp⟩) (by assumption) ?_
      simp only [Act.put, List.setIfInBounds_toArray, List.set_cons_zero, List.set_cons_succ]
      refine wpAnyH_done (by kernel_rfl) ?_ _
      clear s1 s2 hHeld
      have KB2 : Kept (Below w.heap.size w w1.drew) := ⟨⟨KB1.out.os, KB1.out.tape, KB1.out.output, KB1.out.size, KB1.out.block⟩⟩
      have c0d : w1.drew.cell? ⟨wr.heap.size, 0, none⟩ = some (.complex .f64 FX FY) := c0
      have c1d : w1.drew.cell? ⟨wr.heap.size, 1, none⟩ = some (.complex .f64 TX TY) := c1
      clear c0 c1 hst1 hst2
      generalize w1.drew = w2 at *
      rcases Nat.eq_zero_or_pos k with hk0 | hk0
      · have hkk : ¬ ((k : Int) > 0) := by omega
        clear q7
        go_wp2
        go_roundw
        case rel => exact ⟨k + 1, bv, hlt, by go_num, KV.out, KF.out, KB2.out⟩
        case measure => simp [intOf]; omega
      · have hkk : (k : Int) > 0 := by omega
        have q7 := q7.resolve_left (by omega)
        go_wp2
        go_roundw
        case rel => exact ⟨k + 1, bv, hlt, by go_num, KV.out, KF.out, KB2.out⟩
        case measure => simp [intOf]; omega
    · have hki : ¬ (k : Int) < (hs.length : Int) := by omega
      have hd : hs.drop k = [] := List.drop_eq_nil_of_le (by omega)
      rw [hd] at hF
      obtain ⟨f1, f2, f3⟩ := hF
      have s1 := c_subG (x := n) (y := m) (u := bh.1) (v := bh.2) hn hm f1 f2 wr
      rw [← f3] at s1
      have q1 := cmp_eq (x := n - bh.1) (by omega)
      clear hbr hd KR
      generalize fl (n - bh.1) = SX at *
      generalize fl bh.1 = BX at *
      generalize fl bh.2 = BY at *
      generalize fl n = NX at *
      generalize fl m = NY at *
      go_wp2
      go_ret
      exact ⟨rfl, KBr.out⟩
end Go.Proofs.Ytjhcpmhjdhmjpaa
