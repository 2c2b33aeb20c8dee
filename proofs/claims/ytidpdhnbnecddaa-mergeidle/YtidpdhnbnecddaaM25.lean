/-
  Walks: the law MergeSides.
-/
import Derived.Test.YtidpdhnbnecddaaM23
import Derived.Test.YtidpdhnbnecddaaM24
namespace Go.Proofs.Ytidpdhnbnecddaa
open Go.RowKit

theorem thM_nn (l0 l1 : ByteArray) (x y z : List Int) : 0 ≤ (thM l0 l1 x y z).2.1 := by
  by_cases h : thE l0 l1 x y z = 0
  · rw [thM_good h]
    split
    · exact Int.le_refl _
    · exact Int.natCast_nonneg _
  · rw [thM_bad rfl h]
    exact Int.le_refl _
theorem labs_cells {w : World} {l0 l1 : ByteArray} {W : World} (hW : CC (w.alloc (.cells #[.string l0, .string l1] 23)) W) : W.cell? ⟨w.heap.size, 0, none⟩ = some (.string l0) ∧ W.cell? ⟨w.heap.size, 1, none⟩ = some (.string l1) := by
  have h := labs_rd hW
  exact ⟨h 0 _ rfl, h 1 _ rfl⟩
set_option maxHeartbeats 4000000 in
set_option maxRecDepth 100000 in
theorem sides_walk (v0 v1 v2 : Value) (x0 x1 x2 : List Int) (l0 l1 : ByteArray) (w : World) (h0 : Rd .u8 anyB w v0 x0) (h1 : Rd .u8 anyB w v1 x1) (h2 : Rd .u8 anyB w v2 x2) (a0 : AllB x0) (a1 : AllB x1) (a2 : AllB x2) :
    Calls Try.prog 5 #[v0, v1, v2, .agg #[.string l0, .string l1]] w fun e w' => e = .returned (.bool true) ∧ Below w.heap.size w w' := by
  have KBa := Kept.mk ((Below.refl w.heap.size w).alloc (Nat.le_refl _) (.cells #[.string l0, .string l1] 23))
  have K0 := Kept.mk h0
  have K1 := Kept.mk h1
  have K2 := Kept.mk h2
  have KA0 := Kept.mk a0
  have KA1 := Kept.mk a1
  have KA2 := Kept.mk a2
  obtain ⟨pa, ca, rfl, -⟩ := h0.form
  obtain ⟨pb, cb, rfl, -⟩ := h1.form
  obtain ⟨pd, cd, rfl, -⟩ := h2.form
  have KLb : Kept (∀ W, CC (w.alloc (.cells #[.string l0, .string l1] 23)) W → W.rangeAt w.heap.size 0 [.string l0, .string l1] ∧ Below w.heap.size w W ∧ W.cell? ⟨w.heap.size, 0, none⟩ = some (.string l0) ∧ W.cell? ⟨w.heap.size, 1, none⟩ = some (.string l1)) := ⟨fun W hW => ⟨labs_rd hW, KBa.out.trans (Below.mono hW KBa.out.size), labs_cells hW⟩⟩
  clear h0 h1 h2 a0 a1 a2
  go_enter Try.func5, Try.ntmps5
  go_upto_region 1 with fail
  obtain ⟨w1, hw1⟩ : ∃ w1, w.alloc (.cells #[.string l0, .string l1] 23) = w1 := ⟨_, rfl⟩
  rw [hw1] at KLb ⊢
  clear hw1 KBa
  have KAw := Kept.mk (awake21_any w1)
  go_wp2_with fail
  refine Calls.mono KAw.out (fun e w2 hp => ?_)
  obtain ⟨rfl, hb2⟩ := hp
  have C2 : Kept (CC w1 w2) := ⟨hb2⟩
  clear KAw hb2
  have KB2 := Kept.mk (KLb.out w2 C2.out).2.1
  have hbx := (Below.refl w2.heap.size w2).alloc (Nat.le_refl _) (.cells #[.slice pa x0.length ca, .slice pb x1.length cb, .slice pd x2.length cd] 22)
  have KS := Kept.mk (small_any w2.heap.size 3 [(.slice pa x0.length ca, x0), (.slice pb x1.length cb, x1), (.slice pd x2.length cd, x2)] (w2.alloc (.cells #[.slice pa x0.length ca, .slice pb x1.length cb, .slice pd x2.length cd] 22)) rfl (by omega) (by
    intro k r hr
    obtain ⟨q0, q1, q2⟩ := box3 (w := w2) (x := .slice pa x0.length ca) (y := .slice pb x1.length cb) (z := .slice pd x2.length cd) (T := 22) (Below.refl _ _)
    have hB := KB2.out.trans (hbx.mono KB2.out.size)
    match k, hr with
    | 0, hr => simp at hr; subst hr; exact ⟨q0, K0.out.later hB (Nat.le_refl _)⟩
    | 1, hr => simp at hr; subst hr; exact ⟨q1, K1.out.later hB (Nat.le_refl _)⟩
    | 2, hr => simp at hr; subst hr; exact ⟨q2, K2.out.later hB (Nat.le_refl _)⟩))
  have C3 : Kept (CC w1 (w2.alloc (.cells #[.slice pa x0.length ca, .slice pb x1.length cb, .slice pd x2.length cd] 22))) := ⟨C2.out.on hbx⟩
  clear hbx KB2 C2
  go_wp2_with fail
  refine Calls.mono KS.out (fun e w3 hp => ?_)
  obtain ⟨rfl, hw3⟩ := hp
  rw [← hw3] at C3
  clear hw3 KS
  generalize List.all _ _ = sm at *
  cases sm with
  | false =>
    go_wp2
    go_ret
    exact ⟨rfl, (KLb.out _ C3.out).2.1⟩
  | true =>
    have KRg3 := Kept.mk (KLb.out w3 C3.out).1
    have hB3 := (KLb.out w3 C3.out).2.1
    have K3 := Kept.mk (three_of _ _ _ x0 x1 x2 l0 l1 w3 (K0.out.later hB3 (Nat.le_refl _)) (K1.out.later hB3 (Nat.le_refl _)) (K2.out.later hB3 (Nat.le_refl _)) KA0.out KA1.out KA2.out)
    obtain ⟨hsw, hsw2⟩ := thM_swap l0 l1 x0 x1 x2
    have hnn := thM_nn l0 l1 x0 x1 x2
    have hal := thM_all l0 l1 x0 x1 x2
    have hal2 := thM_all l1 l0 x0 x2 x1
    have K4 : Kept (∀ W, CC w1 W → Calls Try.prog 11 #[.slice pa x0.length ca, .slice pd x2.length cd, .slice pb x1.length cb, .agg #[.string l1, .string l0]] W fun e w' => ThE W (thM l1 l0 x0 x2 x1) e w') := ⟨fun W hW => by
      have hB := (KLb.out W hW).2.1
      exact three_of _ _ _ x0 x2 x1 l1 l0 W (K0.out.later hB (Nat.le_refl _)) (K2.out.later hB (Nat.le_refl _)) (K1.out.later hB (Nat.le_refl _)) KA0.out KA2.out KA1.out⟩
    generalize thM l0 l1 x0 x1 x2 = R at *
    generalize thM l1 l0 x0 x2 x1 = R' at *
    obtain ⟨T, n, E⟩ := R
    obtain ⟨T', n', E'⟩ := R'
    simp only [Prod.mk.injEq] at hsw
    obtain ⟨hn, hE⟩ := hsw
    subst hn hE
    simp only at hsw2 hnn hal hal2
    have Ksw := Kept.mk hsw2
    have Kal := Kept.mk hal
    have Kal2 := Kept.mk hal2
    clear hB3 hsw2 hal hal2
    go_wp2_with (refine wpList_load_mid rfl 23 _ rfl w.heap.size 0 rfl [.string l0, .string l1] _ KRg3.out Try.underlying23 rfl info_lb2 ?_)
    refine Calls.mono K3.out (fun e w4 hp => ?_)
    obtain ⟨x, rfl, ho4, hb4⟩ := hp
    simp only at ho4
    have C4 : Kept (CC w1 w4) := ⟨C3.out.on hb4⟩
    have KO4 := Kept.mk ho4
    have K5 := Kept.mk (K4.out w4 C4.out)
    obtain ⟨-, -, c0, c1⟩ := KLb.out w4 C4.out
    clear K3 ho4 hb4 K4 C3
    go_wp2_with fail
    refine Calls.mono K5.out (fun e w5 hp => ?_)
    obtain ⟨y, rfl, ho5, hb5⟩ := hp
    simp only at ho5
    have C5 : Kept (CC w1 w5) := ⟨C4.out.on hb5⟩
    have KO4 := Kept.mk (KO4.out.later hb5 (Nat.le_refl _))
    have KO5 := Kept.mk ho5
    have Kend := Kept.mk (KLb.out w5 C5.out).2.1
    clear K5 ho5 hb5 c0 c1 KLb
    by_cases hE : E = 0
    · subst hE
      by_cases hn : n > 0
      · go_wp2
        go_ret
        exact ⟨by simp, Kend.out⟩
      · have hn0 : n = 0 := by omega
        subst hn0
        have hTT : T = T' := Ksw.out rfl
        subst hTT
        have K6 := Kept.mk (same_any x y T T w5 KO4.out.rd KO5.out.rd Kal.out Kal.out)
        rw [decide_eq_true rfl] at K6
        clear hn hnn
        go_wp2_with fail
        refine Calls.mono K6.out (fun e w6 hp => ?_)
        obtain ⟨rfl, hw6⟩ := hp
        subst w6
        go_wp2
        go_ret
        exact ⟨by simp, Kend.out⟩
    · have hEb : (E != 0) = true := by simpa using hE
      clear hE hnn
      go_wp2
      go_ret
      exact ⟨by simp, Kend.out⟩
end Go.Proofs.Ytidpdhnbnecddaa
