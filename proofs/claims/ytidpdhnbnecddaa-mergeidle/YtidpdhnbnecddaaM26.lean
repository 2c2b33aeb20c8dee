/-
  Walks: the law MergeIdle.
-/
import Derived.Test.YtidpdhnbnecddaaM25
namespace Go.Proofs.Ytidpdhnbnecddaa
open Go.RowKit

theorem bigT_small {x : List Int} (h : x.length ≤ 1500) (hl : (lnS x).length ≤ 1000) : bigT x = false := by
  unfold bigT
  rw [decide_eq_false (by omega), decide_eq_false (by omega)]
  rfl
set_option maxHeartbeats 4000000 in
set_option maxRecDepth 100000 in
theorem idle_walk (v0 v1 : Value) (x0 x1 : List Int) (l0 l1 : ByteArray) (w : World) (h0 : Rd .u8 anyB w v0 x0) (h1 : Rd .u8 anyB w v1 x1) (a0 : AllB x0) (a1 : AllB x1) :
    Calls Try.prog 4 #[v0, v1, .agg #[.string l0, .string l1]] w fun e w' => e = .returned (.bool true) ∧ Below w.heap.size w w' := by
  have KBa := Kept.mk ((Below.refl w.heap.size w).alloc (Nat.le_refl _) (.cells #[.string l0, .string l1] 23))
  have K0 := Kept.mk h0
  have K1 := Kept.mk h1
  have KA0 := Kept.mk a0
  have KA1 := Kept.mk a1
  obtain ⟨pa, ca, rfl, -⟩ := h0.form
  obtain ⟨pb, cb, rfl, -⟩ := h1.form
  have KLb : Kept (∀ W, CC (w.alloc (.cells #[.string l0, .string l1] 23)) W → W.rangeAt w.heap.size 0 [.string l0, .string l1] ∧ Below w.heap.size w W ∧ W.cell? ⟨w.heap.size, 0, none⟩ = some (.string l0) ∧ W.cell? ⟨w.heap.size, 1, none⟩ = some (.string l1)) := ⟨fun W hW => ⟨labs_rd hW, KBa.out.trans (Below.mono hW KBa.out.size), labs_cells hW⟩⟩
  clear h0 h1 a0 a1
  go_enter Try.func4, Try.ntmps4
  go_upto_region 1 with fail
  obtain ⟨w1, hw1⟩ : ∃ w1, w.alloc (.cells #[.string l0, .string l1] 23) = w1 := ⟨_, rfl⟩
  rw [hw1] at KLb ⊢
  clear hw1 KBa
  have KAw := Kept.mk (awake21_any w1)
  go_wp2_with fail
  refine Calls.mono KAw.out (fun e w2 hp => ?_)
  obtain ⟨rfl, hb2⟩ := hp
  have C2 : Kept (CC w1 w2) := ⟨hb2⟩
  clear KAw hb2
  have KB2 := Kept.mk (KLb.out w2 C2.out).2.1
  have hbx := (Below.refl w2.heap.size w2).alloc (Nat.le_refl _) (.cells #[.slice pa x0.length ca, .slice pb x1.length cb] 22)
  have KS := Kept.mk (small_any w2.heap.size 2 [(.slice pa x0.length ca, x0), (.slice pb x1.length cb, x1)] (w2.alloc (.cells #[.slice pa x0.length ca, .slice pb x1.length cb] 22)) rfl (by omega) (by
    intro k r hr
    obtain ⟨q0, q1⟩ := box2 (w := w2) (x := .slice pa x0.length ca) (y := .slice pb x1.length cb) (T := 22)
    have hB := KB2.out.trans (hbx.mono KB2.out.size)
    match k, hr with
    | 0, hr => simp at hr; subst hr; exact ⟨q0, K0.out.later hB (Nat.le_refl _)⟩
    | 1, hr => simp at hr; subst hr; exact ⟨q1, K1.out.later hB (Nat.le_refl _)⟩))
  have C3 : Kept (CC w1 (w2.alloc (.cells #[.slice pa x0.length ca, .slice pb x1.length cb] 22))) := ⟨C2.out.on hbx⟩
  clear hbx KB2 C2
  go_wp2_with fail
  refine Calls.mono KS.out (fun e w3 hp => ?_)
  obtain ⟨rfl, hw3⟩ := hp
  rw [← hw3] at C3
  clear hw3 KS
  generalize List.all _ _ = sm at *
  cases sm with
  | false =>
    go_wp2
    go_ret
    exact ⟨rfl, (KLb.out _ C3.out).2.1⟩
  | true =>
    obtain ⟨-, hB3, c0, c1⟩ := KLb.out w3 C3.out
    have KB3 := Kept.mk hB3
    clear hB3
    by_cases g0 : 1500 < x0.length
    · have g0i : (1500 : Int) < (x0.length : Int) := by omega
      go_wp2
      go_ret
      exact ⟨rfl, KB3.out⟩
    · have g0i : ¬ (1500 : Int) < (x0.length : Int) := by omega
      by_cases g1 : 1500 < x1.length
      · have g1i : (1500 : Int) < (x1.length : Int) := by omega
        go_wp2
        go_ret
        exact ⟨rfl, KB3.out⟩
      · have g1i : ¬ (1500 : Int) < (x1.length : Int) := by omega
        have KL0 := Kept.mk (label_any l0 w3)
        have Kg : Kept (x0.length ≤ 1500 ∧ x1.length ≤ 1500) := ⟨by omega⟩
        clear g0 g1
        go_wp2_with fail
        refine Calls.mono KL0.out (fun e w4 hp => ?_)
        obtain ⟨rfl, hb4⟩ := hp
        have C4 : Kept (CC w1 w4) := ⟨C3.out.on hb4⟩
        clear KL0 hb4 c0 c1 C3
        cases k0 : okL l0 with
        | false =>
          clear k0
          go_wp2
          go_ret
          exact ⟨rfl, (KLb.out _ C4.out).2.1⟩
        | true =>
          have Kk0 := Kept.mk k0
          obtain ⟨-, -, c0, c1⟩ := KLb.out w4 C4.out
          have KL1 := Kept.mk (label_any l1 w4)
          clear k0
          go_wp2_with fail
          refine Calls.mono KL1.out (fun e w5 hp => ?_)
          obtain ⟨rfl, hb5⟩ := hp
          have C5 : Kept (CC w1 w5) := ⟨C4.out.on hb5⟩
          clear KL1 hb5 c0 c1 C4
          cases k1 : okL l1 with
          | false =>
            clear k1
            go_wp2
            go_ret
            exact ⟨rfl, (KLb.out _ C5.out).2.1⟩
          | true =>
            have Kk1 := Kept.mk k1
            clear k1
            have KN0 := Kept.mk (lines_any _ x0 w5 (K0.out.later (KLb.out _ C5.out).2.1 (Nat.le_refl _)) KA0.out (by have := Kg.out; omega))
            go_wp2_with fail
            refine Calls.mono KN0.out (fun e w6 hp => ?_)
            obtain ⟨q0, rfl, ho6, hb6⟩ := hp
            obtain ⟨p6, c6, hq6⟩ := ho6.form
            subst hq6
            have C6 : Kept (CC w1 w6) := ⟨C5.out.on hb6⟩
            clear KN0 ho6 hb6 C5
            by_cases n0 : 1000 < (lnS x0).length
            · have n0i : (1000 : Int) < ((lnS x0).length : Int) := by omega
              go_wp2
              go_ret
              exact ⟨rfl, (KLb.out _ C6.out).2.1⟩
            · have n0i : ¬ (1000 : Int) < ((lnS x0).length : Int) := by omega
              have KN1 := Kept.mk (lines_any _ x1 w6 (K1.out.later (KLb.out _ C6.out).2.1 (Nat.le_refl _)) KA1.out (by have := Kg.out; omega))
              go_wp2_with fail
              refine Calls.mono KN1.out (fun e w7 hp => ?_)
              obtain ⟨q1, rfl, ho7, hb7⟩ := hp
              obtain ⟨p7, c7, hq7⟩ := ho7.form
              subst hq7
              have C7 : Kept (CC w1 w7) := ⟨C6.out.on hb7⟩
              clear KN1 ho7 hb7 C6
              by_cases n1 : 1000 < (lnS x1).length
              · have n1i : (1000 : Int) < ((lnS x1).length : Int) := by omega
                go_wp2
                go_ret
                exact ⟨rfl, (KLb.out _ C7.out).2.1⟩
              · have n1i : ¬ (1000 : Int) < ((lnS x1).length : Int) := by omega
                obtain ⟨i1, i2, i3⟩ := idle_all l0 l1 x0 x1 KA1.out (bigT_small (by have := Kg.out; omega) (by omega)) (bigT_small (by have := Kg.out; omega) (by omega)) Kk0.out Kk1.out
                have T1 : Kept (∀ W, CC w1 W → Calls Try.prog 11 #[.slice pa x0.length ca, .slice pa x0.length ca, .slice pb x1.length cb, .agg #[.string l0, .string l1]] W fun e w' => ThE W (x1, 0, 0) e w') := ⟨fun W hW => by
                  have hB := (KLb.out W hW).2.1
                  rw [← i1]
                  exact three_of _ _ _ x0 x0 x1 l0 l1 W (K0.out.later hB (Nat.le_refl _)) (K0.out.later hB (Nat.le_refl _)) (K1.out.later hB (Nat.le_refl _)) KA0.out KA0.out KA1.out⟩
                have T2 : Kept (∀ W, CC w1 W → Calls Try.prog 11 #[.slice pa x0.length ca, .slice pb x1.length cb, .slice pa x0.length ca, .agg #[.string l0, .string l1]] W fun e w' => ThE W (x1, 0, 0) e w') := ⟨fun W hW => by
                  have hB := (KLb.out W hW).2.1
                  rw [← i2]
                  exact three_of _ _ _ x0 x1 x0 l0 l1 W (K0.out.later hB (Nat.le_refl _)) (K1.out.later hB (Nat.le_refl _)) (K0.out.later hB (Nat.le_refl _)) KA0.out KA1.out KA0.out⟩
                have T3 : Kept (∀ W, CC w1 W → Calls Try.prog 11 #[.slice pa x0.length ca, .slice pb x1.length cb, .slice pb x1.length cb, .agg #[.string l0, .string l1]] W fun e w' => ThE W (x1, 0, 0) e w') := ⟨fun W hW => by
                  have hB := (KLb.out W hW).2.1
                  rw [← i3]
                  exact three_of _ _ _ x0 x1 x1 l0 l1 W (K0.out.later hB (Nat.le_refl _)) (K1.out.later hB (Nat.le_refl _)) (K1.out.later hB (Nat.le_refl _)) KA0.out KA1.out KA1.out⟩
                clear i1 i2 i3 n0 n1
                have KRg7 := Kept.mk (KLb.out w7 C7.out).1
                have U1 := Kept.mk (T1.out w7 C7.out)
                go_wp2_with (refine wpList_load_mid rfl 23 _ rfl w.heap.size 0 rfl [.string l0, .string l1] _ KRg7.out Try.underlying23 rfl info_lb2 ?_)
                refine Calls.mono U1.out (fun e w8 hp => ?_)
                obtain ⟨x, rfl, ho8, hb8⟩ := hp
                simp only at ho8
                have C8 : Kept (CC w1 w8) := ⟨C7.out.on hb8⟩
                have KO8 := Kept.mk ho8
                have KRg8 := Kept.mk (KLb.out w8 C8.out).1
                have U2 := Kept.mk (T2.out w8 C8.out)
                clear U1 T1 ho8 hb8 KRg7 C7
                go_wp2_with (refine wpList_load_mid rfl 23 _ rfl w.heap.size 0 rfl [.string l0, .string l1] _ KRg8.out Try.underlying23 rfl info_lb2 ?_)
                refine Calls.mono U2.out (fun e w9 hp => ?_)
                obtain ⟨y, rfl, ho9, hb9⟩ := hp
                simp only at ho9
                have C9 : Kept (CC w1 w9) := ⟨C8.out.on hb9⟩
                have KO8 := Kept.mk (KO8.out.later hb9 (Nat.le_refl _))
                have KO9 := Kept.mk ho9
                have KRg9 := Kept.mk (KLb.out w9 C9.out).1
                have U3 := Kept.mk (T3.out w9 C9.out)
                clear U2 T2 ho9 hb9 KRg8 C8
                go_wp2_with (refine wpList_load_mid rfl 23 _ rfl w.heap.size 0 rfl [.string l0, .string l1] _ KRg9.out Try.underlying23 rfl info_lb2 ?_)
                refine Calls.mono U3.out (fun e w10 hp => ?_)
                obtain ⟨z, rfl, ho10, hb10⟩ := hp
                simp only at ho10
                have C10 : Kept (CC w1 w10) := ⟨C9.out.on hb10⟩
                have r1 := K1.out.later (KLb.out w10 C10.out).2.1 (Nat.le_refl _)
                have S1 := Kept.mk (same_any _ _ x1 x1 w10 (KO8.out.later hb10 (Nat.le_refl _)).rd r1 KA1.out KA1.out)
                have S2 := Kept.mk (same_any _ _ x1 x1 w10 (KO9.out.later hb10 (Nat.le_refl _)).rd r1 KA1.out KA1.out)
                have S3 := Kept.mk (same_any _ _ x1 x1 w10 ho10.rd r1 KA1.out KA1.out)
                rw [decide_eq_true rfl] at S1 S2 S3
                have Kend := Kept.mk (KLb.out w10 C10.out).2.1
                clear U3 T3 ho10 hb10 KRg9 C9 KO8 KO9 r1
                go_wp2_with fail
                refine Calls.mono S1.out (fun e w11 hp => ?_)
                obtain ⟨rfl, hw⟩ := hp
                subst w11
                clear S1
                go_wp2_with fail
                refine Calls.mono S2.out (fun e w11 hp => ?_)
                obtain ⟨rfl, hw⟩ := hp
                subst w11
                clear S2
                go_wp2_with fail
                refine Calls.mono S3.out (fun e w11 hp => ?_)
                obtain ⟨rfl, hw⟩ := hp
                subst w11
                clear S3
                go_wp2
                go_ret
                exact ⟨rfl, Kend.out⟩
end Go.Proofs.Ytidpdhnbnecddaa
