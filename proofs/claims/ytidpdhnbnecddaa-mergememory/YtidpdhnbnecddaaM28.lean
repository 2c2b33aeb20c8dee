/-
  Walks: the law MergeMemory.
-/
import Derived.Test.YtidpdhnbnecddaaM27
namespace Go.Proofs.Ytidpdhnbnecddaa
open Go.RowKit

theorem own_cut {w : World} {base g cap : Nat} {xs : List Int} (h : Own .u8 5 w base (.slice (some ⟨g, 0, none⟩) (xs.length + 4) cap) (spareL xs)) : Rd .u8 anyB w (.slice (some ⟨g, 0, none⟩) xs.length cap) xs := by
  have := h.rd.any.piece2 (i := 0) (j := xs.length) (by omega) (by rw [spareL_length]; omega)
  simpa [spareL] using this
theorem hdr_cell (w : World) (cs : Array Value) (t : TypeId) (k : Nat) (h : k < cs.size) : (w.alloc (.cells cs t)).cell? ⟨w.heap.size, k, none⟩ = some (cs.getD k undef) := by
  have hh := heap_alloc_new w (.cells cs t)
  simp only [World.cell?, hh]
  simp [h]
theorem thM_len (l0 l1 : ByteArray) (x y z : List Int) : (thM l0 l1 x y z).1.length ≤ 1048576 := by
  by_cases h : thE l0 l1 x y z = 0
  · rw [thM_good h]
    split
    · simp
    · rename_i hl
      simp only
      omega
  · rw [thM_bad rfl h]
    simp
set_option maxHeartbeats 8000000 in
set_option maxRecDepth 100000 in
theorem mgmemory_walk (v0 v1 v2 : Value) (x0 x1 x2 : List Int) (w : World) (h0 : Rd .u8 anyB w v0 x0) (h1 : Rd .u8 anyB w v1 x1) (h2 : Rd .u8 anyB w v2 x2) (a0 : AllB x0) (a1 : AllB x1) (a2 : AllB x2) (z0 : x0.length ≤ 140737488355328) (z1 : x1.length ≤ 140737488355328) (z2 : x2.length ≤ 140737488355328) :
    Calls Try.prog 8 #[v0, v1, v2] w fun e w' => e = .returned (.bool true) ∧ Below w.heap.size w w' := by
  have KAw := Kept.mk (awake21_any w)
  have K0 := Kept.mk h0
  have K1 := Kept.mk h1
  have K2 := Kept.mk h2
  have KA0 := Kept.mk a0
  have KA1 := Kept.mk a1
  have KA2 := Kept.mk a2
  obtain ⟨pa, ca, rfl, -⟩ := h0.form
  obtain ⟨pb, cb, rfl, -⟩ := h1.form
  obtain ⟨pd, cd, rfl, -⟩ := h2.form
  clear h0 h1 h2 a0 a1 a2
  go_enter Try.func8, Try.ntmps8
  go_wp2_with fail
  refine Calls.mono KAw.out (fun e w2 hp => ?_)
  obtain ⟨rfl, hb2⟩ := hp
  have KB2 := Kept.mk hb2
  clear KAw hb2
  have hbx := (Below.refl w2.heap.size w2).alloc (Nat.le_refl _) (.cells #[.slice pa x0.length ca, .slice pb x1.length cb, .slice pd x2.length cd] 22)
  have hB := KB2.out.trans (hbx.mono KB2.out.size)
  have KS := Kept.mk (small_any w2.heap.size 3 [(.slice pa x0.length ca, x0), (.slice pb x1.length cb, x1), (.slice pd x2.length cd, x2)] (w2.alloc (.cells #[.slice pa x0.length ca, .slice pb x1.length cb, .slice pd x2.length cd] 22)) rfl (by omega) (by
    intro k r hr
    obtain ⟨q0, q1, q2⟩ := box3 (w := w2) (x := .slice pa x0.length ca) (y := .slice pb x1.length cb) (z := .slice pd x2.length cd) (T := 22) (Below.refl _ _)
    match k, hr with
    | 0, hr => simp at hr; subst hr; exact ⟨q0, K0.out.later hB (Nat.le_refl _)⟩
    | 1, hr => simp at hr; subst hr; exact ⟨q1, K1.out.later hB (Nat.le_refl _)⟩
    | 2, hr => simp at hr; subst hr; exact ⟨q2, K2.out.later hB (Nat.le_refl _)⟩))
  have KB3 := Kept.mk hB
  clear hbx hB KB2
  go_wp2_with fail
  refine Calls.mono KS.out (fun e w1 hp => ?_)
  obtain ⟨rfl, hw1⟩ := hp
  rw [← hw1] at KB3
  clear hw1 KS
  generalize List.all _ _ = sm at *
  have e1 : IntKind.i64.wrap ((x0.length : Int) + (x1.length : Int)) = (x0.length : Int) + (x1.length : Int) := wr64 (by omega) (by omega)
  have e2 : IntKind.i64.wrap ((x0.length : Int) + (x1.length : Int) + (x2.length : Int)) = (x0.length : Int) + (x1.length : Int) + (x2.length : Int) := wr64 (by omega) (by omega)
  cases sm with
  | false =>
    clear e1 e2 z0 z1 z2
    go_wp2
    go_ret
    exact ⟨rfl, KB3.out⟩
  | true =>
    by_cases hs : 4000 < x0.length + x1.length + x2.length
    · have hsi : (x0.length : Int) + (x1.length : Int) + (x2.length : Int) > 4000 := by omega
      clear hs z0 z1 z2
      go_wp2
      go_ret
      exact ⟨rfl, KB3.out⟩
    · have hsi : ¬ (x0.length : Int) + (x1.length : Int) + (x2.length : Int) > 4000 := by omega
      have l0 : x0.length ≤ 4000 := by omega
      have l1 : x1.length ≤ 4000 := by omega
      have l2 : x2.length ≤ 4000 := by omega
      have KS0 := Kept.mk (spare_any _ x0 w1 (K0.out.later KB3.out (Nat.le_refl _)) (by omega))
      have hz1 := KB3.out.size
      clear hs z0 z1 z2
      go_wp2_with fail
      refine Calls.mono KS0.out (fun e ws0 hp => ?_)
      obtain ⟨g0, cap0, rfl, hcap0, ho, hb⟩ := hp
      have zz0 := hb.size
      have KBs0 := Kept.mk (KB3.out.trans (hb.mono KB3.out.size))
      have Kx0 := Kept.mk ho
      have Lx0 := ho.lt g0 rfl
      have KS1 := Kept.mk (spare_any _ x1 ws0 (K1.out.later KBs0.out (Nat.le_refl _)) (by omega))
      clear hb ho KS0
      go_wp2_with fail
      refine Calls.mono KS1.out (fun e ws1 hp => ?_)
      obtain ⟨g1, cap1, rfl, hcap1, ho, hb⟩ := hp
      have zz1 := hb.size
      have KBs1 := Kept.mk (KBs0.out.trans (hb.mono KBs0.out.size))
      have Kx1 := Kept.mk ho
      have Lx1 := ho.lt g1 rfl
      have Kx0 := Kept.mk (Kx0.out.later hb (Nat.le_refl _))
      have KS2 := Kept.mk (spare_any _ x2 ws1 (K2.out.later KBs1.out (Nat.le_refl _)) (by omega))
      clear hb ho KS1
      go_wp2_with fail
      refine Calls.mono KS2.out (fun e ws2 hp => ?_)
      obtain ⟨g2, cap2, rfl, hcap2, ho, hb⟩ := hp
      have zz2 := hb.size
      have KBs2 := Kept.mk (KBs1.out.trans (hb.mono KBs1.out.size))
      have Kx2 := Kept.mk ho
      have Lx2 := ho.lt g2 rfl
      have Kx0 := Kept.mk (Kx0.out.later hb (Nat.le_refl _))
      have Kx1 := Kept.mk (Kx1.out.later hb (Nat.le_refl _))
      clear hb ho KS2
      have KT := three_of _ _ _ x0 x1 x2 lE lE ws2 (own_cut Kx0.out) (own_cut Kx1.out) (own_cut Kx2.out) KA0.out KA1.out KA2.out
      have KT2 : Kept (∀ W, Own .u8 5 W w1.heap.size (.slice (some ⟨g0, 0, none⟩) (x0.length + 4) cap0) (spareL x0) → Own .u8 5 W ws0.heap.size (.slice (some ⟨g1, 0, none⟩) (x1.length + 4) cap1) (spareL x1) → Own .u8 5 W ws1.heap.size (.slice (some ⟨g2, 0, none⟩) (x2.length + 4) cap2) (spareL x2) → Calls Try.prog 11 #[.slice (some ⟨g0, 0, none⟩) x0.length cap0, .slice (some ⟨g1, 0, none⟩) x1.length cap1, .slice (some ⟨g2, 0, none⟩) x2.length cap2, .agg #[.string lE, .string lE]] W fun e w' => ThE W (thM lE lE x0 x1 x2) e w') := ⟨fun W k0 k1 k2 => three_of _ _ _ x0 x1 x2 lE lE W (own_cut k0) (own_cut k1) (own_cut k2) KA0.out KA1.out KA2.out⟩
      have KDc : Kept (∀ W, Below w.heap.size w W → Calls Try.prog 13 #[.slice pa x0.length ca, .slice pb x1.length cb, .slice pd x2.length cd, .agg #[.string lE, .string lE]] W fun e w' => DhE W (thM lE lE x0 x1 x2) e w') := ⟨fun W hW => docThreeE_any _ _ _ x0 x1 x2 lE lE W (K0.out.later hW (Nat.le_refl _)) (K1.out.later hW (Nat.le_refl _)) (K2.out.later hW (Nat.le_refl _))⟩
      have hal := thM_all lE lE x0 x1 x2
      have hTl := thM_len lE lE x0 x1 x2
      generalize thM lE lE x0 x1 x2 = R at *
      obtain ⟨T, nn, EE⟩ := R
      simp only at hal hTl
      have Kal := Kept.mk hal
      have KT := Kept.mk KT
      clear hal
      go_wp2_with fail
      refine Calls.mono KT.out (fun e w4 hp => ?_)
      obtain ⟨tp, rfl, ho, hb⟩ := hp
      simp only at ho
      have hz4 := hb.size
      have KB4 := Kept.mk (KBs2.out.trans (hb.mono KBs2.out.size))
      have Kx0 := Kept.mk (Kx0.out.later hb (Nat.le_refl _))
      have Kx1 := Kept.mk (Kx1.out.later hb (Nat.le_refl _))
      have Kx2 := Kept.mk (Kx2.out.later hb (Nat.le_refl _))
      have Kp := Kept.mk ho
      have Lp := Kept.mk ho.lt
      obtain ⟨ta, tc, htp, -⟩ := ho.rd.form
      subst htp
      have KT := Kept.mk (KT2.out w4 Kx0.out Kx1.out Kx2.out)
      clear hb ho KT2
      go_wp2_with fail
      refine Calls.mono KT.out (fun e w5 hp => ?_)
      obtain ⟨tq, rfl, ho, hb⟩ := hp
      simp only at ho
      have hz5 := hb.size
      have KB5 := Kept.mk (KB4.out.trans (hb.mono KB4.out.size))
      have Kx0 := Kept.mk (Kx0.out.later hb (Nat.le_refl _))
      have Kx1 := Kept.mk (Kx1.out.later hb (Nat.le_refl _))
      have Kx2 := Kept.mk (Kx2.out.later hb (Nat.le_refl _))
      have Kp := Kept.mk (Kp.out.later hb (Nat.le_refl _))
      have Kq := Kept.mk ho
      obtain ⟨qa, qc, htq, -⟩ := ho.rd.form
      subst htq
      have KK := Kept.mk (kept_any _ x0 g0 cap0 w5 (K0.out.later KB5.out (Nat.le_refl _)) KA0.out hcap0 Kx0.out.rd (by omega))
      clear hb ho KT
      go_wp2_with fail
      refine Calls.mono KK.out (fun e w6 hp => ?_)
      obtain ⟨rfl, hb⟩ := hp
      have hz6 := hb.size
      have KB6 := Kept.mk (KB5.out.trans (hb.mono KB5.out.size))
      have Kx0 := Kept.mk (Kx0.out.later hb (Nat.le_refl _))
      have Kx1 := Kept.mk (Kx1.out.later hb (Nat.le_refl _))
      have Kx2 := Kept.mk (Kx2.out.later hb (Nat.le_refl _))
      have Kp := Kept.mk (Kp.out.later hb (Nat.le_refl _))
      have Kq := Kept.mk (Kq.out.later hb (Nat.le_refl _))
      have KK := Kept.mk (kept_any _ x1 g1 cap1 w6 (K1.out.later KB6.out (Nat.le_refl _)) KA1.out hcap1 Kx1.out.rd (by omega))
      clear hb
      go_wp2_with fail
      refine Calls.mono KK.out (fun e w7 hp => ?_)
      obtain ⟨rfl, hb⟩ := hp
      have hz7 := hb.size
      have KB7 := Kept.mk (KB6.out.trans (hb.mono KB6.out.size))
      have Kx0 := Kept.mk (Kx0.out.later hb (Nat.le_refl _))
      have Kx1 := Kept.mk (Kx1.out.later hb (Nat.le_refl _))
      have Kx2 := Kept.mk (Kx2.out.later hb (Nat.le_refl _))
      have Kp := Kept.mk (Kp.out.later hb (Nat.le_refl _))
      have Kq := Kept.mk (Kq.out.later hb (Nat.le_refl _))
      have KK := Kept.mk (kept_any _ x2 g2 cap2 w7 (K2.out.later KB7.out (Nat.le_refl _)) KA2.out hcap2 Kx2.out.rd (by omega))
      clear hb
      go_wp2_with fail
      refine Calls.mono KK.out (fun e w8 hp => ?_)
      obtain ⟨rfl, hb⟩ := hp
      have hz8 := hb.size
      have KB8 := Kept.mk (KB7.out.trans (hb.mono KB7.out.size))
      have Kx0 := Kept.mk (Kx0.out.later hb (Nat.le_refl _))
      have Kx1 := Kept.mk (Kx1.out.later hb (Nat.le_refl _))
      have Kx2 := Kept.mk (Kx2.out.later hb (Nat.le_refl _))
      have Kp := Kept.mk (Kp.out.later hb (Nat.le_refl _))
      have Kq := Kept.mk (Kq.out.later hb (Nat.le_refl _))
      clear hb
      have hzz := Kept.mk (And.intro hz1 (And.intro zz0 (And.intro zz1 (And.intro zz2 (And.intro hz4 (And.intro hz5 (And.intro hz6 (And.intro hz7 hz8))))))))
      clear KK
      obtain ⟨y1, y2, y3, y4, y5, y6, y7, y8, y9⟩ := hzz.out
      clear hz1 zz0 zz1 zz2 hz4 hz5 hz6 hz7 hz8
      have hwb : ∀ k, k < 4 → ∃ vk, (w8.alloc (.cells #[.slice (some ⟨g0, 0, none⟩) (x0.length + 4) cap0, .slice (some ⟨g1, 0, none⟩) (x1.length + 4) cap1, .slice (some ⟨g2, 0, none⟩) (x2.length + 4) cap2, .slice ta T.length tc] 22)).cell? ⟨w8.heap.size, k, none⟩ = some vk ∧ Wb (fun k => w1.heap.size ≤ k ∧ k < w4.heap.size) (w8.alloc (.cells #[.slice (some ⟨g0, 0, none⟩) (x0.length + 4) cap0, .slice (some ⟨g1, 0, none⟩) (x1.length + 4) cap1, .slice (some ⟨g2, 0, none⟩) (x2.length + 4) cap2, .slice ta T.length tc] 22)) vk := by
        have hal : ∀ g, g < w8.heap.size → (w8.alloc (.cells #[.slice (some ⟨g0, 0, none⟩) (x0.length + 4) cap0, .slice (some ⟨g1, 0, none⟩) (x1.length + 4) cap1, .slice (some ⟨g2, 0, none⟩) (x2.length + 4) cap2, .slice ta T.length tc] 22)).heap[g]? = w8.heap[g]? := fun g hg => Below.heap_alloc w8 _ g hg
        intro k hk
        rcases (by omega : k = 0 ∨ k = 1 ∨ k = 2 ∨ k = 3) with rfl | rfl | rfl | rfl
        · exact ⟨_, hdr_cell _ _ _ _ (by simp), Kx0.out.wb (by rw [spareL_length]; omega) (fun g hg => (show g0 = g by simpa [Value.ownBlock] using hg) ▸ ⟨hal _ (by omega), by omega, by omega⟩)⟩
        · exact ⟨_, hdr_cell _ _ _ _ (by simp), Kx1.out.wb (by rw [spareL_length]; omega) (fun g hg => (show g1 = g by simpa [Value.ownBlock] using hg) ▸ ⟨hal _ (by omega), by omega, by omega⟩)⟩
        · exact ⟨_, hdr_cell _ _ _ _ (by simp), Kx2.out.wb (by rw [spareL_length]; omega) (fun g hg => (show g2 = g by simpa [Value.ownBlock] using hg) ▸ ⟨hal _ (by omega), by omega, by omega⟩)⟩
        · exact ⟨_, hdr_cell _ _ _ _ (by simp), Kp.out.wb hTl (fun g hg => by have := Lp.out g hg; exact ⟨hal _ (by omega), by omega, by omega⟩)⟩
      have hbW := (Below.refl w8.heap.size w8).alloc (Nat.le_refl _) (.cells #[.slice (some ⟨g0, 0, none⟩) (x0.length + 4) cap0, .slice (some ⟨g1, 0, none⟩) (x1.length + 4) cap1, .slice (some ⟨g2, 0, none⟩) (x2.length + 4) cap2, .slice ta T.length tc] 22)
      obtain ⟨W, hW⟩ : ∃ W, w8.alloc (.cells #[.slice (some ⟨g0, 0, none⟩) (x0.length + 4) cap0, .slice (some ⟨g1, 0, none⟩) (x1.length + 4) cap1, .slice (some ⟨g2, 0, none⟩) (x2.length + 4) cap2, .slice ta T.length tc] 22) = W := ⟨_, rfl⟩
      rw [hW] at hwb hbW
      have KWb := Kept.mk hwb
      have KqW := Kept.mk (Kq.out.later hbW (Nat.le_refl _))
      have KBW := Kept.mk (KB8.out.trans (hbW.mono KB8.out.size))
      have hg8 : w4.heap.size ≤ w8.heap.size := by omega
      have hg1 : w.heap.size ≤ w1.heap.size := y1
      clear hwb hbW Kx0 Kx1 Kx2 Kp Kq e1 e2 hsi hzz y1 y2 y3 y4 y5 y6 y7 y8 y9 Lx0 Lx1 Lx2 hcap0 hcap1 hcap2 l0 l1 l2 hTl
      go_wp2
      clear hW
      go_loopw [20, 21, 99] (fun _ _ s99 wr => ∃ k : Nat, k ≤ 4 ∧ s99 = .int .i64 k ∧ OnlyS (fun k => w1.heap.size ≤ k ∧ k < w4.heap.size) W wr) (fun _ _ s99 _ => 4 - (intOf s99).toNat)
      case atStart => exact ⟨0, by omega, rfl, OnlyS.refl _ _⟩
      case round =>
        obtain ⟨k, hk, rfl, hO⟩ := hrel
        by_cases hk5 : k = 4
        · subst hk5
          simp only [show ((4 : Nat) : Int) = 4 from rfl]
          have hBr := KBW.out.trans (hO.below (b := w.heap.size) (fun q hq hG => by omega))
          have hbr := KqW.out.far (w' := wr) fun q hq => hO.block q (fun hG => by have := (KqW.out.lt q hq).1; omega)
          have KD := Kept.mk (KDc.out wr hBr)
          have KBr := Kept.mk hBr
          have Kbr := Kept.mk hbr
          clear hO hbr hBr
          go_wp2_with fail
          refine Calls.mono KD.out (fun e w13 hp => ?_)
          obtain ⟨y, rfl, hrd, -, hb⟩ := hp
          simp only at hrd
          have S1 := same_any _ _ T T w13 (Kbr.out.later hb (Nat.le_refl _)).rd hrd Kal.out Kal.out
          rw [decide_eq_true rfl] at S1
          have S1 := Kept.mk S1
          have Kend := Kept.mk (KBr.out.trans (hb.mono KBr.out.size))
          clear hrd hb KD
          go_wp2_with fail
          refine Calls.mono S1.out (fun e w14 hp => ?_)
          obtain ⟨rfl, hw⟩ := hp
          subst w14
          go_wp2
          go_ret
          exact ⟨rfl, Kend.out⟩
        · have hko : decide ((k : Int) < 4) = true := by simp; omega
          have hki : (k : Int) < 4 := by omega
          obtain ⟨vk, hcell, a, n, c, rfl, hn, hwr⟩ := KWb.out k (by omega)
          have hck : wr.cell? ⟨w8.heap.size, k, none⟩ = some (.slice a n c) := by
            rw [World.cell?_of_block (w := W) (a := ⟨w8.heap.size, k, none⟩) (hO.block w8.heap.size (fun hG => by omega))]
            exact hcell
          have KO := Kept.mk hO
          have KWr := Kept.mk hwr
          clear hO hcell hwr hk5
          go_wp2
          go_loopw [21, 105] (fun _ s105 wq => ∃ j : Nat, j ≤ n ∧ s105 = .int .i64 j ∧ OnlyS (fun k => w1.heap.size ≤ k ∧ k < w4.heap.size) W wq) (fun _ s105 _ => n - (intOf s105).toNat)
          case atStart => exact ⟨0, by omega, rfl, KO.out⟩
          case round =>
            obtain ⟨j, hj, rfl, hO2⟩ := hrel
            by_cases hjn : j < n
            · have hjo : decide (j < n) = true := by simp; omega
              have hji : (j : Int) < (n : Int) := by omega
              obtain ⟨gg, rfl, hG, hc⟩ := KWr.out (by omega)
              obtain ⟨y, hy⟩ := Option.isSome_iff_exists.1 (hO2.some _ (hc j hjn).1)
              have hfz : wr.frozen? ⟨gg, j, none⟩ = false := by rw [hO2.froz]; exact (hc j hjn).2
              have KO2 := Kept.mk hO2
              have KGg := Kept.mk hG
              clear hO2 hc hjn hG
              go_wp2
              exact ⟨⟨j + 1, by omega, rfl, KO2.out.set KGg.out j _⟩, by simp [intOf]; omega⟩
            · have hjo : decide (j < n) = false := by simp; omega
              have KO2 := Kept.mk hO2
              clear hO2 hjn
              go_wp2
              exact ⟨⟨k + 1, by omega, rfl, KO2.out⟩, by simp [intOf]; omega⟩
end Go.Proofs.Ytidpdhnbnecddaa
