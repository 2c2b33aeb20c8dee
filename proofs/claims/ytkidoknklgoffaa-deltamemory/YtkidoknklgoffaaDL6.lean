/-
  The walk of DeltaMemory.
-/
import Derived.Test.YtkidoknklgoffaaDL6A
namespace Go.Proofs.Ytkidoknklgoffaa
open Go.RowKit

theorem own_cut {w : World} {base g cap : Nat} {xs : List Int} (h : Own .u8 5 w base (.slice (some ⟨g, 0, none⟩) (xs.length + 4) cap) (spareL xs)) : Rd .u8 anyB w (.slice (some ⟨g, 0, none⟩) xs.length cap) xs := by
  have := h.rd.any.piece2 (i := 0) (j := xs.length) (by omega) (by rw [spareL_length]; omega)
  simpa [spareL] using this

theorem hdr_cell (w : World) (cs : Array Value) (t : TypeId) (k : Nat) (h : k < cs.size) : (w.alloc (.cells cs t)).cell? ⟨w.heap.size, k, none⟩ = some (cs.getD k undef) := by
  have hh := heap_alloc_new w (.cells cs t)
  simp only [World.cell?, hh]
  simp [h]

set_option maxHeartbeats 8000000 in
set_option maxRecDepth 100000 in
theorem memory_walk {S S' : Nat → Prop} (u v : Value) (base target : List Int) (w : World) (g : Rd .u8 S' w u base) (h : Rd .u8 S w v target) (hg : AllB base) (ht : AllB target) :
    Calls Try.prog 8 #[u, v] w fun e w' => e = .returned (.bool true) ∧ Below w.heap.size w w' := by
  have KW := Kept.mk (awake_any w)
  obtain ⟨ua, uc, rfl, -, -, -⟩ := g.form
  obtain ⟨va, vc, rfl, -, -, -⟩ := h.form
  have KG := Kept.mk g
  have KH := Kept.mk h
  have KA := Kept.mk (And.intro hg ht)
  clear g h hg ht
  by_cases h1 : 5000 < base.length
  · have h1o : decide ((5000 : Int) < (base.length : Int)) = true := by simp; omega
    clear h1
    go_enter Try.func8, Try.ntmps8
    go_wp2_with fail
    refine Calls.mono KW.out (fun e w1 hp => ?_)
    obtain ⟨rfl, hb1⟩ := hp
    have KB1 := Kept.mk hb1
    clear hb1
    go_wp2
    go_ret
    exact ⟨rfl, KB1.out⟩
  · have h1o : decide ((5000 : Int) < (base.length : Int)) = false := by simp; omega
    by_cases h2 : 5000 < target.length
    · have h2o : decide ((5000 : Int) < (target.length : Int)) = true := by simp; omega
      clear h1 h2
      go_enter Try.func8, Try.ntmps8
      go_wp2_with fail
      refine Calls.mono KW.out (fun e w1 hp => ?_)
      obtain ⟨rfl, hb1⟩ := hp
      have KB1 := Kept.mk hb1
      clear hb1
      go_wp2
      go_ret
      exact ⟨rfl, KB1.out⟩
    · have h2o : decide ((5000 : Int) < (target.length : Int)) = false := by simp; omega
      have hbl : base.length ≤ 5000 := by omega
      have htl : target.length ≤ 5000 := by omega
      clear h1 h2
      go_enter Try.func8, Try.ntmps8
      go_wp2_with fail
      refine Calls.mono KW.out (fun e w1 hp => ?_)
      obtain ⟨rfl, hb⟩ := hp
      have KB1 := Kept.mk hb
      have hz1 := hb.size
      have K1 := Kept.mk (spare_any _ base w1 (KG.out.later hb (Nat.le_refl _)) (by omega))
      clear hb
      go_wp2_with fail
      refine Calls.mono K1.out (fun e w2 hp => ?_)
      obtain ⟨g1, cap1, rfl, hcap1, ho, hb⟩ := hp
      have hz2 := hb.size
      have KB2 := Kept.mk (KB1.out.trans (hb.mono KB1.out.size))
      have Kfx := Kept.mk ho
      have Lfx := ho.lt g1 rfl
      have K1 := Kept.mk (spare_any _ target w2 (KH.out.later KB2.out (Nat.le_refl _)) (by omega))
      clear hb ho
      go_wp2_with fail
      refine Calls.mono K1.out (fun e w3 hp => ?_)
      obtain ⟨g2, cap2, rfl, hcap2, ho, hb⟩ := hp
      have hz3 := hb.size
      have KB3 := Kept.mk (KB2.out.trans (hb.mono KB2.out.size))
      have Kfx := Kept.mk (Kfx.out.later hb (Nat.le_refl _))
      have Kfy := Kept.mk ho
      have Lfy := ho.lt g2 rfl
      have K1 := Kept.mk (make_any _ _ base target w3 (own_cut Kfx.out) (own_cut Kfy.out) KA.out.1 KA.out.2 (by omega) (by omega))
      clear hb ho
      go_wp2_with fail
      refine Calls.mono K1.out (fun e w4 hp => ?_)
      obtain ⟨v4, Is, rfl, ho, hTl, hIl, -, hb⟩ := hp
      have hz4 := hb.size
      have KB4 := Kept.mk (KB3.out.trans (hb.mono KB3.out.size))
      have Kfx := Kept.mk (Kfx.out.later hb (Nat.le_refl _))
      have Kfy := Kept.mk (Kfy.out.later hb (Nat.le_refl _))
      have hD : AllB (dlL base target Is) := dlL_all (by omega) (by omega) hTl.1
      have hap := appl_tl KA.out.1 (by omega) (by omega) hTl target.length (Nat.le_refl _)
      have hDl : (dlL base target Is).length ≤ 20000 := by
        have h1 := Nu.sizeL_length (base.length : Int)
        have h2 := Nu.sizeL_length (target.length : Int)
        unfold dlL
        simp only [List.length_append]
        omega
      generalize dlL base target Is = D at *
      have Kd := Kept.mk ho
      have Ld := Kept.mk ho.lt
      have KD := Kept.mk hD
      have KAp := Kept.mk hap
      obtain ⟨da, dc, rfl, -, -, -⟩ := ho.rd.form
      have K1 := Kept.mk (kept_any _ base g1 cap1 w4 (KG.out.later KB4.out (Nat.le_refl _)) KA.out.1 hcap1 Kfx.out.rd (by omega))
      clear hb ho hTl hIl hD hap
      go_wp2_with fail
      refine Calls.mono K1.out (fun e w5 hp => ?_)
      obtain ⟨rfl, hb⟩ := hp
      have hz5 := hb.size
      have KB5 := Kept.mk (KB4.out.trans (hb.mono KB4.out.size))
      have Kfx := Kept.mk (Kfx.out.later hb (Nat.le_refl _))
      have Kfy := Kept.mk (Kfy.out.later hb (Nat.le_refl _))
      have Kd := Kept.mk (Kd.out.later hb (Nat.le_refl _))
      have K1 := Kept.mk (kept_any _ target g2 cap2 w5 (KH.out.later KB5.out (Nat.le_refl _)) KA.out.2 hcap2 Kfy.out.rd (by omega))
      clear hb
      go_wp2_with fail
      refine Calls.mono K1.out (fun e w6 hp => ?_)
      obtain ⟨rfl, hb⟩ := hp
      have hz6 := hb.size
      have KB6 := Kept.mk (KB5.out.trans (hb.mono KB5.out.size))
      have Kfx := Kept.mk (Kfx.out.later hb (Nat.le_refl _))
      have Kfy := Kept.mk (Kfy.out.later hb (Nat.le_refl _))
      have Kd := Kept.mk (Kd.out.later hb (Nat.le_refl _))
      have K1 := Kept.mk (spare_any _ D w6 Kd.out.rd (by omega))
      clear hb
      go_wp2_with fail
      refine Calls.mono K1.out (fun e w7 hp => ?_)
      obtain ⟨g3, cap3, rfl, hcap3, ho, hb⟩ := hp
      have hz7 := hb.size
      have KB7 := Kept.mk (KB6.out.trans (hb.mono KB6.out.size))
      have Kfx := Kept.mk (Kfx.out.later hb (Nat.le_refl _))
      have Kfy := Kept.mk (Kfy.out.later hb (Nat.le_refl _))
      have Kd := Kept.mk (Kd.out.later hb (Nat.le_refl _))
      have Kfz := Kept.mk ho
      have Lfz := ho.lt g3 rfl
      have K1 := apply_any _ _ base D target.length w7 (own_cut Kfx.out) (own_cut Kfz.out) KA.out.1 KD.out (by omega) (by omega) (by omega)
      rw [KAp.out] at K1
      have K1 := Kept.mk K1
      clear hb ho
      go_wp2_with fail
      refine Calls.mono K1.out (fun e w8 hp => ?_)
      obtain ⟨v8, rfl, ho, -, -, hb⟩ := hp
      have hz8 := hb.size
      have KB8 := Kept.mk (KB7.out.trans (hb.mono KB7.out.size))
      have Kfx := Kept.mk (Kfx.out.later hb (Nat.le_refl _))
      have Kfy := Kept.mk (Kfy.out.later hb (Nat.le_refl _))
      have Kd := Kept.mk (Kd.out.later hb (Nat.le_refl _))
      have Kfz := Kept.mk (Kfz.out.later hb (Nat.le_refl _))
      have Ka := Kept.mk ho
      have La := Kept.mk ho.lt
      obtain ⟨aa, ac, rfl, -, -, -⟩ := ho.rd.form
      have K1 := apply_any _ _ base D target.length w8 (own_cut Kfx.out) (own_cut Kfz.out) KA.out.1 KD.out (by omega) (by omega) (by omega)
      rw [KAp.out] at K1
      have K1 := Kept.mk K1
      clear hb ho
      go_wp2_with fail
      refine Calls.mono K1.out (fun e w9 hp => ?_)
      obtain ⟨v9, rfl, ho, -, -, hb⟩ := hp
      have hz9 := hb.size
      have KB9 := Kept.mk (KB8.out.trans (hb.mono KB8.out.size))
      have Kfx := Kept.mk (Kfx.out.later hb (Nat.le_refl _))
      have Kfy := Kept.mk (Kfy.out.later hb (Nat.le_refl _))
      have Kd := Kept.mk (Kd.out.later hb (Nat.le_refl _))
      have Kfz := Kept.mk (Kfz.out.later hb (Nat.le_refl _))
      have Ka := Kept.mk (Ka.out.later hb (Nat.le_refl _))
      have Kb := Kept.mk ho
      obtain ⟨ba, bc, rfl, -, -, -⟩ := ho.rd.form
      have K1 := Kept.mk (kept_any _ base g1 cap1 w9 (KG.out.later KB9.out (Nat.le_refl _)) KA.out.1 hcap1 Kfx.out.rd (by omega))
      clear hb ho
      go_wp2_with fail
      refine Calls.mono K1.out (fun e w10 hp => ?_)
      obtain ⟨rfl, hb⟩ := hp
      have hz10 := hb.size
      have KB10 := Kept.mk (KB9.out.trans (hb.mono KB9.out.size))
      have Kfx := Kept.mk (Kfx.out.later hb (Nat.le_refl _))
      have Kfy := Kept.mk (Kfy.out.later hb (Nat.le_refl _))
      have Kd := Kept.mk (Kd.out.later hb (Nat.le_refl _))
      have Kfz := Kept.mk (Kfz.out.later hb (Nat.le_refl _))
      have Ka := Kept.mk (Ka.out.later hb (Nat.le_refl _))
      have Kb := Kept.mk (Kb.out.later hb (Nat.le_refl _))
      have K1 := Kept.mk (kept_any _ D g3 cap3 w10 Kd.out.rd KD.out hcap3 Kfz.out.rd (by omega))
      clear hb
      go_wp2_with fail
      refine Calls.mono K1.out (fun e w11 hp => ?_)
      obtain ⟨rfl, hb⟩ := hp
      have hz11 := hb.size
      have KB11 := Kept.mk (KB10.out.trans (hb.mono KB10.out.size))
      have Kfx := Kept.mk (Kfx.out.later hb (Nat.le_refl _))
      have Kfy := Kept.mk (Kfy.out.later hb (Nat.le_refl _))
      have Kd := Kept.mk (Kd.out.later hb (Nat.le_refl _))
      have Kfz := Kept.mk (Kfz.out.later hb (Nat.le_refl _))
      have Ka := Kept.mk (Ka.out.later hb (Nat.le_refl _))
      have Kb := Kept.mk (Kb.out.later hb (Nat.le_refl _))
      have hzz := Kept.mk (And.intro hz1 (And.intro hz2 (And.intro hz3 (And.intro hz4 (And.intro hz5 (And.intro hz6 (And.intro hz7 (And.intro hz8 (And.intro hz9 (And.intro hz10 hz11))))))))))
      clear hb K1
      obtain ⟨zz1, zz2, zz3, zz4, zz5, zz6, zz7, zz8, zz9, zz10, zz11⟩ := hzz.out
      clear hz1 hz2 hz3 hz4 hz5 hz6 hz7 hz8 hz9 hz10 hz11
      have hwb : ∀ k, k < 5 → ∃ vk, (w11.alloc (.cells #[.slice (some ⟨g1, 0, none⟩) (base.length + 4) cap1, .slice (some ⟨g2, 0, none⟩) (target.length + 4) cap2, .slice (some ⟨g3, 0, none⟩) (D.length + 4) cap3, .slice da D.length dc, .slice aa target.length ac] 22)).cell? ⟨w11.heap.size, k, none⟩ = some vk ∧ Wb (fun k => w1.heap.size ≤ k ∧ k < w8.heap.size) (w11.alloc (.cells #[.slice (some ⟨g1, 0, none⟩) (base.length + 4) cap1, .slice (some ⟨g2, 0, none⟩) (target.length + 4) cap2, .slice (some ⟨g3, 0, none⟩) (D.length + 4) cap3, .slice da D.length dc, .slice aa target.length ac] 22)) vk := by
        have hal : ∀ g, g < w11.heap.size → (w11.alloc (.cells #[.slice (some ⟨g1, 0, none⟩) (base.length + 4) cap1, .slice (some ⟨g2, 0, none⟩) (target.length + 4) cap2, .slice (some ⟨g3, 0, none⟩) (D.length + 4) cap3, .slice da D.length dc, .slice aa target.length ac] 22)).heap[g]? = w11.heap[g]? := fun g hg => Below.heap_alloc w11 _ g hg
        intro k hk
        rcases (by omega : k = 0 ∨ k = 1 ∨ k = 2 ∨ k = 3 ∨ k = 4) with rfl | rfl | rfl | rfl | rfl
        · exact ⟨_, hdr_cell _ _ _ _ (by simp), Kfx.out.wb (by rw [spareL_length]; omega) (fun g hg => (show g1 = g by simpa [Value.ownBlock] using hg) ▸ ⟨hal _ (by omega), by omega, by omega⟩)⟩
        · exact ⟨_, hdr_cell _ _ _ _ (by simp), Kfy.out.wb (by rw [spareL_length]; omega) (fun g hg => (show g2 = g by simpa [Value.ownBlock] using hg) ▸ ⟨hal _ (by omega), by omega, by omega⟩)⟩
        · exact ⟨_, hdr_cell _ _ _ _ (by simp), Kfz.out.wb (by rw [spareL_length]; omega) (fun g hg => (show g3 = g by simpa [Value.ownBlock] using hg) ▸ ⟨hal _ (by omega), by omega, by omega⟩)⟩
        · exact ⟨_, hdr_cell _ _ _ _ (by simp), Kd.out.wb (by omega) (fun g hg => by have := Ld.out g hg; exact ⟨hal _ (by omega), by omega, by omega⟩)⟩
        · exact ⟨_, hdr_cell _ _ _ _ (by simp), Ka.out.wb (by omega) (fun g hg => by have := La.out g hg; exact ⟨hal _ (by omega), by omega, by omega⟩)⟩
      have hbW := (Below.refl w11.heap.size w11).alloc (Nat.le_refl _) (.cells #[.slice (some ⟨g1, 0, none⟩) (base.length + 4) cap1, .slice (some ⟨g2, 0, none⟩) (target.length + 4) cap2, .slice (some ⟨g3, 0, none⟩) (D.length + 4) cap3, .slice da D.length dc, .slice aa target.length ac] 22)
      obtain ⟨W, hW⟩ : ∃ W, w11.alloc (.cells #[.slice (some ⟨g1, 0, none⟩) (base.length + 4) cap1, .slice (some ⟨g2, 0, none⟩) (target.length + 4) cap2, .slice (some ⟨g3, 0, none⟩) (D.length + 4) cap3, .slice da D.length dc, .slice aa target.length ac] 22) = W := ⟨_, rfl⟩
      rw [hW] at hwb hbW
      have KWb := Kept.mk hwb
      have KbW := Kept.mk (Kb.out.later hbW (Nat.le_refl _))
      have KBW := Kept.mk (KB11.out.trans (hbW.mono KB11.out.size))
      have hg8 : w8.heap.size ≤ w11.heap.size := by omega
      have hg1 : w.heap.size ≤ w1.heap.size := zz1
      clear hwb hbW Kfx Kfy Kfz Kd Ka Kb
      go_wp2
      clear hW
      go_loopw [18, 19, 98] (fun _ _ s98 wr => ∃ k : Nat, k ≤ 5 ∧ s98 = .int .i64 k ∧ OnlyS (fun k => w1.heap.size ≤ k ∧ k < w8.heap.size) W wr) (fun _ _ s98 _ => 5 - (intOf s98).toNat)
      case atStart => exact ⟨0, by omega, rfl, OnlyS.refl _ _⟩
      case round =>
        obtain ⟨k, hk, rfl, hO⟩ := hrel
        by_cases hk5 : k = 5
        · subst hk5
          simp only [show ((5 : Nat) : Int) = 5 from rfl]
          have hBr := KBW.out.trans (hO.below (b := w.heap.size) (fun q hq hG => by omega))
          have hbr := KbW.out.far (w' := wr) fun q hq => hO.block q (fun hG => by have := (KbW.out.lt q hq).1; omega)
          have K1 := same_any _ _ target target wr hbr.rd (KH.out.later hBr (Nat.le_refl _)) KA.out.2 KA.out.2
          rw [decide_eq_true rfl] at K1
          have K1 := Kept.mk K1
          have KBr := Kept.mk hBr
          clear hO hbr hBr
          go_wp2_with fail
          refine Calls.mono K1.out (fun e w13 hp => ?_)
          obtain ⟨rfl, rfl⟩ := hp
          go_wp2
          go_ret
          exact ⟨rfl, KBr.out⟩
        · have hko : decide ((k : Int) < 5) = true := by simp; omega
          have hki : (k : Int) < 5 := by omega
          obtain ⟨vk, hcell, a, n, c, rfl, hn, hwr⟩ := KWb.out k (by omega)
          have hck : wr.cell? ⟨w11.heap.size, k, none⟩ = some (.slice a n c) := by
            rw [World.cell?_of_block (w := W) (a := ⟨w11.heap.size, k, none⟩) (hO.block w11.heap.size (fun hG => by omega))]
            exact hcell
          have KO := Kept.mk hO
          have KWr := Kept.mk hwr
          clear hO hcell hwr hk5
          go_wp2
          go_loopw [19, 104] (fun _ s104 wq => ∃ j : Nat, j ≤ n ∧ s104 = .int .i64 j ∧ OnlyS (fun k => w1.heap.size ≤ k ∧ k < w8.heap.size) W wq) (fun _ s104 _ => n - (intOf s104).toNat)
          case atStart => exact ⟨0, by omega, rfl, KO.out⟩
          case round =>
            obtain ⟨j, hj, rfl, hO2⟩ := hrel
            by_cases hjn : j < n
            · have hjo : decide (j < n) = true := by simp; omega
              have hji : (j : Int) < (n : Int) := by omega
              obtain ⟨gg, rfl, hG, hc⟩ := KWr.out (by omega)
              obtain ⟨y, hy⟩ := Option.isSome_iff_exists.1 (hO2.some _ (hc j hjn).1)
              have hfz : wr.frozen? ⟨gg, j, none⟩ = false := by rw [hO2.froz]; exact (hc j hjn).2
              have KO2 := Kept.mk hO2
              have KGg := Kept.mk hG
              clear hO2 hc hjn hG
              go_wp2
              exact ⟨⟨j + 1, by omega, rfl, KO2.out.set KGg.out j _⟩, by simp [intOf]; omega⟩
            · have hjo : decide (j < n) = false := by simp; omega
              have KO2 := Kept.mk hO2
              clear hO2 hjn
              go_wp2
              exact ⟨⟨k + 1, by omega, rfl, KO2.out⟩, by simp [intOf]; omega⟩
end Go.Proofs.Ytkidoknklgoffaa
