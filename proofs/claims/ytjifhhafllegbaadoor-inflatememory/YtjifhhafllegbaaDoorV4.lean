/-
  Walks: Spare, Kept; what Inflate answers, in one form.
-/
import Derived.Test.YtjifhhafllegbaaDoorI2
import Derived.Test.YtjifhhafllegbaaDoorD18
namespace Go.Proofs.YtjifhhafllegbaaDoor
open Go.RowKit

def spareL (xs : List Int) : List Int := xs ++ [41, 42, 43, 44]
theorem spareL_length (xs : List Int) : (spareL xs).length = xs.length + 4 := by simp [spareL]
theorem allB4 : AllB [41, 42, 43, 44] := allB_lit rfl

theorem spare_open {w4 : World} {base : Nat} {v4 : Value} {xs : List Int} (h : Own .u8 5 w4 base v4 (xs ++ [41, 42, 43, 44])) : ∃ g cap, v4 = .slice (some ⟨g, 0, none⟩) (xs.length + 4) cap ∧ (xs.length : Int) + 4 ≤ cap ∧ (cap : Int) ≤ 9223372036854775807 ∧ base ≤ g ∧ g < w4.heap.size := by
  have hl : (xs ++ [(41 : Int), 42, 43, 44]).length = xs.length + 4 := by simp
  have hlt := h.lt
  rcases h.2 with ⟨-, hn⟩ | ⟨g, cap, cur, rfl, hbg, hg, hnc, hcm, hcs, htake⟩
  · rw [hl] at hn
    omega
  · rw [hl] at hnc
    unfold maxLen at hcm
    exact ⟨g, cap, by rw [hl], by omega, by omega, hbg, (hlt g rfl).2⟩

set_option maxHeartbeats 1000000 in
set_option maxRecDepth 100000 in
theorem spare_any {S : Nat → Prop} (v : Value) (xs : List Int) (w : World) (h : Rd .u8 S w v xs) (hl : xs.length ≤ 4000) :
    Calls Tryd.prog 14 #[v] w fun e w' => ∃ g cap, e = .returned (.tuple #[.slice (some ⟨g, 0, none⟩) xs.length cap, .slice (some ⟨g, 0, none⟩) (xs.length + 4) cap]) ∧ (xs.length : Int) + 4 ≤ cap ∧ Own .u8 5 w' w.heap.size (.slice (some ⟨g, 0, none⟩) (xs.length + 4) cap) (spareL xs) ∧ Below w.heap.size w w' := by
  obtain ⟨i0, z0, hi, hz, hs, hb0, hc⟩ := info8
  obtain ⟨a, c, rfl, -, -, -⟩ := h.form
  have hb1 : i0.bytes * (xs.length + 4) ≤ 281474976710656 := by rw [hb0]; omega
  have hb2 : xs.length + 4 ≤ maxLen := by unfold maxLen; omega
  have KH := Kept.mk h
  clear h
  go_enter Tryd.func14, Tryd.ntmps14
  go_wp2_with (first | (at_make; refine wpList_make_own _ rfl _ _ 22 rfl w.heap.size 5 i0 z0 1 Tryd.underlying22 hi hz hs .i64 .i64 ((xs.length : Int) + 4) (xs.length + 4) rfl rfl (by simp) hb1 hb2 (Nat.le_refl _) ?_; intro w1 o1 g1; have KB3 := Kept.mk ((Below.refl w.heap.size w).grown g1 (Nat.le_refl _) (by intro k hk; cases hk)); have KO1 : Kept (Own .u8 5 w1 w.heap.size (.slice (some ⟨w.heap.size, 0, none⟩) 0 (xs.length + 4)) []) := ⟨o1⟩; have KR1 := Kept.mk (KH.out.later KB3.out (Nat.le_refl _)); clear o1 g1) | (at_builtin; refine wpList_append_rd _ rfl _ _ 22 rfl .u8 S 1 w.heap.size 5 i0 z0 Tryd.underlying22 hi hz hs hb0 hc (by omega) _ [] rfl KO1.out _ xs rfl KR1.out (by simp; omega) KB3.out.size ?_; intro v2 w2 o2 g2 hat2; have KB4 := Kept.mk (KB3.out.grown g2 KB3.out.size (own_ge KO1.out)); have KO2 := Kept.mk (Own.alloc o2 (.cells (cellsK .u8 [41, 42, 43, 44]).toArray 5)); have KR3 := Kept.mk (Rd.lit .u8 w2 [41, 42, 43, 44] 5 (by decide)); have KB5 := Kept.mk (KB4.out.alloc KB4.out.size (.cells (cellsK .u8 [41, 42, 43, 44]).toArray 5)); clear o2 g2 hat2 KO1 KR1) | (at_builtin; refine wpList_append_rd _ rfl _ _ 22 rfl .u8 (fun g => g = w2.heap.size) 1 w.heap.size 5 i0 z0 Tryd.underlying22 hi hz hs hb0 hc (by omega) _ xs rfl KO2.out _ [41, 42, 43, 44] rfl KR3.out (by simp; omega) KB5.out.size ?_; intro v4 w4 o4 g4 hat4; have KB6 := Kept.mk (KB5.out.grown g4 KB5.out.size (own_ge KO2.out)); obtain ⟨g, cap, hv4, hcp1, hcp2, hg1, hg2⟩ := spare_open o4; subst hv4; have KO4 := Kept.mk o4; clear o4 g4 hat4 KO2 KR3))
  go_ret2
  exact ⟨g, cap, rfl, hcp1, KO4.out, KB6.out⟩

set_option maxHeartbeats 1000000 in
set_option maxRecDepth 100000 in
theorem kept_any {S S' : Nat → Prop} (v : Value) (xs : List Int) (g cap : Nat) (w : World) (h : Rd .u8 S w v xs) (hx : AllB xs) (hcap : (xs.length : Int) + 4 ≤ cap) (hf : Rd .u8 S' w (.slice (some ⟨g, 0, none⟩) (xs.length + 4) cap) (spareL xs)) (hl : xs.length ≤ 4000) :
    Calls Tryd.prog 15 #[v, .slice (some ⟨g, 0, none⟩) (xs.length + 4) cap] w fun e w' => e = .returned (.bool true) ∧ Below w.heap.size w w' := by
  have r1 : Rd .u8 S' w (.slice (some ⟨g, 0, none⟩) xs.length cap) xs := by
    have := hf.cut xs.length (by rw [spareL_length]; omega)
    simpa [spareL] using this
  have r2 : Rd .u8 S' w (.slice (some ⟨g, xs.length, none⟩) 4 (cap - xs.length)) [41, 42, 43, 44] := by
    have := hf.dropAt xs.length (by rw [spareL_length]; omega)
    simpa [spareL] using this
  obtain ⟨a, c, rfl, -, -, -⟩ := h.form
  have g1 : (xs.length : Int) ≤ cap := by omega
  have g2 : ¬ cap = xs.length := by omega
  have g3 : (xs.length : Int) ≤ (xs.length + 4 : Nat) := by omega
  have K1 := Kept.mk (same_any _ _ xs xs w r1 h hx hx)
  have hd : decide (xs = xs) = true := by simp
  rw [hd] at K1
  have K2 := Kept.mk (same_any _ _ [41, 42, 43, 44] [41, 42, 43, 44] (w.alloc (.cells (cellsK .u8 [41, 42, 43, 44]).toArray 5)) (r2.later ((Below.refl w.heap.size w).alloc (Nat.le_refl _) (.cells (cellsK .u8 [41, 42, 43, 44]).toArray 5)) (Nat.le_refl _)) (Rd.lit .u8 w [41, 42, 43, 44] 5 (by decide)) allB4 allB4)
  have hd2 : decide (([41, 42, 43, 44] : List Int) = [41, 42, 43, 44]) = true := by simp
  rw [hd2] at K2
  clear hf h r1 r2 hd hd2 hx
  go_enter Tryd.func15, Tryd.ntmps15
  go_wp2_with fail
  refine Calls.mono K1.out (fun e w1 hp => ?_)
  obtain ⟨rfl, rfl⟩ := hp
  go_wp2_with fail
  refine Calls.mono K2.out (fun e w2 hp => ?_)
  obtain ⟨rfl, rfl⟩ := hp
  go_wp2
  go_ret
  exact ⟨rfl, (Below.refl _ _).alloc (Nat.le_refl _) _⟩


/-- What is put out; nothing beside an error. -/
def outF (r : Rs (List Int)) : List Int :=
  match r with
  | .ok o _ => o
  | .bad _ => []
theorem afterI_own {w w' : World} {r : Rs (List Int)} {e : Ending} (h : AfterI w w' r e) :
    ∃ v n x, e = .returned (.tuple #[v, .int .i64 n, .int .i64 x]) ∧ Own .u8 5 w' w.heap.size v (outF r) ∧ AllB (outF r) ∧ (outF r).length ≤ 1048576 ∧ Below w.heap.size w w' := by
  unfold AfterI at h
  rcases r with ⟨o, t⟩ | er
  · obtain ⟨v, rfl, h1, h2, h3, h4⟩ := h
    exact ⟨v, _, _, rfl, h1, h2, h3, h4⟩
  · obtain ⟨rfl, h4⟩ := h
    exact ⟨_, _, _, rfl, Own.nil _ _ _ _, AllIn.nil, by simp [outF], h4⟩

/-- Two worlds that are alike but for what the cells of one block hold. -/
structure OnlyB (g : Nat) (W wr : World) : Prop where
  os : wr.os = W.os
  tape : wr.tape = W.tape
  output : wr.output = W.output
  size : wr.heap.size = W.heap.size
  block : ∀ k, k ≠ g → wr.heap[k]? = W.heap[k]?
  some : ∀ a, (W.cell? a).isSome = true → (wr.cell? a).isSome = true
  froz : ∀ a, wr.frozen? a = W.frozen? a
theorem OnlyB.refl (g : Nat) (W : World) : OnlyB g W W := ⟨rfl, rfl, rfl, rfl, fun _ _ => rfl, fun _ h => h, fun _ => rfl⟩
theorem OnlyB.set {g : Nat} {W wr : World} (h : OnlyB g W wr) (i : Nat) (u : Value) : OnlyB g W (wr.setCell ⟨g, i, none⟩ u) := by
  refine ⟨h.os, h.tape, h.output, by simpa [World.setCell] using h.size, fun k hk => ?_, fun p hp => ?_, fun p => by rw [World.frozen?_setCell]; exact h.froz p⟩
  · rw [Below.heap_setCell _ _ _ _ hk]
    exact h.block k hk
  · obtain ⟨x, hx⟩ := Option.isSome_iff_exists.1 (h.some p hp)
    obtain ⟨y, hy⟩ := cell?_setCell_some (w := wr) (p := ⟨g, i, none⟩) (x := u) (q := p) (v := x) hx
    rw [hy]
    rfl
theorem OnlyB.below {g b : Nat} {W wr : World} (h : OnlyB g W wr) (hb : b ≤ g) : Below b W wr := ⟨h.os, h.tape, h.output, by rw [h.size]; exact Nat.le_refl _, fun k hk => h.block k (by omega)⟩

/-- A slice of the call's own may be written. -/
theorem Own.wr {k : IntKind} {e : TypeId} {w W : World} {base : Nat} {a : Option Addr} {n c : Nat} {xs : List Int} (h : Own k e w base (.slice a n c) xs) (h0 : 0 < n) (hb : ∀ g, (Value.slice a n c).ownBlock = some g → W.heap[g]? = w.heap[g]?) :
    ∃ g, a = some ⟨g, 0, none⟩ ∧ base ≤ g ∧ g < w.heap.size ∧ ∀ i, i < n → (W.cell? ⟨g, i, none⟩).isSome = true ∧ W.frozen? ⟨g, i, none⟩ = false := by
  have hF := h.far hb
  have hlen : n = xs.length := by
    obtain ⟨a', c', hv, -⟩ := h.rd.form
    injection hv
  rcases hF.2 with ⟨hv, hn⟩ | ⟨g, cap, cur, hv, hbg, hg, hnc, hcm, hcs, htake⟩
  · omega
  · injection hv with h1 h2 h3
    subst h1
    refine ⟨g, rfl, hbg, (h.lt g rfl).2, fun i hi => ⟨?_, ?_⟩⟩
    · have hk := World.ownsRow.cells hF (g := g) rfl i (.int k (xs.getD i 0)) (by simp [cellsK, List.getElem?_eq_getElem (show i < xs.length by omega), List.getD])
      rw [add_plain, Nat.zero_add] at hk
      rw [hk]
      rfl
    · simp [World.frozen?, hg]

set_option maxHeartbeats 4000000 in
set_option maxRecDepth 100000 in
theorem memory_walk {S : Nat → Prop} (v : Value) (p : List Int) (w : World) (hT : Tab w) (hv : Rd .u8 S w v p) (hp : AllB p) :
    Calls Tryd.prog 7 #[v] w fun e w' => e = .returned (.bool true) ∧ Below w.heap.size w w' := by
  obtain ⟨va, pc, rfl, -, hlc, -⟩ := hv.form
  have KA := Kept.mk (awake_any w hT)
  have KT := Kept.mk hT
  have KP := Kept.mk hv
  have KAP := Kept.mk hp
  clear hT hv hp
  by_cases h1 : (4000 : Int) < (p.length : Int)
  · go_enter Tryd.func7, Tryd.ntmps7
    go_wp2_with fail
    refine Calls.mono KA.out (fun e w1 hp => ?_)
    obtain ⟨rfl, hb1⟩ := hp
    have KB1 := Kept.mk hb1
    clear hb1
    go_wp2
    all_goals
      go_ret
      exact ⟨rfl, KB1.out⟩
  · have hl4 : p.length ≤ 4000 := by omega
    go_enter Tryd.func7, Tryd.ntmps7
    go_wp2_with fail
    refine Calls.mono KA.out (fun e w1 hp => ?_)
    obtain ⟨rfl, hb1⟩ := hp
    have KB1 := Kept.mk hb1
    have K1 := Kept.mk (spare_any _ p w1 (KP.out.later hb1 (Nat.le_refl _)) hl4)
    clear hb1
    go_wp2_with fail
    refine Calls.mono K1.out (fun e w2 hp => ?_)
    obtain ⟨g, cap, rfl, hcap, hof, hb2⟩ := hp
    have hz1 := KB1.out.size
    have hz2 := hb2.size
    have hg := hof.lt g rfl
    have KB2 := Kept.mk (KB1.out.trans (hb2.mono hz1))
    have hrx : Rd .u8 (fun b => b = g) w2 (.slice (some ⟨g, 0, none⟩) p.length cap) p := by
      have := (hof.rd.weak (S' := fun b => b = g) (fun b _ e => by have e' : some g = some b := e; injection e' with e'; exact e'.symm)).cut p.length (by rw [spareL_length]; omega)
      simpa [spareL] using this
    have KRX := Kept.mk hrx
    have KOF := Kept.mk hof
    have K2 := Kept.mk (inflate_any _ p 60000 w2 (KT.out.far KB2.out) hrx KAP.out (by omega) (by omega))
    clear hrx hof hb2 K1
    go_wp2_with fail
    refine Calls.mono K2.out (fun e w3 hp => ?_)
    obtain ⟨a3, n3, x3, rfl, ho3, hA3, hl3, hb3⟩ := afterI_own hp
    have hz3 := hb3.size
    have KB3 := Kept.mk (KB2.out.trans (hb3.mono KB2.out.size))
    have KB23 := Kept.mk hb3
    have KO3 := Kept.mk ho3
    have KL3 := Kept.mk fun k hk => (ho3.lt k hk).2
    have K3 := Kept.mk (inflate_any _ p 60000 w3 (KT.out.far KB3.out) (KRX.out.later hb3 (Nat.le_refl _)) KAP.out (by omega) (by omega))
    clear ho3 hA3 hp hb3 K2
    go_wp2_with fail
    refine Calls.mono K3.out (fun e w4 hp => ?_)
    obtain ⟨b4, n4, x4, rfl, ho4, hA4, hl4b, hb4⟩ := afterI_own hp
    have hz4 := hb4.size
    have KB4 := Kept.mk (KB3.out.trans (hb4.mono KB3.out.size))
    have KB24 := Kept.mk (KB23.out.trans (hb4.mono KB23.out.size))
    have KO3b := Kept.mk (KO3.out.later hb4 (Nat.le_refl _))
    have KO4 := Kept.mk ho4
    have KA4 := Kept.mk hA4
    have K4 := Kept.mk (kept_any _ p g cap w4 (KP.out.later KB4.out (Nat.le_refl _)) KAP.out hcap (by have := KOF.out.rd.later KB24.out (Nat.le_refl _); exact this) hl4)
    clear ho4 hA4 hp hb4 K3 KO3
    go_wp2_with fail
    refine Calls.mono K4.out (fun e w5 hp => ?_)
    obtain ⟨rfl, hb5⟩ := hp
    have hz5 := hb5.size
    have KB5 := Kept.mk (KB4.out.trans (hb5.mono KB4.out.size))
    have KOF5 := Kept.mk (KOF.out.later (KB24.out.trans (hb5.mono KB24.out.size)) (Nat.le_refl _))
    have KO35 := Kept.mk (KO3b.out.later hb5 (Nat.le_refl _))
    have KO45 := Kept.mk (KO4.out.later hb5 (Nat.le_refl _))
    clear hb5 K4 KO3b KO4 KOF KRX KB24 KB23 KB4 KB3
    obtain ⟨aa, ac, rfl, -, -, -⟩ := KO35.out.rd.form
    obtain ⟨ba, bc, rfl, -, -, -⟩ := KO45.out.rd.form
    obtain ⟨la, hla⟩ : ∃ la, (outF (inflF p 60000)).length = la := ⟨_, rfl⟩
    rw [hla] at hl3 hl4b
    rw [hla]
    have KLA := Kept.mk hla
    have hw1 : ∀ i, i < p.length + 4 → (w5.cell? ⟨g, i, none⟩).isSome = true ∧ w5.frozen? ⟨g, i, none⟩ = false := by
      obtain ⟨g', hg', -, -, hc⟩ := KOF5.out.wr (W := w5) (by omega) (fun _ _ => rfl)
      injection hg' with hg'
      injection hg' with hg'
      subst hg'
      exact hc
    have KW1 := Kept.mk hw1
    clear hw1 hla
    go_wp2_with fail
    go_loopw [11, 44] (fun _ s44 wr => ∃ j : Nat, j ≤ p.length + 4 ∧ s44 = .int .i64 j ∧ OnlyB g w5 wr) (fun _ s44 _ => p.length + 4 - (intOf s44).toNat)
    case atStart => exact ⟨0, by omega, rfl, OnlyB.refl _ _⟩
    case round =>
      obtain ⟨j, hj, rfl, hO⟩ := hrel
      have KOB := Kept.mk hO
      clear hO
      by_cases hlt : j < p.length + 4
      · have hlti : (j : Int) < (p.length : Int) + 4 := by omega
        have hx1 : (j : Int) < (cap : Int) := by omega
        obtain ⟨y, hy⟩ := Option.isSome_iff_exists.1 (KOB.out.some _ (KW1.out j hlt).1)
        have hfz : wr.frozen? ⟨g, j, none⟩ = false := by rw [KOB.out.froz]; exact (KW1.out j hlt).2
        go_wp2
        go_roundw
        case rel => exact ⟨j + 1, by omega, by go_num, KOB.out.set j _⟩
        case measure => simp [intOf]; omega
      · have hlti : ¬ (j : Int) < (p.length : Int) + 4 := by omega
        have KB6 := Kept.mk (KB5.out.trans (KOB.out.below (b := w.heap.size) (by omega)))
        have hz6 := KOB.out.size
        have KO36 := Kept.mk (KO35.out.far (w' := wr) fun k hk => KOB.out.block k (by have := (KO35.out.lt k hk).1; omega))
        have KO46 := Kept.mk (KO45.out.far (w' := wr) fun k hk => KOB.out.block k (by have := (KO45.out.lt k hk).1; omega))
        rename World => W6
        clear hlt
        obtain ⟨ga, hga⟩ : ∃ ga : Nat, 0 < la → aa = some ⟨ga, 0, none⟩ ∧ w2.heap.size ≤ ga ∧ ga < w3.heap.size ∧ ∀ i, i < la → (W6.cell? ⟨ga, i, none⟩).isSome = true ∧ W6.frozen? ⟨ga, i, none⟩ = false := by
          by_cases h0 : 0 < la
          · have hh := KO36.out
            rw [KLA.out] at hh
            obtain ⟨g', hg', h2, -, hc⟩ := hh.wr (W := W6) h0 (fun _ _ => rfl)
            exact ⟨g', fun _ => ⟨hg', h2, KL3.out g' (by rw [hg']; rfl), hc⟩⟩
          · exact ⟨0, fun h => absurd h h0⟩
        have KGA := Kept.mk hga
        have KH6 := Kept.mk hz6
        clear hga hz6
        go_wp2_with fail
        clear hlti
        go_loopw [12, 53] (fun _ s53 wr => ∃ j : Nat, j ≤ la ∧ s53 = .int .i64 j ∧ OnlyB ga W6 wr ∧ (la = 0 → wr = W6)) (fun _ s53 _ => la - (intOf s53).toNat)
        case atStart => exact ⟨0, by omega, rfl, OnlyB.refl _ _, fun _ => rfl⟩
        case round =>
          obtain ⟨j2, hj2, rfl, hO2, hz2w⟩ := hrel
          have KOB2 := Kept.mk hO2
          have KZ2 := Kept.mk hz2w
          clear hO2 hz2w
          by_cases hlt : j2 < la
          · have hlti : (j2 : Int) < (la : Int) := by omega
            obtain ⟨haa, hg2, hg3, hc2⟩ := KGA.out (by omega)
            obtain ⟨y, hy⟩ := Option.isSome_iff_exists.1 (KOB2.out.some _ (hc2 j2 hlt).1)
            have hfz : wr.frozen? ⟨ga, j2, none⟩ = false := by rw [KOB2.out.froz]; exact (hc2 j2 hlt).2
            subst haa
            clear hc2
            go_wp2
            go_roundw
            case rel => exact ⟨j2 + 1, by omega, by go_num, KOB2.out.set j2 _, fun e => by omega⟩
            case measure => simp [intOf]; omega
          · have hlti : ¬ (j2 : Int) < (la : Int) := by omega
            have hB7 : Below w.heap.size w wr := by
              by_cases h0 : la = 0
              · rw [KZ2.out h0]
                exact KB6.out
              · obtain ⟨-, hg2, -, -⟩ := KGA.out (by omega)
                exact KB6.out.trans (KOB2.out.below (b := w.heap.size) (by omega))
            have hO7 : Own .u8 5 wr w3.heap.size (.slice ba (outF (inflF p 60000)).length bc) (outF (inflF p 60000)) := by
              by_cases h0 : la = 0
              · rw [KZ2.out h0]
                exact KO46.out
              · obtain ⟨-, -, hg3, -⟩ := KGA.out (by omega)
                exact KO46.out.far fun k hk => KOB2.out.block k (by have := (KO46.out.lt k hk).1; omega)
            rw [KLA.out] at hO7
            have KB7 := Kept.mk hB7
            have KO7 := Kept.mk hO7
            have KD := Kept.mk (docInflate_any _ p 60000 wr (KP.out.later hB7 (Nat.le_refl _)) KAP.out (by omega) (by omega))
            clear hB7 hO7 hlt
            go_wp2_with fail
            refine Calls.mono KD.out (fun e w8 hp => ?_)
            obtain ⟨c8, n8, x8, rfl, ho8, -, -, hb8⟩ := afterI_own hp
            have KB8 := Kept.mk (KB7.out.trans (hb8.mono KB7.out.size))
            have CS := Kept.mk (same_any _ _ (outF (inflF p 60000)) (outF (inflF p 60000)) w8 (KO7.out.later hb8 (Nat.le_refl _)).rd ho8.rd KA4.out KA4.out)
            have hdec : decide (outF (inflF p 60000) = outF (inflF p 60000)) = true := by simp
            rw [hdec] at CS
            clear hb8 ho8 hp hdec KD
            go_wp2_with fail
            refine Calls.mono CS.out (fun e w9 hp => ?_)
            obtain ⟨rfl, hw9⟩ := hp
            subst hw9
            go_wp2
            go_ret
            exact ⟨rfl, KB8.out⟩
end Go.Proofs.YtjifhhafllegbaaDoor
