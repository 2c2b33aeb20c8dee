/-
  The walk of ZlibMemory.
-/
import Derived.Test.YtjijkcmbbccfmaaDoorZW
import Derived.Test.YtjijkcmbbccfmaaDoorZ4
import Derived.Test.YtjijkcmbbccfmaaDoorF40
namespace Go.Proofs.YtjijkcmbbccfmaaDoor
open Go.RowKit

def unO (r : Except Int (List Int × Nat)) : List Int := match r with
  | .ok (o, _) => o
  | .error _ => []
theorem unO_len (p : List Int) (M : Nat) : (unO (unF p M)).length ≤ M := by
  unfold unF
  split
  · simp [unO]
  · split
    · simp [unO]
    · rename_i o t ht
      have := inflF_len ht
      split
      · simp [unO]
      · exact this
theorem afterU_own {w w' : World} {r : Except Int (List Int × Nat)} {e : Ending} (h : AfterU w w' r e) : ∃ v n x, e = .returned (.tuple #[v, .int .i64 n, .int .i64 x]) ∧ Own .u8 5 w' w.heap.size v (unO r) ∧ AllB (unO r) ∧ Below w.heap.size w w' := by
  rcases r with c | ⟨o, n⟩
  · obtain ⟨h1, h2⟩ := h
    exact ⟨_, _, _, h1, Own.nil _ _ _ _, AllIn.nil, h2⟩
  · obtain ⟨v, h1, h2, h3, h4⟩ := h
    exact ⟨v, _, _, h1, h2, h3, h4⟩

set_option maxHeartbeats 8000000 in
set_option maxRecDepth 100000 in
theorem zmemory_walk (v : Value) (p : List Int) (w : World) (hT : Tab w) (h : Rd .u8 anyB w v p) (ha : AllB p) :
    Calls Tryd.prog 7 #[v] w fun e w' => e = .returned (.bool true) ∧ Below w.heap.size w w' := by
  have KW := Kept.mk (awake_any w)
  obtain ⟨va, vc, rfl, -, -, -⟩ := h.form
  have KH := Kept.mk h
  have KA := Kept.mk ha
  have KT := Kept.mk hT
  clear h ha hT
  by_cases h1 : 2000 < p.length
  · have h1o : decide ((2000 : Int) < (p.length : Int)) = true := by simp; omega
    have h1p : (2000 : Int) < (p.length : Int) := by omega
    clear h1
    go_enter Tryd.func7, Tryd.ntmps7
    go_wp2_with fail
    refine Calls.mono KW.out (fun e w1 hp => ?_)
    obtain ⟨rfl, hb1⟩ := hp
    have KB1 := Kept.mk hb1
    clear hb1
    go_wp2
    go_ret
    exact ⟨rfl, KB1.out⟩
  · have h1o : decide ((2000 : Int) < (p.length : Int)) = false := by simp; omega
    have h1p : ¬ (2000 : Int) < (p.length : Int) := by omega
    have hpl : p.length ≤ 2000 := by omega
    have hwz : wrpF p 2 = (wrF p 2, 0) := by
      unfold wrpF
      rw [dflF_ok (by omega) (by omega) (by omega)]
      rfl
    have KD : Kept (∀ v2 w2, Rd .u8 anyB w2 v2 p → Calls Tryd.prog 15 #[v2, .int .i64 2] w2 fun e w' => ∃ v', e = .returned (.tuple #[v', .int .i64 0]) ∧ Own .u8 5 w' w2.heap.size v' (wrF p 2) ∧ Below w2.heap.size w2 w') := ⟨fun v2 w2 h2 => by
      have d0 := wrap_any v2 p 2 w2 h2 KA.out
      rw [hwz] at d0
      exact d0⟩
    have KU : Kept (∀ v2 w2, Tab w2 → Rd .u8 anyB w2 v2 p → Calls Tryd.prog 16 #[v2, .int .i64 5000] w2 fun e w' => ∃ v n x, e = .returned (.tuple #[v, .int .i64 n, .int .i64 x]) ∧ Own .u8 5 w' w2.heap.size v (unO (unF p 5000)) ∧ AllB (unO (unF p 5000)) ∧ Below w2.heap.size w2 w') := ⟨fun v2 w2 hT2 h2 => (unwrap_any v2 p 5000 w2 hT2 h2 KA.out (by omega) (by omega)).mono fun e w' hq => afterU_own hq⟩
    have KF : Kept (∀ w', Below w.heap.size w w' → Calls Tryd.prog 22 #[.slice va p.length vc, .int .i64 2] w' fun e w2 => ∃ v', e = .returned v' ∧ Own .u8 5 w2 w'.heap.size v' (wrF p 2) ∧ Below w'.heap.size w' w2) := ⟨fun w' hb => rwrap_any _ p 2 w' (KH.out.later hb (Nat.le_refl _)) KA.out (by omega)⟩
    have KS : Kept (∀ w', Below w.heap.size w w' → Calls Tryd.prog 21 #[.slice va p.length vc, .int .i64 5000] w' fun e w2 => ∃ v n x, e = .returned (.tuple #[v, .int .i64 n, .int .i64 x]) ∧ Own .u8 5 w2 w'.heap.size v (unO (unF p 5000)) ∧ AllB (unO (unF p 5000)) ∧ Below w'.heap.size w' w2) := ⟨fun w' hb => (docUnwrap_any _ p 5000 w' (KH.out.later hb (Nat.le_refl _)) KA.out (by omega) (by omega)).mono fun e w' hq => afterU_own hq⟩
    have hFl : (wrF p 2).length ≤ 1048576 := by have := dfF_length (p := p) (by omega) 2; rw [wrF_length]; omega
    have hSl : (unO (unF p 5000)).length ≤ 1048576 := by have := unO_len p 5000; omega
    have KFa := Kept.mk (wrF_all KA.out 2)
    clear hwz
    generalize wrF p 2 = F at *
    generalize unO (unF p 5000) = S at *
    clear h1
    go_enter Tryd.func7, Tryd.ntmps7
    go_wp2_with fail
    refine Calls.mono KW.out (fun e w1 hp => ?_)
    obtain ⟨rfl, hb⟩ := hp
    have KB1 := Kept.mk hb
    have hz1 := hb.size
    have K1 := Kept.mk (spare_any _ p w1 (KH.out.later hb (Nat.le_refl _)) (by omega))
    clear hb
    go_wp2_with fail
    refine Calls.mono K1.out (fun e w2 hp => ?_)
    obtain ⟨g1, cap1, rfl, hcap1, ho, hb⟩ := hp
    have hz2 := hb.size
    have KB2 := Kept.mk (KB1.out.trans (hb.mono KB1.out.size))
    have Kfx := Kept.mk ho
    have Lfx := ho.lt g1 rfl
    have K1 := Kept.mk (KD.out _ w2 (own_cut Kfx.out))
    clear hb ho
    go_wp2_with fail
    refine Calls.mono K1.out (fun e w3 hp => ?_)
    obtain ⟨v3, rfl, ho, hb⟩ := hp
    have hz3 := hb.size
    have KB3 := Kept.mk (KB2.out.trans (hb.mono KB2.out.size))
    have Kfx := Kept.mk (Kfx.out.later hb (Nat.le_refl _))
    have Ka := Kept.mk ho
    have LKa := Kept.mk ho.lt
    obtain ⟨aa, ac, rfl, -, -, -⟩ := ho.rd.form
    have K1 := Kept.mk (KD.out _ w3 (own_cut Kfx.out))
    clear hb ho
    go_wp2_with fail
    refine Calls.mono K1.out (fun e w4 hp => ?_)
    obtain ⟨v4, rfl, ho, hb⟩ := hp
    have hz4 := hb.size
    have KB4 := Kept.mk (KB3.out.trans (hb.mono KB3.out.size))
    have Kfx := Kept.mk (Kfx.out.later hb (Nat.le_refl _))
    have Ka := Kept.mk (Ka.out.later hb (Nat.le_refl _))
    have Kb := Kept.mk ho
    have KbB0 := Kept.mk ho.lt
    obtain ⟨ba, bc, rfl, -, -, -⟩ := ho.rd.form
    have K1 := Kept.mk (KU.out _ w4 (KT.out.far KB4.out) (own_cut Kfx.out))
    clear hb ho
    go_wp2_with fail
    refine Calls.mono K1.out (fun e w5 hp => ?_)
    obtain ⟨v5, n5, x5, rfl, ho, hSa5, hb⟩ := hp
    have hz5 := hb.size
    have KB5 := Kept.mk (KB4.out.trans (hb.mono KB4.out.size))
    have Kfx := Kept.mk (Kfx.out.later hb (Nat.le_refl _))
    have Ka := Kept.mk (Ka.out.later hb (Nat.le_refl _))
    have Kb := Kept.mk (Kb.out.later hb (Nat.le_refl _))
    have Kc := Kept.mk ho
    have LKc := Kept.mk ho.lt
    obtain ⟨ca, cc, rfl, -, -, -⟩ := ho.rd.form
    have K1 := Kept.mk (KU.out _ w5 (KT.out.far KB5.out) (own_cut Kfx.out))
    clear hb ho
    go_wp2_with fail
    refine Calls.mono K1.out (fun e w6 hp => ?_)
    obtain ⟨v6, n6, x6, rfl, ho, hSa6, hb⟩ := hp
    have hz6 := hb.size
    have KB6 := Kept.mk (KB5.out.trans (hb.mono KB5.out.size))
    have Kfx := Kept.mk (Kfx.out.later hb (Nat.le_refl _))
    have Ka := Kept.mk (Ka.out.later hb (Nat.le_refl _))
    have Kb := Kept.mk (Kb.out.later hb (Nat.le_refl _))
    have Kc := Kept.mk (Kc.out.later hb (Nat.le_refl _))
    have Kd := Kept.mk ho
    obtain ⟨da, dc, rfl, -, -, -⟩ := ho.rd.form
    have K1 := Kept.mk (kept_any _ p g1 cap1 w6 (KH.out.later KB6.out (Nat.le_refl _)) KA.out hcap1 Kfx.out.rd (by omega))
    clear hb ho
    go_wp2_with fail
    refine Calls.mono K1.out (fun e w7 hp => ?_)
    obtain ⟨rfl, hb⟩ := hp
    have hz7 := hb.size
    have KB7 := Kept.mk (KB6.out.trans (hb.mono KB6.out.size))
    have Kfx := Kept.mk (Kfx.out.later hb (Nat.le_refl _))
    have Ka := Kept.mk (Ka.out.later hb (Nat.le_refl _))
    have Kb := Kept.mk (Kb.out.later hb (Nat.le_refl _))
    have Kc := Kept.mk (Kc.out.later hb (Nat.le_refl _))
    have Kd := Kept.mk (Kd.out.later hb (Nat.le_refl _))
    have KSa := Kept.mk hSa5
    clear hb K1
    have hzz := Kept.mk (And.intro hz1 (And.intro hz2 (And.intro hz3 (And.intro hz4 (And.intro hz5 (And.intro hz6 hz7))))))
    obtain ⟨zz1, zz2, zz3, zz4, zz5, zz6, zz7⟩ := hzz.out
    clear hz1 hz2 hz3 hz4 hz5 hz6 hz7
    have KbB : Kept (∀ q, (Value.slice ba F.length bc).ownBlock = some q → w3.heap.size ≤ q ∧ q < w4.heap.size) := ⟨fun q hq => KbB0.out q hq⟩
    clear KbB0
    have hwb : ∀ k, k < 3 → ∃ vk, (w7.alloc (.cells #[.slice (some ⟨g1, 0, none⟩) (p.length + 4) cap1, .slice aa F.length ac, .slice ca S.length cc] 22)).cell? ⟨w7.heap.size, k, none⟩ = some vk ∧ Wb (fun k => (w1.heap.size ≤ k ∧ k < w3.heap.size) ∨ (w4.heap.size ≤ k ∧ k < w5.heap.size)) (w7.alloc (.cells #[.slice (some ⟨g1, 0, none⟩) (p.length + 4) cap1, .slice aa F.length ac, .slice ca S.length cc] 22)) vk := by
      have hal : ∀ g, g < w7.heap.size → (w7.alloc (.cells #[.slice (some ⟨g1, 0, none⟩) (p.length + 4) cap1, .slice aa F.length ac, .slice ca S.length cc] 22)).heap[g]? = w7.heap[g]? := fun g hg => Below.heap_alloc w7 _ g hg
      intro k hk
      rcases (by omega : k = 0 ∨ k = 1 ∨ k = 2) with rfl | rfl | rfl
      · exact ⟨_, hdr_cell _ _ _ _ (by simp), Kfx.out.wb (by rw [spareL_length]; omega) (fun g hg => (show g1 = g by simpa [Value.ownBlock] using hg) ▸ ⟨hal _ (by omega), Or.inl ⟨by omega, by omega⟩⟩)⟩
      · exact ⟨_, hdr_cell _ _ _ _ (by simp), Ka.out.wb hFl (fun g hg => by have := LKa.out g hg; exact ⟨hal _ (by omega), Or.inl ⟨by omega, by omega⟩⟩)⟩
      · exact ⟨_, hdr_cell _ _ _ _ (by simp), Kc.out.wb hSl (fun g hg => by have := LKc.out g hg; exact ⟨hal _ (by omega), Or.inr ⟨by omega, by omega⟩⟩)⟩
    have hbW := (Below.refl w7.heap.size w7).alloc (Nat.le_refl _) (.cells #[.slice (some ⟨g1, 0, none⟩) (p.length + 4) cap1, .slice aa F.length ac, .slice ca S.length cc] 22)
    obtain ⟨W, hW⟩ : ∃ W, w7.alloc (.cells #[.slice (some ⟨g1, 0, none⟩) (p.length + 4) cap1, .slice aa F.length ac, .slice ca S.length cc] 22) = W := ⟨_, rfl⟩
    rw [hW] at hwb hbW
    have KWb := Kept.mk hwb
    have KbW := Kept.mk (Kb.out.later hbW (Nat.le_refl _))
    have KdW := Kept.mk (Kd.out.later hbW (Nat.le_refl _))
    have KBW := Kept.mk (KB7.out.trans (hbW.mono KB7.out.size))
    have hg1 : w.heap.size ≤ w1.heap.size := zz1
    clear hwb hbW Kfx Ka Kb Kc Kd
    go_wp2
    clear hW
    go_loopw [16, 17, 62] (fun _ _ s55 wr => ∃ k : Nat, k ≤ 3 ∧ s55 = .int .i64 k ∧ OnlyS (fun k => (w1.heap.size ≤ k ∧ k < w3.heap.size) ∨ (w4.heap.size ≤ k ∧ k < w5.heap.size)) W wr) (fun _ _ s55 _ => 3 - (intOf s55).toNat)
    case atStart => exact ⟨0, by omega, rfl, OnlyS.refl _ _⟩
    case round =>
      obtain ⟨k, hk, rfl, hO⟩ := hrel
      by_cases hk3 : k = 3
      · subst hk3
        simp only [show ((3 : Nat) : Int) = 3 from rfl]
        have hBr := KBW.out.trans (hO.below (b := w.heap.size) (fun q hq hG => by omega))
        have hbr := KbW.out.far (w' := wr) fun q hq => hO.block q (fun hG => by have := KbB.out q hq; omega)
        have hdr := KdW.out.far (w' := wr) fun q hq => hO.block q (fun hG => by have := (KdW.out.lt q hq).1; omega)
        have K1 := Kept.mk (KS.out wr hBr)
        have KBr := Kept.mk hBr
        have Kbr := Kept.mk hbr
        have Kdr := Kept.mk hdr
        clear hO hbr hdr hBr
        go_wp2_with fail
        refine Calls.mono K1.out (fun e w8 hp => ?_)
        obtain ⟨v8, n8, x8, rfl, ho, -, hb⟩ := hp
        have KB8 := Kept.mk (KBr.out.trans (hb.mono KBr.out.size))
        have Kdr := Kept.mk (Kdr.out.later hb (Nat.le_refl _))
        have Kbr := Kept.mk (Kbr.out.later hb (Nat.le_refl _))
        have Kf := Kept.mk ho
        have K1 := Kept.mk (KF.out w8 KB8.out)
        clear hb ho
        go_wp2_with fail
        refine Calls.mono K1.out (fun e w9 hp => ?_)
        obtain ⟨v9, rfl, ho, hb⟩ := hp
        have KB9 := Kept.mk (KB8.out.trans (hb.mono KB8.out.size))
        have K2 := same_any _ _ F F w9 (Kbr.out.later hb (Nat.le_refl _)).rd ho.rd KFa.out KFa.out
        rw [decide_eq_true rfl] at K2
        have K2 := Kept.mk K2
        have K3 := same_any _ _ S S w9 (Kdr.out.later hb (Nat.le_refl _)).rd (Kf.out.later hb (Nat.le_refl _)).rd KSa.out KSa.out
        rw [decide_eq_true rfl] at K3
        have K3 := Kept.mk K3
        clear hb ho
        go_wp2_with fail
        refine Calls.mono K2.out (fun e wx hp => ?_)
        obtain ⟨rfl, rfl⟩ := hp
        go_wp2_with fail
        refine Calls.mono K3.out (fun e wx hp => ?_)
        obtain ⟨rfl, rfl⟩ := hp
        go_wp2
        go_ret
        exact ⟨rfl, KB9.out⟩
      · have hko : decide ((k : Int) < 3) = true := by simp; omega
        have hki : (k : Int) < 3 := by omega
        obtain ⟨vk, hcell, a, n, c, rfl, hn, hwr⟩ := KWb.out k (by omega)
        have hck : wr.cell? ⟨w7.heap.size, k, none⟩ = some (.slice a n c) := by
          rw [World.cell?_of_block (w := W) (a := ⟨w7.heap.size, k, none⟩) (hO.block w7.heap.size (fun hG => by omega))]
          exact hcell
        have KO := Kept.mk hO
        have KWr := Kept.mk hwr
        clear hO hcell hwr hk3
        go_wp2
        go_loopw [17, 68] (fun _ s61 wq => ∃ j : Nat, j ≤ n ∧ s61 = .int .i64 j ∧ OnlyS (fun k => (w1.heap.size ≤ k ∧ k < w3.heap.size) ∨ (w4.heap.size ≤ k ∧ k < w5.heap.size)) W wq) (fun _ s61 _ => n - (intOf s61).toNat)
        case atStart => exact ⟨0, by omega, rfl, KO.out⟩
        case round =>
          obtain ⟨j, hj, rfl, hO2⟩ := hrel
          by_cases hjn : j < n
          · have hjo : decide (j < n) = true := by simp; omega
            have hji : (j : Int) < (n : Int) := by omega
            obtain ⟨gg, rfl, hG, hc⟩ := KWr.out (by omega)
            obtain ⟨y, hy⟩ := Option.isSome_iff_exists.1 (hO2.some _ (hc j hjn).1)
            have hfz : wr.frozen? ⟨gg, j, none⟩ = false := by rw [hO2.froz]; exact (hc j hjn).2
            have KO2 := Kept.mk hO2
            have KGg := Kept.mk hG
            clear hO2 hc hjn hG
            go_wp2
            exact ⟨⟨j + 1, by omega, rfl, KO2.out.set KGg.out j _⟩, by simp [intOf]; omega⟩
          · have hjo : decide (j < n) = false := by simp; omega
            have KO2 := Kept.mk hO2
            clear hO2 hjn
            go_wp2
            exact ⟨⟨k + 1, by omega, rfl, KO2.out⟩, by simp [intOf]; omega⟩
end Go.Proofs.YtjijkcmbbccfmaaDoor
