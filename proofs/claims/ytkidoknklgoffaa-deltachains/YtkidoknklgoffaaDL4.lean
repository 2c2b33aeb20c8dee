/-
  The walk of DeltaChains.
-/
import Derived.Test.YtkidoknklgoffaaDL1
import Derived.Deep.RegionHeld3
namespace Go.Proofs.Ytkidoknklgoffaa
open Go.RowKit

/-- A slice of slices of bytes that reads as rows. -/
def RdRows (w : World) (v : Value) (rows : List (List Int)) : Prop :=
  ∃ a c, v = .slice a rows.length c ∧ (0 < rows.length → ∃ b off, a = some ⟨b, off, none⟩ ∧ b < w.heap.size ∧ ∀ r, r < rows.length → ∃ va, w.cell? ⟨b, off + r, none⟩ = some va ∧ Rd .u8 anyB w va (rows.getD r []) ∧ AllB (rows.getD r []))

set_option maxHeartbeats 4000000 in
set_option maxRecDepth 100000 in
theorem chains_walk (v : Value) (rows : List (List Int)) (w : World) (h : RdRows w v rows) (hl : ∀ r, r < rows.length → (rows.getD r []).length + 4096 ≤ 140737488355328) :
    Calls Try.prog 6 #[v] w fun e w' => e = .returned (.bool true) ∧ Below w.heap.size w w' := by
  have KW := Kept.mk (awake_any w)
  obtain ⟨va, vc, rfl, hrows⟩ := h
  by_cases h1 : rows.length < 1
  · have h1o : decide ((rows.length : Int) < 1) = true := by simp; omega
    clear h1 hrows
    go_enter Try.func6, Try.ntmps6
    go_wp2_with fail
    refine Calls.mono KW.out (fun e w1 hp => ?_)
    obtain ⟨rfl, hb1⟩ := hp
    have KB1 := Kept.mk hb1
    clear hb1
    go_wp2
    go_ret
    exact ⟨rfl, KB1.out⟩
  · have h1o : decide ((rows.length : Int) < 1) = false := by simp; omega
    by_cases h2 : 12 < rows.length
    · have h2o : decide ((12 : Int) < (rows.length : Int)) = true := by simp; omega
      clear h1 h2 hrows
      go_enter Try.func6, Try.ntmps6
      go_wp2_with fail
      refine Calls.mono KW.out (fun e w1 hp => ?_)
      obtain ⟨rfl, hb1⟩ := hp
      have KB1 := Kept.mk hb1
      clear hb1
      go_wp2
      go_ret
      exact ⟨rfl, KB1.out⟩
    · have h2o : decide ((12 : Int) < (rows.length : Int)) = false := by simp; omega
      obtain ⟨b, off, rfl, hb, hr⟩ := hrows (by omega)
      have KR := Kept.mk hr
      have KL := Kept.mk hl
      have hn1 : 1 ≤ rows.length := by omega
      have hn12 : rows.length ≤ 12 := by omega
      clear h1 h2 hrows hr hl
      go_enter Try.func6, Try.ntmps6
      go_wp2_with fail
      refine Calls.mono KW.out (fun e w1 hp => ?_)
      obtain ⟨rfl, hb1⟩ := hp
      obtain ⟨r0, hc0, hr0, ha0⟩ := KR.out 0 (by omega)
      rw [← hb1.cell (p := ⟨b, off + 0, none⟩) hb, Nat.add_zero] at hc0
      have hlt0 : (0 : Int) < (rows.length : Int) := by omega
      have K2 := Kept.mk (twin_any _ _ w1 (hr0.later hb1 (Nat.le_refl _)) (by have := KL.out 0 (by omega); omega))
      have KB1 := Kept.mk hb1
      clear hb1 hr0 ha0
      go_wp2_with fail
      refine Calls.mono K2.out (fun e w2 hp => ?_)
      obtain ⟨v2, rfl, ho2, hb2⟩ := hp
      have KB2 := Kept.mk (KB1.out.trans (hb2.mono KB1.out.size))
      have KO2 := Kept.mk (ho2.mono KB1.out.size)
      clear hb2 ho2 K2 hc0 KB1
      go_wp2
      go_loopw [3, 4] (fun av iv wr => ∃ i : Nat, iv = .int .i64 ((i : Int) + 1) ∧ i + 1 ≤ rows.length ∧ Own .u8 5 wr w.heap.size av (rows.getD i []) ∧ Below w.heap.size w wr) (fun _ iv _ => rows.length - (intOf iv).toNat)
      case atStart => exact ⟨0, rfl, hn1, KO2.out, KB2.out⟩
      case round =>
        clear KB2 KO2
        obtain ⟨i, rfl, hi, hown, hbel⟩ := hrel
        have KO := Kept.mk hown
        have KB := Kept.mk hbel
        by_cases hend : i + 1 = rows.length
        · have heo : decide ((i : Int) + 1 < (rows.length : Int)) = false := by simp; omega
          clear hown hbel hend
          go_wp2
          go_ret
          exact ⟨rfl, KB.out⟩
        · have heo : decide ((i : Int) + 1 < (rows.length : Int)) = true := by simp; omega
          obtain ⟨vp, hcp, hrp, hap⟩ := KR.out i (by omega)
          obtain ⟨vi, hci, hri, hai⟩ := KR.out (i + 1) (by omega)
          rw [← hbel.cell (p := ⟨b, off + i, none⟩) hb] at hcp
          rw [← hbel.cell (p := ⟨b, off + (i + 1), none⟩) hb] at hci
          have hri2 := hri.later hbel (Nat.le_refl _)
          have hrp2 := hrp.later hbel (Nat.le_refl _)
          generalize rows.getD i [] = P at *
          generalize hN : rows.getD (i + 1) [] = N at *
          have KN := Kept.mk hN
          clear hN
          obtain ⟨pa, pc, rfl, -, -, -⟩ := hrp2.form
          obtain ⟨na, nc, rfl, -, -, -⟩ := hri2.form
          have hlt1 : (i : Int) + 1 < (rows.length : Int) := by omega
          have hlt0 : (i : Int) < (rows.length : Int) := by omega
          have KRi := Kept.mk hri
          have KRp := Kept.mk hrp
          have KAi := Kept.mk (And.intro hap hai)
          clear hri hrp hri2 hrp2 hap hai hown hbel
          by_cases h3 : 3000 < N.length
          · have h3o : decide ((3000 : Int) < (N.length : Int)) = true := by simp; omega
            clear h3 hend
            go_wp2
            go_ret
            exact ⟨rfl, KB.out⟩
          · have h3o : decide ((3000 : Int) < (N.length : Int)) = false := by simp; omega
            by_cases h4 : 3000 < P.length
            · have h4o : decide ((3000 : Int) < (P.length : Int)) = true := by simp; omega
              clear h3 h4 hend
              go_wp2
              go_ret
              exact ⟨rfl, KB.out⟩
            · have h4o : decide ((3000 : Int) < (P.length : Int)) = false := by simp; omega
              have hNl : N.length ≤ 3000 := by omega
              have hPl : P.length ≤ 3000 := by omega
              have KNP := Kept.mk (And.intro hNl hPl)
              have KCp : Kept (∀ w', Below w.heap.size w w' → w'.cell? ⟨b, off + i, none⟩ = some (.slice pa P.length pc)) := ⟨fun w' hw' => by rw [hw'.cell (p := ⟨b, off + i, none⟩) hb, ← KB.out.cell (p := ⟨b, off + i, none⟩) hb]; exact hcp⟩
              have KCi : Kept (∀ w', Below w.heap.size w w' → w'.cell? ⟨b, off + (i + 1), none⟩ = some (.slice na N.length nc)) := ⟨fun w' hw' => by rw [hw'.cell (p := ⟨b, off + (i + 1), none⟩) hb, ← KB.out.cell (p := ⟨b, off + (i + 1), none⟩) hb]; exact hci⟩
              have hB0 : Below w.heap.size w wr.drew := Below.drew KB.out
              have K3 := Kept.mk (twin_any _ _ wr.drew (KRp.out.later hB0 (Nat.le_refl _)) (by omega))
              have KO0 := Kept.mk (KO.out.later (w' := wr.drew) (Below.drew (Below.refl wr.heap.size wr)) (Nat.le_refl _))
              have KB0 := Kept.mk hB0
              have cp0 := KCp.out _ hB0
              have ci0 := KCi.out _ hB0
              clear h3 h4 hend hNl hPl hB0
              have hx0 : (0 : Int) ≤ (i : Int) := by omega
              have hx1 : (0 : Int) ≤ (i : Int) + 1 := by omega
              have hx2 : ((i : Int) + 1).toNat = i + 1 := by omega
              have hx3 : IntKind.i64.wrap ((i : Int) + 1 - 1) = (i : Int) := by rw [IntKind.wrap_i64]; omega
              have hx4 : IntKind.i64.wrap (i : Int) = (i : Int) := by rw [IntKind.wrap_i64]; omega
              go_upto_region 11 with fail
              go_region_held3 (fun w' => w'.cell? ⟨b, off + i, none⟩ = some (.slice pa P.length pc) ∧ w'.cell? ⟨b, off + (i + 1), none⟩ = some (.slice na N.length nc)) (exact ⟨by assumption, by assumption⟩) (first | (go_at_call 11; refine Calls.mono K3.out (fun e w3 hp => ?_); obtain ⟨v3, rfl, ho3, hb3⟩ := hp; have hB3 : Below w.heap.size w w3 := KB0.out.trans (hb3.mono KB0.out.size); have cp3 := KCp.out w3 hB3; have ci3 := KCi.out w3 hB3; have K4 := Kept.mk (twin_any _ _ w3 (KRi.out.later hB3 (Nat.le_refl _)) (by have := KNP.out; omega)); have KO3 := Kept.mk ho3; have KOa3 := Kept.mk (KO0.out.later hb3 (Nat.le_refl _)); have KB3 := Kept.mk hB3; clear ho3 hb3 hB3) | (go_at_call 11; refine Calls.mono K4.out (fun e w4 hp => ?_); obtain ⟨v4, rfl, ho4, hb4⟩ := hp; have hB4 : Below w.heap.size w w4 := KB3.out.trans (hb4.mono KB3.out.size); have cp4 := KCp.out w4 hB4; have ci4 := KCi.out w4 hB4; have K5 := Kept.mk (make_any _ _ P N w4 (KO3.out.later hb4 (Nat.le_refl _)).rd ho4.rd KAi.out.1 KAi.out.2 (by have := KNP.out; omega) (by have := KNP.out; omega)); have KOa4 := Kept.mk (KOa3.out.later hb4 (Nat.le_refl _)); have KB4 := Kept.mk hB4; clear ho4 hb4 hB4) | (go_at_call 16; refine Calls.mono K5.out (fun e w5 hp => ?_); obtain ⟨v5, I, rfl, ho5, hTl, hIl, hspx, hb5⟩ := hp; have hB5 : Below w.heap.size w w5 := KB4.out.trans (hb5.mono KB4.out.size); have cp5 := KCp.out w5 hB5; have ci5 := KCi.out w5 hB5))
              have hdl : (dlL P N I).length + 20 ≤ 140737488355328 := by
                have h1 := Nu.sizeL_length (P.length : Int)
                have h2 := Nu.sizeL_length (N.length : Int)
                have h3 := KNP.out
                unfold dlL
                simp only [List.length_append]
                omega
              have hOa5 := KOa4.out.later hb5 (Nat.le_refl _)
              have K6 := fun (wx : World) (hx : Below w5.heap.size w5 wx) => apply_any _ _ P (dlL P N I) N.length wx (hOa5.later hx (Nat.le_refl _)).rd (ho5.later hx (Nat.le_refl _)).rd KAi.out.1 (dlL_all (by have := KNP.out; omega) (by have := KNP.out; omega) hTl.1) hdl (by have := KNP.out; omega) (by have := KNP.out; omega)
              rw [appl_tl KAi.out.1 (by have := KNP.out; omega) (by have := KNP.out; omega) hTl N.length (Nat.le_refl _)] at K6
              have K6 := Kept.mk K6
              have KB5 := Kept.mk hB5
              clear ho5 hTl hIl hb5 hB5 hdl hspx hOa5 K5 KOa4 K3 K4 KO3 KOa3 cp0 ci0 cp3 ci3 cp4 ci4
              go_wp2_with fail
              refine Calls.mono (K6.out w5 (Below.refl _ _)) (fun e w6 hp => ?_)
              obtain ⟨v6, rfl, ho6, ha6, -, hb6⟩ := hp
              have hB6 : Below w.heap.size w w6 := KB5.out.trans (hb6.mono KB5.out.size)
              have ci6 := KCi.out w6 hB6
              have K7 := same_any _ _ _ _ w6 ho6.rd (KRi.out.later hB6 (Nat.le_refl _)) ha6 KAi.out.2
              rw [decide_eq_true rfl] at K7
              have K7 := Kept.mk K7
              have KB6 := Kept.mk hB6
              have KO6 := Kept.mk (ho6.mono KB5.out.size)
              clear ho6 ha6 hb6 hB6 K6 ci5 cp5
              go_wp2_with fail
              refine Calls.mono K7.out (fun e w7 hp => ?_)
              obtain ⟨rfl, rfl⟩ := hp
              go_wp2
              exact ⟨⟨i + 1, rfl, by omega, by rw [KN.out]; exact KO6.out, KB6.out⟩, by simp [intOf]; omega⟩
end Go.Proofs.Ytkidoknklgoffaa
