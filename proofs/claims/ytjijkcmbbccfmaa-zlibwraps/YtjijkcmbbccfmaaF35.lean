/-
  Walks: fixedStream.
-/
import Derived.Test.YtjijkcmbbccfmaaF34
namespace Go.Proofs.Ytjijkcmbbccfmaa
open Go.RowKit Go.WideMaps

set_option maxHeartbeats 2000000 in
set_option maxRecDepth 100000 in
theorem fixedStream_any (pv : Value) (p : List Int) (w : World) (hp : Rd .u8 anyB w pv p) (ha : AllB p) (hl : p.length ≤ 16777216) :
    Calls Try.prog 15 #[pv] w fun e w' => ∃ v', e = .returned v' ∧ Own .u8 5 w' w.heap.size v' (packF (fixL p)) ∧ Below w.heap.size w w' := by
  obtain ⟨pa, pc, rfl, -, -, -⟩ := hp.form
  have hpl : (p.length : Int) ≤ 16777216 := by omega
  have KP := Kept.mk hp
  have KA := Kept.mk ha
  have K1 : Kept (Calls Try.prog 19 #[.pointer (some ⟨w.heap.size, 0, none⟩), .int .i64 1, .int .i64 1] (w.alloc (.cells #[.slice none 0 0, .int .u32 0, .int .i64 0] 36)) fun e w' => AfterW w (w.alloc (.cells #[.slice none 0 0, .int .u32 0, .int .i64 0] 36)) w' w.heap.size none ([] ++ bitsL 1 1) e) := ⟨wnumber_any 1 1 (by omega) (by omega) (by omega) (wt_new w) (by simp) (by simp)⟩
  have K2 : Kept (∀ w1 ob1 j1, Wt w w1 w.heap.size ob1 ([] ++ bitsL 1 1) j1 → ([] ++ bitsL 1 1 : List Int).length < 8 * j1 + 8 → Calls Try.prog 19 #[.pointer (some ⟨w.heap.size, 0, none⟩), .int .i64 1, .int .i64 2] w1 fun e w' => AfterW w w1 w' w.heap.size ob1 ([] ++ bitsL 1 1 ++ bitsL 1 2) e) := ⟨fun w1 ob1 j1 hB hj => wnumber_any 1 2 (by omega) (by omega) (by omega) hB hj (by simp [bitsL_length])⟩
  have KE0 : Kept (([] ++ bitsL 1 1 ++ bitsL 1 2 : List Int) = [1] ++ bitsL 1 2) := ⟨rfl⟩
  clear hp ha
  go_enter Try.func15, Try.ntmps15
  go_wp2_with (first | (go_at_call 19; refine Calls.mono K1.out (fun e w1 hp => ?_); obtain ⟨rfl, ob1, j1, hB1, hj1, hM1⟩ := hp; have K3 := Kept.mk (K2.out w1 ob1 j1 hB1 hj1); clear hB1 hj1 hM1 K1 K2) | (go_at_call 19; refine Calls.mono K3.out (fun e w2 hp => ?_); obtain ⟨rfl, ob2, j2, hB2, hj2, hM2⟩ := hp; have K4 := Kept.mk (bo_new hB2 hj2 KP.out hl); clear hB2 hj2 hM2) | (go_at_call 20; refine Calls.mono K4.out (fun e w3 hp => ?_); obtain ⟨fb, mb, bb, rfl, hB3⟩ := hp; rw [KE0.out] at hB3; have KB3 := Kept.mk hB3; clear hB3))
  clear K3 K4
  go_loopw [5] (fun iv wr => ∃ (i : Nat) (L : List Int), iv = .int .i64 i ∧ i ≤ p.length ∧ Bo w wr w.heap.size fb mb bb (.slice pa p.length pc) p L i ∧ L ++ tksL p i = [1] ++ bitsL 1 2 ++ tksL p 0 ∧ L.length ≤ 32 * i + 3) (fun iv _ => p.length - (intOf iv).toNat)
  case atStart => exact ⟨0, _, rfl, Nat.zero_le _, KB3.out, rfl, by simp [bitsL_length]⟩
  case round =>
    obtain ⟨i, L, rfl, hi, hB, he, hL⟩ := hrel
    by_cases hlt : i < p.length
    · have hlti : (i : Int) < (p.length : Int) := by omega
      have hd1 : decide ((i : Int) < (p.length : Int)) = true := by simp; omega
      have KMt := Kept.mk (hB.mat KP.out KA.out hlt (by omega))
      have hok := mchF_ok p i
      by_cases h0 : (mchF p i).1 = 0
      · have he2 := he
        rw [tksL_lit hlt h0, ← List.append_assoc] at he2
        have KE := Kept.mk he2
        obtain ⟨b, off, pc2, hs0, hbw, -, -, -, hcells⟩ := KP.out.open (by omega)
        simp only [Value.slice.injEq, true_and] at hs0
        obtain ⟨rfl, rfl⟩ := hs0
        have KC : Kept (∀ w2, Below w.heap.size w w2 → w2.cell? ⟨b, off + i, none⟩ = some (.int .u8 (p.getD i 0))) := ⟨fun w2 h2 => by rw [h2.cell (p := ⟨b, off + i, none⟩) hbw]; exact hcells i hlt⟩
        have hby := KA.out.getD (by omega) i
        rw [h0] at KMt
        have hsl := symL_length (p.getD i 0).toNat
        have KS : Kept (∀ w2, Bo w w2 w.heap.size fb mb bb (.slice (some ⟨b, off, none⟩) p.length pc) p L i → Calls Try.prog 24 #[.pointer (some ⟨w.heap.size, 0, none⟩), .int .i64 (p.getD i 0)] w2 fun e w' => e = .returned (.tuple #[]) ∧ Bo w w' w.heap.size fb mb bb (.slice (some ⟨b, off, none⟩) p.length pc) p (L ++ symL (p.getD i 0).toNat) i) := ⟨fun w2 h2 => h2.write fun ob j hW hj => by
          have h5 := wsymbol_any (p.getD i 0).toNat (by omega) hW hj (by omega)
          rw [Int.toNat_of_nonneg hby.1] at h5
          exact h5⟩
        clear hok hB he he2 hcells
        generalize p.getD i 0 = y at *
        generalize (mchF p i).2 = far at *
        go_wp2_with (first | (go_at_call 21; refine Calls.mono KMt.out (fun e w4 hp => ?_); obtain ⟨rfl, hB4⟩ := hp; have ci := KC.out w4 hB4.bel; have KS4 := Kept.mk (KS.out w4 hB4); clear hB4) | (go_at_call 24; refine Calls.mono KS4.out (fun e w9 hp => ?_); obtain ⟨rfl, hB9⟩ := hp; have KB9 := Kept.mk hB9; clear hB9))
        clear KS KS4 KMt KC
        go_loopw [5] (fun tv wr2 => ∃ t : Nat, tv = .int .i64 t ∧ i ≤ t ∧ t ≤ (i + 1) ∧ Bo w wr2 w.heap.size fb mb bb (.slice (some ⟨b, off, none⟩) p.length pc) p (L ++ symL y.toNat) t) (fun tv _ => (i + 1) - (intOf tv).toNat)
        case atStart => exact ⟨i, rfl, Nat.le_refl _, by omega, KB9.out⟩
        case round =>
          obtain ⟨t, rfl, ht1, ht2, hB5⟩ := hrel
          by_cases ht : t < (i + 1)
          · have hti : (t : Int) < (i : Int) + 1 := by omega
            have hdt : decide ((t : Int) < (i : Int) + 1) = true := by simp; omega
            have KAd := Kept.mk (hB5.add KP.out KA.out (by omega) (by omega))
            clear hB5
            go_wp2_with (go_at_call 25; refine Calls.mono KAd.out (fun e w6 hp => ?_); obtain ⟨rfl, hB6⟩ := hp; have KB6 := Kept.mk hB6; clear hB6)
            go_roundw
            case rel => exact ⟨t + 1, rfl, by omega, by omega, KB6.out⟩
            case measure => simp [intOf]; omega
          · have htE : t = (i + 1) := by omega
            have KB7 := Kept.mk hB5
            have hti : ¬ (t : Int) < (i : Int) + 1 := by omega
            have hdt : decide ((t : Int) < (i : Int) + 1) = false := by simp; omega
            clear hB5
            go_wp2
            go_roundw
            case rel => exact ⟨t, _, rfl, by omega, KB7.out, by rw [htE]; exact KE.out, by simp only [List.length_append]; omega⟩
            case measure => simp [intOf]; omega
      · rcases hok with hok | ⟨q1, q2, q3, q4, q5, q6, -⟩
        · rw [hok] at h0
          exact absurd rfl h0
        have he2 := he
        rw [tksL_match hlt h0, ← List.append_assoc, ← List.append_assoc] at he2
        obtain ⟨v, hv⟩ : ∃ v, (mchF p i).1 = v + 3 := ⟨(mchF p i).1 - 3, by omega⟩
        obtain ⟨d, hd⟩ : ∃ d, (mchF p i).2 = d + 1 := ⟨(mchF p i).2 - 1, by omega⟩
        rw [hv, hd] at KMt he2
        rw [hv] at q1 q2 q3
        rw [hd] at q4 q5 q6
        rw [Nat.add_sub_cancel, Nat.add_sub_cancel] at he2
        have hll := lenL_length (v := v) (by omega)
        have hdl := distL_length (v := d) (by omega)
        have KE := Kept.mk he2
        have KS : Kept (∀ w2, Bo w w2 w.heap.size fb mb bb (.slice pa p.length pc) p L i → Calls Try.prog 22 #[.pointer (some ⟨w.heap.size, 0, none⟩), .int .i64 ((v : Int) + 3)] w2 fun e w' => e = .returned (.tuple #[]) ∧ Bo w w' w.heap.size fb mb bb (.slice pa p.length pc) p (L ++ lenL v) i) := ⟨fun w2 h2 => h2.write fun ob j hW hj => wlength_any v (by omega) hW hj (by omega)⟩
        have KD : Kept (∀ w2, Bo w w2 w.heap.size fb mb bb (.slice pa p.length pc) p (L ++ lenL v) i → Calls Try.prog 23 #[.pointer (some ⟨w.heap.size, 0, none⟩), .int .i64 ((d : Int) + 1)] w2 fun e w' => e = .returned (.tuple #[]) ∧ Bo w w' w.heap.size fb mb bb (.slice pa p.length pc) p (L ++ lenL v ++ distL d) i) := ⟨fun w2 h2 => h2.write fun ob j hW hj => wdistance_any d (by omega) hW hj (by rw [List.length_append]; omega)⟩
        have hv1 : (v : Int) ≤ 255 := by omega
        have hd11 : (d : Int) ≤ 32767 := by omega
        have hv0 : (0 : Int) < (v : Int) + 3 := by omega
        have hvb : i + (v + 3) ≤ p.length := by omega
        clear hB he he2 h0 hv hd
        go_wp2_with (first | (go_at_call 21; refine Calls.mono KMt.out (fun e w4 hp => ?_); obtain ⟨rfl, hB4⟩ := hp; have KS4 := Kept.mk (KS.out w4 hB4); clear hB4) | (go_at_call 22; refine Calls.mono KS4.out (fun e w5 hp => ?_); obtain ⟨rfl, hB5⟩ := hp; have KD5 := Kept.mk (KD.out w5 hB5); clear hB5) | (go_at_call 23; refine Calls.mono KD5.out (fun e w9 hp => ?_); obtain ⟨rfl, hB9⟩ := hp; have KB9 := Kept.mk hB9; clear hB9))
        clear KS KS4 KD KD5 KMt
        go_loopw [5] (fun tv wr2 => ∃ t : Nat, tv = .int .i64 t ∧ i ≤ t ∧ t ≤ (i + (v + 3)) ∧ Bo w wr2 w.heap.size fb mb bb (.slice pa p.length pc) p (L ++ lenL v ++ distL d) t) (fun tv _ => (i + (v + 3)) - (intOf tv).toNat)
        case atStart => exact ⟨i, rfl, Nat.le_refl _, by omega, KB9.out⟩
        case round =>
          obtain ⟨t, rfl, ht1, ht2, hB5⟩ := hrel
          by_cases ht : t < (i + (v + 3))
          · have hti : (t : Int) < (i : Int) + ((v : Int) + 3) := by omega
            have hdt : decide ((t : Int) < (i : Int) + ((v : Int) + 3)) = true := by simp; omega
            have KAd := Kept.mk (hB5.add KP.out KA.out (by omega) (by omega))
            clear hB5
            go_wp2_with (go_at_call 25; refine Calls.mono KAd.out (fun e w6 hp => ?_); obtain ⟨rfl, hB6⟩ := hp; have KB6 := Kept.mk hB6; clear hB6)
            go_roundw
            case rel => exact ⟨t + 1, rfl, by omega, by omega, KB6.out⟩
            case measure => simp [intOf]; omega
          · have htE : t = (i + (v + 3)) := by omega
            have KB7 := Kept.mk hB5
            have hti : ¬ (t : Int) < (i : Int) + ((v : Int) + 3) := by omega
            have hdt : decide ((t : Int) < (i : Int) + ((v : Int) + 3)) = false := by simp; omega
            clear hB5
            go_wp2
            go_roundw
            case rel => exact ⟨t, _, rfl, by omega, KB7.out, by rw [htE]; exact KE.out, by simp only [List.length_append]; omega⟩
            case measure => simp [intOf]; omega
    · have hd1 : decide ((i : Int) < (p.length : Int)) = false := by simp; omega
      have hni : ¬ (i : Int) < (p.length : Int) := by omega
      rw [tksL_end (by omega), List.append_nil] at he
      have KE : Kept (L ++ symL 256 = fixL p) := ⟨by rw [he]; rfl⟩
      have KS := Kept.mk (hB.write fun ob j hW hj => wsymbol_any 256 (by omega) hW hj (by omega))
      clear hB he
      go_wp2_with (first | (go_at_call 24; refine Calls.mono KS.out (fun e w4 hp => ?_); obtain ⟨rfl, hB4⟩ := hp; have KN4 := Kept.mk hB4.fin; clear hB4) | (go_at_call 26; refine Calls.mono KN4.out (fun e w5 hp => ?_); obtain ⟨v5, rfl, ho5, hb5⟩ := hp; have KO5 := Kept.mk ho5; have KB5 := Kept.mk hb5; clear ho5 hb5))
      go_ret
      exact ⟨_, rfl, by rw [← KE.out]; exact KO5.out, KB5.out⟩
end Go.Proofs.Ytjijkcmbbccfmaa
