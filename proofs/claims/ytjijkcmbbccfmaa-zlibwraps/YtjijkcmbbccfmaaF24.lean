/-
  Walks: the document's Fixed.
-/
import Derived.Test.YtjijkcmbbccfmaaF23
namespace Go.Proofs.Ytjijkcmbbccfmaa
open Go.RowKit

theorem lenLen_all : (List.range 256).all (fun v => decide ((lenL v).length ≤ 14)) = true := by kernel_rfl
theorem lenL_length {v : Nat} (h : v ≤ 255) : (lenL v).length ≤ 14 := by
  have := List.all_eq_true.1 lenLen_all v (by simp; omega)
  simpa using this
theorem distL_length {v : Nat} (h : v < 32768) : (distL v).length ≤ 18 := by
  have g3 := lenN_small (x := v) (k := 15) (by omega)
  unfold distL
  split
  · rw [codeL_length]; omega
  · rw [List.length_append, codeL_length, bitsL_length]; omega

set_option maxHeartbeats 1000000 in
set_option maxRecDepth 100000 in
theorem dFixed_any (pv : Value) (p : List Int) (w : World) (hp : Rd .u8 anyB w pv p) (ha : AllB p) (hl : p.length ≤ 16777216) :
    Calls Try.prog 28 #[pv] w fun e w' => ∃ v', e = .returned v' ∧ Own .u8 5 w' w.heap.size v' (packF (fixL p)) ∧ Below w.heap.size w w' := by
  obtain ⟨pa, pc, rfl, -, -, -⟩ := hp.form
  have hpl : (p.length : Int) ≤ 16777216 := by omega
  have KP : Kept (∀ w', Below w.heap.size w w' → Rd .u8 anyB w' (.slice pa p.length pc) p) := ⟨fun w' hb => hp.later hb (Nat.le_refl _)⟩
  have KA := Kept.mk ha
  have hB0 : Bt w (w.alloc (.cells #[.slice none 0 0, .int .i64 0] 56)) w.heap.size none [] :=
    ⟨⟨.slice none 0 0, heap_alloc_new w _, Own.nil .u8 5 _ w.heap.size, rfl⟩, IsBits.nil, (Below.refl _ _).alloc (Nat.le_refl _) _, Nat.le_refl _, by simp, by simp⟩
  have K1 := Kept.mk (bit_any 1 (Or.inr rfl) hB0 (by simp))
  have K2 : Kept (∀ w1 ob1, Bt w w1 w.heap.size ob1 ([] ++ [1]) → Calls Try.prog 35 #[.pointer (some ⟨w.heap.size, 0, none⟩), .int .i64 1, .int .i64 2] w1 fun e w' => AfterB w w1 w' w.heap.size ob1 ([1] ++ bitsL 1 2) e) := ⟨fun w1 ob1 hB => dnumber4_any 1 2 (by omega) (by omega) hB (by simp)⟩
  clear hp ha hB0
  go_enter Try.func28, Try.ntmps28
  go_wp2_with (first | (go_at_call 34; refine Calls.mono K1.out (fun e w1 hp => ?_); obtain ⟨rfl, ob1, hB1, hM1⟩ := hp; have K3 := Kept.mk (K2.out w1 ob1 hB1); clear hB1 hM1) | (go_at_call 35; refine Calls.mono K3.out (fun e w2 hp => ?_); obtain ⟨rfl, ob2, hB2, hM2⟩ := hp; have KB2 := Kept.mk hB2; clear hB2 hM2))
  go_loopw [4] (fun iv wr => ∃ (i : Nat) (ob : Option Nat) (L : List Int), iv = .int .i64 i ∧ i ≤ p.length ∧ Bt w wr w.heap.size ob L ∧ L ++ tksL p i = [1] ++ bitsL 1 2 ++ tksL p 0 ∧ L.length ≤ 32 * i + 3) (fun iv _ => p.length - (intOf iv).toNat)
  case atStart => exact ⟨0, ob2, _, rfl, Nat.zero_le _, KB2.out, rfl, by simp [bitsL_length]⟩
  case round =>
    obtain ⟨i, ob, L, rfl, hi, hB, he, hL⟩ := hrel
    have KB := Kept.mk hB
    by_cases hlt : i < p.length
    · have hlti : (i : Int) < (p.length : Int) := by omega
      have hd1 : decide ((i : Int) < (p.length : Int)) = true := by simp; omega
      have KMt := Kept.mk (dmatch_any _ p i wr (KP.out wr hB.bel) (by omega) (by omega))
      have hok := mchF_ok p i
      by_cases h0 : (mchF p i).1 = 0
      · have he2 := he
        rw [tksL_lit hlt h0, ← List.append_assoc] at he2
        have KE := Kept.mk he2
        obtain ⟨b, off, pc2, hs0, -, -, -, -, hcells⟩ := (KP.out wr hB.bel).open (by omega)
        simp only [Value.slice.injEq, true_and] at hs0
        obtain ⟨rfl, rfl⟩ := hs0
        have ci := hcells i hlt
        have hby := KA.out.getD (by omega) i
        rw [h0] at KMt
        have hsl := symL_length (p.getD i 0).toNat
        have KS : Kept (∀ m, Calls Try.prog 37 #[.pointer (some ⟨w.heap.size, 0, none⟩), .int .i64 (p.getD i 0)] (wr.drewN m) fun e w' => AfterB w (wr.drewN m) w' w.heap.size ob (L ++ symL (p.getD i 0).toNat) e) := ⟨fun m => by
          have h5 := dsymbol4_any (p.getD i 0).toNat (by omega) (KB.out.far (w' := wr.drewN m) ⟨rfl, rfl, rfl, Nat.le_refl _, fun _ _ => rfl⟩) (by omega)
          rw [Int.toNat_of_nonneg hby.1] at h5
          exact h5⟩
        clear hok hB he he2 hcells
        generalize p.getD i 0 = y at *
        generalize (mchF p i).2 = far at *
        go_wp2_with (first | (go_at_call 36; refine Calls.mono KMt.out (fun e w2 hp => ?_); obtain ⟨rfl, m, rfl⟩ := hp) | (go_at_call 37; refine Calls.mono (KS.out _) (fun e w3 hp => ?_); obtain ⟨rfl, ob3, hB3, hM3⟩ := hp; have KB3 := Kept.mk hB3; clear hB3 hM3))
        go_roundw
        case rel => exact ⟨i + 1, ob3, _, rfl, by omega, KB3.out, KE.out, by rw [List.length_append]; omega⟩
        case measure => simp [intOf]; omega
      · rcases hok with hok | ⟨q1, q2, q3, q4, q5, q6, -⟩
        · rw [hok] at h0
          exact absurd rfl h0
        have he2 := he
        rw [tksL_match hlt h0, ← List.append_assoc, ← List.append_assoc] at he2
        obtain ⟨v, hv⟩ : ∃ v, (mchF p i).1 = v + 3 := ⟨(mchF p i).1 - 3, by omega⟩
        obtain ⟨d, hd⟩ : ∃ d, (mchF p i).2 = d + 1 := ⟨(mchF p i).2 - 1, by omega⟩
        rw [hv, hd] at KMt he2
        rw [hv] at q1 q2 q3
        rw [hd] at q4 q5 q6
        rw [Nat.add_sub_cancel, Nat.add_sub_cancel] at he2
        have hll := lenL_length (v := v) (by omega)
        have hdl := distL_length (v := d) (by omega)
        have KE := Kept.mk he2
        have KS : Kept (∀ m, Calls Try.prog 38 #[.pointer (some ⟨w.heap.size, 0, none⟩), .int .i64 ((v : Int) + 3)] (wr.drewN m) fun e w' => AfterB w (wr.drewN m) w' w.heap.size ob (L ++ lenL v) e) := ⟨fun m => dlength4_any v (by omega) (KB.out.far (w' := wr.drewN m) ⟨rfl, rfl, rfl, Nat.le_refl _, fun _ _ => rfl⟩) (by omega)⟩
        have KD : Kept (∀ w1 ob1, Bt w w1 w.heap.size ob1 (L ++ lenL v) → Calls Try.prog 39 #[.pointer (some ⟨w.heap.size, 0, none⟩), .int .i64 ((d : Int) + 1)] w1 fun e w' => AfterB w w1 w' w.heap.size ob1 (L ++ lenL v ++ distL d) e) := ⟨fun w1 ob1 hW => ddistance4_any d (by omega) hW (by rw [List.length_append]; omega)⟩
        have hv1 : (v : Int) ≤ 255 := by omega
        have hd11 : (d : Int) ≤ 32767 := by omega
        have hv0 : ¬ (v : Int) + 3 = 0 := by omega
        clear hB he he2 h0 hv hd
        go_wp2_with (first | (go_at_call 36; refine Calls.mono KMt.out (fun e w2 hp => ?_); obtain ⟨rfl, m, rfl⟩ := hp) | (go_at_call 38; refine Calls.mono (KS.out _) (fun e w3 hp => ?_); obtain ⟨rfl, ob3, hB3, hM3⟩ := hp; have KD3 := Kept.mk (KD.out w3 ob3 hB3); clear hB3 hM3) | (go_at_call 39; refine Calls.mono KD3.out (fun e w4 hp => ?_); obtain ⟨rfl, ob4, hB4, hM4⟩ := hp; have KB4 := Kept.mk hB4; clear hB4 hM4))
        go_roundw
        case rel => exact ⟨i + (v + 3), ob4, _, by congr 1, by omega, KB4.out, KE.out, by simp only [List.length_append]; omega⟩
        case measure => simp [intOf]; omega
    · have hd1 : decide ((i : Int) < (p.length : Int)) = false := by simp; omega
      have hni : ¬ (i : Int) < (p.length : Int) := by omega
      rw [tksL_end (by omega), List.append_nil] at he
      have KE : Kept (L ++ symL 256 = fixL p) := ⟨by rw [he]; rfl⟩
      have KS := Kept.mk (dsymbol4_any 256 (by omega) hB (by omega))
      clear hB he
      go_wp2_with (go_at_call 37; refine Calls.mono KS.out (fun e w3 hp => ?_); obtain ⟨rfl, ob3, hB3, hM3⟩ := hp; obtain ⟨ov, hD3, ho3, -⟩ := hB3.blk; have c03 := hD3.c0; have KO3 := Kept.mk ho3; have KB3 := Kept.mk hB3.bel; clear hB3 hM3 hD3 ho3)
      go_ret
      exact ⟨_, rfl, by rw [← KE.out]; exact KO3.out, KB3.out⟩
end Go.Proofs.Ytjijkcmbbccfmaa
