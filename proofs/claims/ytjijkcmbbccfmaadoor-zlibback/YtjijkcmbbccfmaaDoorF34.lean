/-
  The writer and the finder side by side.
-/
import Derived.Test.YtjijkcmbbccfmaaDoorF31
namespace Go.Proofs.YtjijkcmbbccfmaaDoor
open Go.RowKit Go.WideMaps

/-- The writer has the bits L, the finder has been told the places below t; their blocks lie apart. -/
def Bo (W0 w : World) (rb fb mb : Nat) (bb : Option Nat) (pv : Value) (p L : List Int) (t : Nat) : Prop :=
  ∃ (ob : Option Nat) (j : Nat), Wt W0 w rb ob L j ∧ L.length < 8 * j + 8 ∧ Fd W0 w fb mb bb pv p t ∧ rb ≠ fb ∧ rb ≠ mb ∧ bb ≠ some rb ∧ ob ≠ some fb ∧ ob ≠ some mb ∧ ∀ k, bb = some k → ob ≠ some k
section
variable {W0 w w' : World} {rb fb mb : Nat} {bb : Option Nat} {pv : Value} {p L L' : List Int} {t : Nat}
theorem Bo.bel (h : Bo W0 w rb fb mb bb pv p L t) : Below W0.heap.size W0 w := by
  obtain ⟨ob, j, h1, h2, h3, h4⟩ := h
  exact h1.bel
theorem Bo.later (h : Bo W0 w rb fb mb bb pv p L t) (hf : Below w.heap.size w w') : Bo W0 w' rb fb mb bb pv p L t := by
  obtain ⟨ob, j, h1, h2, h3, h4⟩ := h
  exact ⟨ob, j, h1.far hf, h2, h3.later hf, h4⟩
theorem Bo.write {f : FuncId} {args : Array Value} (h : Bo W0 w rb fb mb bb pv p L t) (hc : ∀ ob j, Wt W0 w rb ob L j → L.length < 8 * j + 8 → Calls Tryd.prog f args w fun e w' => AfterW W0 w w' rb ob L' e) :
    Calls Tryd.prog f args w fun e w' => e = .returned (.tuple #[]) ∧ Bo W0 w' rb fb mb bb pv p L' t := by
  obtain ⟨ob, j, h1, h2, h3, r1, r2, r3, r4, r5, r6⟩ := h
  refine (hc ob j h1 h2).mono fun e w' hp => ?_
  obtain ⟨rfl, ob', j', hW, hj, hM⟩ := hp
  have hlt := h3.lt
  refine ⟨rfl, ob', j', hW, hj, h3.far (hM.keep _ hlt.1 r1.symm (fun e => r4 e.symm)) (hM.keep _ hlt.2.1 r2.symm (fun e => r5 e.symm)) (fun k hk => hM.keep k (hlt.2.2 k hk).2 (fun e => r3 (by rw [hk, e])) (fun e => r6 k hk e.symm)) hW.bel, r1, r2, r3, ?_, ?_, ?_⟩
  · rcases hM.at_ with e | ⟨g, e, hg⟩
    · rw [e]; exact r4
    · rw [e]; intro e2; injection e2; omega
  · rcases hM.at_ with e | ⟨g, e, hg⟩
    · rw [e]; exact r5
    · rw [e]; intro e2; injection e2; omega
  · intro k hk
    rcases hM.at_ with e | ⟨g, e, hg⟩
    · rw [e]; exact r6 k hk
    · have := (hlt.2.2 k hk).2
      rw [e]; intro e2; injection e2; omega
theorem Bo.add (h : Bo W0 w rb fb mb bb pv p L t) (hp : Rd .u8 anyB W0 pv p) (ha : AllB p) (ht : t < p.length) (hl : p.length ≤ 1073741824) :
    Calls Tryd.prog 44 #[.pointer (some ⟨fb, 0, none⟩), .int .i64 t] w fun e w' => e = .returned (.tuple #[]) ∧ Bo W0 w' rb fb mb bb pv p L (t + 1) := by
  obtain ⟨ob, j, h1, h2, h3, r1, r2, r3, r4, r5, r6⟩ := h
  refine (add_any h3 hp ha ht hl).mono fun e w' hp => ?_
  obtain ⟨rfl, hF, hq⟩ := hp
  refine ⟨rfl, ob, j, ?_, h2, hF, r1, r2, r3, r4, r5, r6⟩
  obtain ⟨outV, hB, own, hob⟩ := h1.blk
  refine ⟨⟨outV, hB.far (hq.block _ hB.lt r2 (fun e => r3 e.symm)), own.far fun g hg => hq.block g (own.lt g hg).2 (fun e => r5 (by rw [← hob, hg, e])) (fun e => r6 g e.symm (by rw [← hob, hg])), hob⟩, h1.le, h1.ib, hF.bel, h1.hb, h1.ho, h1.lb⟩
theorem Bo.mat {i : Nat} (h : Bo W0 w rb fb mb bb pv p L i) (hp : Rd .u8 anyB W0 pv p) (ha : AllB p) (hi : i < p.length) (hl : p.length ≤ 1073741824) :
    Calls Tryd.prog 40 #[.pointer (some ⟨fb, 0, none⟩), .int .i64 i] w fun e w' => e = .returned (.tuple #[.int .i64 (mchF p i).1, .int .i64 (mchF p i).2]) ∧ Bo W0 w' rb fb mb bb pv p L i := by
  obtain ⟨ob, j, h1, h2, h3, h4⟩ := h
  exact (fmatch_any h3 (hp.later h3.bel (Nat.le_refl _)) ha hi hl).mono fun e w' hq => ⟨hq.1, ob, j, h1.far hq.2, h2, h3.later hq.2, h4⟩
theorem Bo.fin (h : Bo W0 w rb fb mb bb pv p L t) : Calls Tryd.prog 45 #[.pointer (some ⟨rb, 0, none⟩)] w fun e w' => ∃ v', e = .returned v' ∧ Own .u8 5 w' W0.heap.size v' (packF L) ∧ Below W0.heap.size W0 w' := by
  obtain ⟨ob, j, h1, h2, h3, h4⟩ := h
  exact end_any h1 h2
/-- The finder is made beside the writer. -/
theorem bo_new {ob : Option Nat} {j : Nat} (h : Wt W0 w rb ob L j) (hj : L.length < 8 * j + 8) (hp : Rd .u8 anyB W0 pv p) (hl : p.length ≤ 16777216) :
    Calls Tryd.prog 39 #[pv] w fun e w' => ∃ (fb mb : Nat) (bb : Option Nat), e = .returned (.pointer (some ⟨fb, 0, none⟩)) ∧ Bo W0 w' rb fb mb bb pv p L 0 := by
  refine (newFinder_any (W0 := W0) pv p w (hp.later h.bel (Nat.le_refl _)) hl h.bel).mono fun e w' hq => ?_
  obtain ⟨fb, mb, bb, rfl, hF, hb, h1, h2, h3⟩ := hq
  have hr := h.rb_lt
  have ho := h.ob_ge
  refine ⟨fb, mb, bb, rfl, ob, j, h.far hb, hj, hF, by omega, by omega, fun e => ?_, fun e => ?_, fun e => ?_, fun k hk e => ?_⟩
  · have := h3 _ e
    omega
  · have := ho _ e
    omega
  · have := ho _ e
    omega
  · have := ho _ e
    have := h3 _ hk
    omega
end
theorem wt_new (w : World) : Wt w (w.alloc (.cells #[.slice none 0 0, .int .u32 0, .int .i64 0] 59)) w.heap.size none [] 0 :=
  ⟨⟨.slice none 0 0, heap_alloc_new w _, Own.nil .u8 5 _ w.heap.size, rfl⟩, by simp, IsBits.nil, (Below.refl _ _).alloc (Nat.le_refl _) _, Nat.le_refl _, by simp, by simp⟩

open Go.RowKit Go.WideMaps

set_option maxHeartbeats 2000000 in
set_option maxRecDepth 100000 in
theorem fixedStream_any (pv : Value) (p : List Int) (w : World) (hp : Rd .u8 anyB w pv p) (ha : AllB p) (hl : p.length ≤ 16777216) :
    Calls Tryd.prog 24 #[pv] w fun e w' => ∃ v', e = .returned v' ∧ Own .u8 5 w' w.heap.size v' (packF (fixL p)) ∧ Below w.heap.size w w' := by
  obtain ⟨pa, pc, rfl, -, -, -⟩ := hp.form
  have hpl : (p.length : Int) ≤ 16777216 := by omega
  have KP := Kept.mk hp
  have KA := Kept.mk ha
  have K1 : Kept (Calls Tryd.prog 38 #[.pointer (some ⟨w.heap.size, 0, none⟩), .int .i64 1, .int .i64 1] (w.alloc (.cells #[.slice none 0 0, .int .u32 0, .int .i64 0] 59)) fun e w' => AfterW w (w.alloc (.cells #[.slice none 0 0, .int .u32 0, .int .i64 0] 59)) w' w.heap.size none ([] ++ bitsL 1 1) e) := ⟨wnumber_any 1 1 (by omega) (by omega) (by omega) (wt_new w) (by simp) (by simp)⟩
  have K2 : Kept (∀ w1 ob1 j1, Wt w w1 w.heap.size ob1 ([] ++ bitsL 1 1) j1 → ([] ++ bitsL 1 1 : List Int).length < 8 * j1 + 8 → Calls Tryd.prog 38 #[.pointer (some ⟨w.heap.size, 0, none⟩), .int .i64 1, .int .i64 2] w1 fun e w' => AfterW w w1 w' w.heap.size ob1 ([] ++ bitsL 1 1 ++ bitsL 1 2) e) := ⟨fun w1 ob1 j1 hB hj => wnumber_any 1 2 (by omega) (by omega) (by omega) hB hj (by simp [bitsL_length])⟩
  have KE0 : Kept (([] ++ bitsL 1 1 ++ bitsL 1 2 : List Int) = [1] ++ bitsL 1 2) := ⟨rfl⟩
  clear hp ha
  go_enter Tryd.func24, Tryd.ntmps24
  go_wp2_with (first | (go_at_call 38; refine Calls.mono K1.out (fun e w1 hp => ?_); obtain ⟨rfl, ob1, j1, hB1, hj1, hM1⟩ := hp; have K3 := Kept.mk (K2.out w1 ob1 j1 hB1 hj1); clear hB1 hj1 hM1 K1 K2) | (go_at_call 38; refine Calls.mono K3.out (fun e w2 hp => ?_); obtain ⟨rfl, ob2, j2, hB2, hj2, hM2⟩ := hp; have K4 := Kept.mk (bo_new hB2 hj2 KP.out hl); clear hB2 hj2 hM2) | (go_at_call 39; refine Calls.mono K4.out (fun e w3 hp => ?_); obtain ⟨fb, mb, bb, rfl, hB3⟩ := hp; rw [KE0.out] at hB3; have KB3 := Kept.mk hB3; clear hB3))
  clear K3 K4
  go_loopw [5] (fun iv wr => ∃ (i : Nat) (L : List Int), iv = .int .i64 i ∧ i ≤ p.length ∧ Bo w wr w.heap.size fb mb bb (.slice pa p.length pc) p L i ∧ L ++ tksL p i = [1] ++ bitsL 1 2 ++ tksL p 0 ∧ L.length ≤ 32 * i + 3) (fun iv _ => p.length - (intOf iv).toNat)
  case atStart => exact ⟨0, _, rfl, Nat.zero_le _, KB3.out, rfl, by simp [bitsL_length]⟩
  case round =>
    obtain ⟨i, L, rfl, hi, hB, he, hL⟩ := hrel
    by_cases hlt : i < p.length
    · have hlti : (i : Int) < (p.length : Int) := by omega
      have hd1 : decide ((i : Int) < (p.length : Int)) = true := by simp; omega
      have KMt := Kept.mk (hB.mat KP.out KA.out hlt (by omega))
      have hok := mchF_ok p i
      by_cases h0 : (mchF p i).1 = 0
      · have he2 := he
        rw [tksL_lit hlt h0, ← List.append_assoc] at he2
        have KE := Kept.mk he2
        obtain ⟨b, off, pc2, hs0, hbw, -, -, -, hcells⟩ := KP.out.open (by omega)
        simp only [Value.slice.injEq, true_and] at hs0
        obtain ⟨rfl, rfl⟩ := hs0
        have KC : Kept (∀ w2, Below w.heap.size w w2 → w2.cell? ⟨b, off + i, none⟩ = some (.int .u8 (p.getD i 0))) := ⟨fun w2 h2 => by rw [h2.cell (p := ⟨b, off + i, none⟩) hbw]; exact hcells i hlt⟩
        have hby := KA.out.getD (by omega) i
        rw [h0] at KMt
        have hsl := symL_length (p.getD i 0).toNat
        have KS : Kept (∀ w2, Bo w w2 w.heap.size fb mb bb (.slice (some ⟨b, off, none⟩) p.length pc) p L i → Calls Tryd.prog 43 #[.pointer (some ⟨w.heap.size, 0, none⟩), .int .i64 (p.getD i 0)] w2 fun e w' => e = .returned (.tuple #[]) ∧ Bo w w' w.heap.size fb mb bb (.slice (some ⟨b, off, none⟩) p.length pc) p (L ++ symL (p.getD i 0).toNat) i) := ⟨fun w2 h2 => h2.write fun ob j hW hj => by
          have h5 := wsymbol_any (p.getD i 0).toNat (by omega) hW hj (by omega)
          rw [Int.toNat_of_nonneg hby.1] at h5
          exact h5⟩
        clear hok hB he he2 hcells
        generalize p.getD i 0 = y at *
        generalize (mchF p i).2 = far at *
        go_wp2_with (first | (go_at_call 40; refine Calls.mono KMt.out (fun e w4 hp => ?_); obtain ⟨rfl, hB4⟩ := hp; have ci := KC.out w4 hB4.bel; have KS4 := Kept.mk (KS.out w4 hB4); clear hB4) | (go_at_call 43; refine Calls.mono KS4.out (fun e w9 hp => ?_); obtain ⟨rfl, hB9⟩ := hp; have KB9 := Kept.mk hB9; clear hB9))
        clear KS KS4 KMt KC
        go_loopw [5] (fun tv wr2 => ∃ t : Nat, tv = .int .i64 t ∧ i ≤ t ∧ t ≤ (i + 1) ∧ Bo w wr2 w.heap.size fb mb bb (.slice (some ⟨b, off, none⟩) p.length pc) p (L ++ symL y.toNat) t) (fun tv _ => (i + 1) - (intOf tv).toNat)
        case atStart => exact ⟨i, rfl, Nat.le_refl _, by omega, KB9.out⟩
        case round =>
          obtain ⟨t, rfl, ht1, ht2, hB5⟩ := hrel
          by_cases ht : t < (i + 1)
          · have hti : (t : Int) < (i : Int) + 1 := by omega
            have hdt : decide ((t : Int) < (i : Int) + 1) = true := by simp; omega
            have KAd := Kept.mk (hB5.add KP.out KA.out (by omega) (by omega))
            clear hB5
            go_wp2_with (go_at_call 44; refine Calls.mono KAd.out (fun e w6 hp => ?_); obtain ⟨rfl, hB6⟩ := hp; have KB6 := Kept.mk hB6; clear hB6)
            go_roundw
            case rel => exact ⟨t + 1, rfl, by omega, by omega, KB6.out⟩
            case measure => simp [intOf]; omega
          · have htE : t = (i + 1) := by omega
            have KB7 := Kept.mk hB5
            have hti : ¬ (t : Int) < (i : Int) + 1 := by omega
            have hdt : decide ((t : Int) < (i : Int) + 1) = false := by simp; omega
            clear hB5
            go_wp2
            go_roundw
            case rel => exact ⟨t, _, rfl, by omega, KB7.out, by rw [htE]; exact KE.out, by simp only [List.length_append]; omega⟩
            case measure => simp [intOf]; omega
      · rcases hok with hok | ⟨q1, q2, q3, q4, q5, q6, -⟩
        · rw [hok] at h0
          exact absurd rfl h0
        have he2 := he
        rw [tksL_match hlt h0, ← List.append_assoc, ← List.append_assoc] at he2
        obtain ⟨v, hv⟩ : ∃ v, (mchF p i).1 = v + 3 := ⟨(mchF p i).1 - 3, by omega⟩
        obtain ⟨d, hd⟩ : ∃ d, (mchF p i).2 = d + 1 := ⟨(mchF p i).2 - 1, by omega⟩
        rw [hv, hd] at KMt he2
        rw [hv] at q1 q2 q3
        rw [hd] at q4 q5 q6
        rw [Nat.add_sub_cancel, Nat.add_sub_cancel] at he2
        have hll := lenL_length (v := v) (by omega)
        have hdl := distL_length (v := d) (by omega)
        have KE := Kept.mk he2
        have KS : Kept (∀ w2, Bo w w2 w.heap.size fb mb bb (.slice pa p.length pc) p L i → Calls Tryd.prog 41 #[.pointer (some ⟨w.heap.size, 0, none⟩), .int .i64 ((v : Int) + 3)] w2 fun e w' => e = .returned (.tuple #[]) ∧ Bo w w' w.heap.size fb mb bb (.slice pa p.length pc) p (L ++ lenL v) i) := ⟨fun w2 h2 => h2.write fun ob j hW hj => wlength_any v (by omega) hW hj (by omega)⟩
        have KD : Kept (∀ w2, Bo w w2 w.heap.size fb mb bb (.slice pa p.length pc) p (L ++ lenL v) i → Calls Tryd.prog 42 #[.pointer (some ⟨w.heap.size, 0, none⟩), .int .i64 ((d : Int) + 1)] w2 fun e w' => e = .returned (.tuple #[]) ∧ Bo w w' w.heap.size fb mb bb (.slice pa p.length pc) p (L ++ lenL v ++ distL d) i) := ⟨fun w2 h2 => h2.write fun ob j hW hj => wdistance_any d (by omega) hW hj (by rw [List.length_append]; omega)⟩
        have hv1 : (v : Int) ≤ 255 := by omega
        have hd11 : (d : Int) ≤ 32767 := by omega
        have hv0 : (0 : Int) < (v : Int) + 3 := by omega
        have hvb : i + (v + 3) ≤ p.length := by omega
        clear hB he he2 h0 hv hd
        go_wp2_with (first | (go_at_call 40; refine Calls.mono KMt.out (fun e w4 hp => ?_); obtain ⟨rfl, hB4⟩ := hp; have KS4 := Kept.mk (KS.out w4 hB4); clear hB4) | (go_at_call 41; refine Calls.mono KS4.out (fun e w5 hp => ?_); obtain ⟨rfl, hB5⟩ := hp; have KD5 := Kept.mk (KD.out w5 hB5); clear hB5) | (go_at_call 42; refine Calls.mono KD5.out (fun e w9 hp => ?_); obtain ⟨rfl, hB9⟩ := hp; have KB9 := Kept.mk hB9; clear hB9))
        clear KS KS4 KD KD5 KMt
        go_loopw [5] (fun tv wr2 => ∃ t : Nat, tv = .int .i64 t ∧ i ≤ t ∧ t ≤ (i + (v + 3)) ∧ Bo w wr2 w.heap.size fb mb bb (.slice pa p.length pc) p (L ++ lenL v ++ distL d) t) (fun tv _ => (i + (v + 3)) - (intOf tv).toNat)
        case atStart => exact ⟨i, rfl, Nat.le_refl _, by omega, KB9.out⟩
        case round =>
          obtain ⟨t, rfl, ht1, ht2, hB5⟩ := hrel
          by_cases ht : t < (i + (v + 3))
          · have hti : (t : Int) < (i : Int) + ((v : Int) + 3) := by omega
            have hdt : decide ((t : Int) < (i : Int) + ((v : Int) + 3)) = true := by simp; omega
            have KAd := Kept.mk (hB5.add KP.out KA.out (by omega) (by omega))
            clear hB5
            go_wp2_with (go_at_call 44; refine Calls.mono KAd.out (fun e w6 hp => ?_); obtain ⟨rfl, hB6⟩ := hp; have KB6 := Kept.mk hB6; clear hB6)
            go_roundw
            case rel => exact ⟨t + 1, rfl, by omega, by omega, KB6.out⟩
            case measure => simp [intOf]; omega
          · have htE : t = (i + (v + 3)) := by omega
            have KB7 := Kept.mk hB5
            have hti : ¬ (t : Int) < (i : Int) + ((v : Int) + 3) := by omega
            have hdt : decide ((t : Int) < (i : Int) + ((v : Int) + 3)) = false := by simp; omega
            clear hB5
            go_wp2
            go_roundw
            case rel => exact ⟨t, _, rfl, by omega, KB7.out, by rw [htE]; exact KE.out, by simp only [List.length_append]; omega⟩
            case measure => simp [intOf]; omega
    · have hd1 : decide ((i : Int) < (p.length : Int)) = false := by simp; omega
      have hni : ¬ (i : Int) < (p.length : Int) := by omega
      rw [tksL_end (by omega), List.append_nil] at he
      have KE : Kept (L ++ symL 256 = fixL p) := ⟨by rw [he]; rfl⟩
      have KS := Kept.mk (hB.write fun ob j hW hj => wsymbol_any 256 (by omega) hW hj (by omega))
      clear hB he
      go_wp2_with (first | (go_at_call 43; refine Calls.mono KS.out (fun e w4 hp => ?_); obtain ⟨rfl, hB4⟩ := hp; have KN4 := Kept.mk hB4.fin; clear hB4) | (go_at_call 45; refine Calls.mono KN4.out (fun e w5 hp => ?_); obtain ⟨v5, rfl, ho5, hb5⟩ := hp; have KO5 := Kept.mk ho5; have KB5 := Kept.mk hb5; clear ho5 hb5))
      go_ret
      exact ⟨_, rfl, by rw [← KE.out]; exact KO5.out, KB5.out⟩

open Go.RowKit

theorem lenLen2_all : (List.range 256).all (fun v => decide ((lenL v).length + 18 ≤ 9 * (v + 3))) = true := by kernel_rfl
theorem lenL_bits (v : Nat) : IsBits (lenL v) := by
  unfold lenL
  split
  · exact symL_bits _
  · split
    · exact symL_bits _
    · exact (symL_bits _).append (isBits_bitsL _ _)
theorem distL_bits (v : Nat) : IsBits (distL v) := by
  unfold distL
  split
  · exact codeL_bits _ _
  · exact (codeL_bits _ _).append (isBits_bitsL _ _)
theorem tkF_facts (p : List Int) : ∀ (f i : Nat), IsBits (tkF p f i) ∧ (tkF p f i).length ≤ 9 * (p.length - i)
  | 0, _ => ⟨IsBits.nil, by simp [tkF]⟩
  | f + 1, i => by
    rw [tkF]
    by_cases hi : i < p.length
    · rw [if_pos hi]
      by_cases h0 : (mchF p i).1 = 0
      · rw [if_pos h0]
        have h := tkF_facts p f (i + 1)
        have hs := symL_length (p.getD i 0).toNat
        exact ⟨(symL_bits _).append h.1, by rw [List.length_append]; omega⟩
      · rw [if_neg h0]
        rcases mchF_ok p i with hok | ⟨q1, q2, q3, q4, q5, q6, -⟩
        · rw [hok] at h0
          exact absurd rfl h0
        · have h := tkF_facts p f (i + (mchF p i).1)
          have hd := distL_length (v := (mchF p i).2 - 1) (by omega)
          have hl := List.all_eq_true.1 lenLen2_all ((mchF p i).1 - 3) (by simp; omega)
          simp only [decide_eq_true_eq] at hl
          refine ⟨(lenL_bits _).append ((distL_bits _).append h.1), ?_⟩
          rw [List.length_append, List.length_append]
          omega
    · rw [if_neg hi]
      exact ⟨IsBits.nil, by simp⟩
theorem fixL_bits (p : List Int) : IsBits (fixL p) := by
  have h1 : IsBits [1] := fun b hb => Or.inr (by simpa using hb)
  unfold fixL
  exact ((h1.append (isBits_bitsL _ _)).append (tkF_facts p _ _).1).append (symL_bits _)
theorem fixL_len (p : List Int) : (fixL p).length ≤ 9 * p.length + 10 := by
  have h := (tkF_facts p p.length 0).2
  have h7 : (symL 256).length = 7 := rfl
  unfold fixL tksL
  simp only [List.length_append, bitsL_length, h7, List.length_cons, List.length_nil]
  omega
theorem fixP_all (p : List Int) : AllB (packF (fixL p)) := packF_all _ _ (Nat.le_refl _) (fixL_bits p)
theorem fixP_length (p : List Int) : (packF (fixL p)).length ≤ (9 * p.length + 17) / 8 := by
  have := fixL_len p
  rw [packF_len _ _ (Nat.le_refl _)]
  omega
theorem hdL_all {last : Int} {n : Nat} (h : last = 0 ∨ last = 1) : AllB (hdL last n) := by
  intro x hx
  unfold hdL at hx
  simp only [List.mem_cons, List.not_mem_nil, or_false] at hx
  rcases hx with rfl | rfl | rfl | rfl | rfl <;> omega
theorem stGo_all : ∀ (f : Nat) (p : List Int), AllB p → AllB (stGo f p)
  | 0, p, h => (hdL_all (Or.inr rfl)).append h
  | f + 1, p, h => by
    rw [stGo]
    split
    · exact ((hdL_all (Or.inl rfl)).append (h.take _)).append (stGo_all f _ (h.drop _))
    · exact (hdL_all (Or.inr rfl)).append h
theorem storedL_all {p : List Int} (h : AllB p) : AllB (storedL p) := stGo_all _ _ h
theorem dfF_all {p : List Int} (h : AllB p) (way : Int) : AllB (dfF p way) := by
  unfold dfF
  split
  · exact storedL_all h
  · split
    · exact storedL_all h
    · exact fixP_all p
theorem dflF_all {p : List Int} (h : AllB p) (way : Int) : AllB (dflF p way).1 := by
  unfold dflF
  split
  · exact AllIn.nil
  · split
    · exact AllIn.nil
    · exact dfF_all h way
theorem dfF_length {p : List Int} (hl : p.length ≤ 1048576) (way : Int) : (dfF p way).length ≤ 6 * p.length + 5 := by
  have h1 := storedL_length p.length p (Nat.le_refl _)
  have h2 := fixP_length p
  unfold dfF
  split
  · exact h1
  · split
    · exact h1
    · omega
theorem dflF_ok {p : List Int} {way : Int} (h0 : 0 ≤ way) (h2 : way ≤ 2) (hl : p.length ≤ 1048576) : dflF p way = (dfF p way, 0) := by
  unfold dflF
  rw [if_neg (by omega), if_neg (by omega)]

set_option maxHeartbeats 1000000 in
set_option maxRecDepth 100000 in
theorem deflate_any (pv : Value) (p : List Int) (way : Int) (w : World) (hp : Rd .u8 anyB w pv p) (ha : AllB p) :
    Calls Tryd.prog 9 #[pv, .int .i64 way] w fun e w' => ∃ v', e = .returned (.tuple #[v', .int .i64 (dflF p way).2]) ∧ Own .u8 5 w' w.heap.size v' (dflF p way).1 ∧ Below w.heap.size w w' := by
  obtain ⟨pa, pc, rfl, -, -, -⟩ := hp.form
  by_cases h1 : way < 0
  · have KE : Kept (dflF p way = ([], 1)) := ⟨by unfold dflF; rw [if_pos (Or.inl h1)]⟩
    clear hp
    go_enter Tryd.func9, Tryd.ntmps9
    go_wp2
    go_ret2
    rw [KE.out]
    exact ⟨_, rfl, Own.nil .u8 5 _ _, Below.refl _ _⟩
  · by_cases h2 : 2 < way
    · have KE : Kept (dflF p way = ([], 1)) := ⟨by unfold dflF; rw [if_pos (Or.inr h2)]⟩
      clear hp
      go_enter Tryd.func9, Tryd.ntmps9
      go_wp2
      go_ret2
      rw [KE.out]
      exact ⟨_, rfl, Own.nil .u8 5 _ _, Below.refl _ _⟩
    · by_cases h3 : 1048576 < p.length
      · have KE : Kept (dflF p way = ([], 2)) := ⟨by unfold dflF; rw [if_neg (by omega), if_pos h3]⟩
        have h3i : (1048576 : Int) < (p.length : Int) := by omega
        clear hp
        go_enter Tryd.func9, Tryd.ntmps9
        go_wp2
        go_ret2
        rw [KE.out]
        exact ⟨_, rfl, Own.nil .u8 5 _ _, Below.refl _ _⟩
      · have KE : Kept (dflF p way = (dfF p way, 0)) := ⟨by unfold dflF; rw [if_neg (by omega), if_neg h3]⟩
        have h3i : ¬ (1048576 : Int) < (p.length : Int) := by omega
        have KS := Kept.mk (storedStream_any _ p w hp (by omega))
        have KF : Kept (∀ w', Below w.heap.size w w' → Calls Tryd.prog 24 #[.slice pa p.length pc] w' fun e w2 => ∃ v', e = .returned v' ∧ Own .u8 5 w2 w'.heap.size v' (packF (fixL p)) ∧ Below w'.heap.size w' w2) := ⟨fun w' hb => fixedStream_any _ p w' (hp.later hb (Nat.le_refl _)) ha (by omega)⟩
        clear hp ha
        rcases (by omega : way = 0 ∨ way = 1 ∨ way = 2) with rfl | rfl | rfl
        · have KE2 : Kept (dfF p 0 = storedL p) := ⟨by unfold dfF; rw [if_pos rfl]⟩
          go_enter Tryd.func9, Tryd.ntmps9
          go_wp2_with (go_at_call 23; refine Calls.mono KS.out (fun e w1 hp => ?_); obtain ⟨v1, rfl, ho1, hb1⟩ := hp; have KO1 := Kept.mk ho1; have KB1 := Kept.mk hb1; clear ho1 hb1)
          go_ret2
          rw [KE.out]
          exact ⟨_, rfl, by rw [KE2.out]; exact KO1.out, KB1.out⟩
        · have KE2 : Kept (dfF p 1 = packF (fixL p)) := ⟨by unfold dfF; rw [if_neg (by omega), if_neg (fun e => by omega)]⟩
          have KF0 := Kept.mk (KF.out w (Below.refl _ _))
          go_enter Tryd.func9, Tryd.ntmps9
          go_wp2_with (go_at_call 24; refine Calls.mono KF0.out (fun e w1 hp => ?_); obtain ⟨v1, rfl, ho1, hb1⟩ := hp; have KO1 := Kept.mk ho1; have KB1 := Kept.mk hb1; clear ho1 hb1)
          go_ret2
          rw [KE.out]
          exact ⟨_, rfl, by rw [KE2.out]; exact KO1.out, KB1.out⟩
        · by_cases hc : (storedL p).length ≤ (packF (fixL p)).length
          · have KE2 : Kept (dfF p 2 = storedL p) := ⟨by unfold dfF; rw [if_neg (by omega), if_pos ⟨rfl, hc⟩]⟩
            have hci : ¬ ((packF (fixL p)).length : Int) < ((storedL p).length : Int) := by omega
            have hcn : ¬ (packF (fixL p)).length < (storedL p).length := by omega
            generalize packF (fixL p) = F at *
            generalize storedL p = S at *
            go_enter Tryd.func9, Tryd.ntmps9
            go_wp2_with (first | (go_at_call 23; refine Calls.mono KS.out (fun e w1 hp => ?_); obtain ⟨v1, rfl, ho1, hb1⟩ := hp; obtain ⟨a1, c1, rfl, -, -, -⟩ := ho1.rd.form; have KO1 := Kept.mk ho1; have KB1 := Kept.mk hb1; have KF1 := Kept.mk (KF.out w1 hb1); clear ho1 hb1) | (go_at_call 24; refine Calls.mono KF1.out (fun e w2 hp => ?_); obtain ⟨v2, rfl, ho2, hb2⟩ := hp; obtain ⟨a2, c2, rfl, -, -, -⟩ := ho2.rd.form; have KO2 := Kept.mk ho2; have KB2 := Kept.mk hb2; clear ho2 hb2))
            go_ret2
            rw [KE.out]
            exact ⟨_, rfl, by rw [KE2.out]; exact KO1.out.later KB2.out (Nat.le_refl _), KB1.out.trans (KB2.out.mono KB1.out.size)⟩
          · have KE2 : Kept (dfF p 2 = packF (fixL p)) := ⟨by unfold dfF; rw [if_neg (by omega), if_neg (fun e => hc e.2)]⟩
            have hci : ((packF (fixL p)).length : Int) < ((storedL p).length : Int) := by omega
            have hcn : (packF (fixL p)).length < (storedL p).length := by omega
            generalize packF (fixL p) = F at *
            generalize storedL p = S at *
            go_enter Tryd.func9, Tryd.ntmps9
            go_wp2_with (first | (go_at_call 23; refine Calls.mono KS.out (fun e w1 hp => ?_); obtain ⟨v1, rfl, ho1, hb1⟩ := hp; obtain ⟨a1, c1, rfl, -, -, -⟩ := ho1.rd.form; have KO1 := Kept.mk ho1; have KB1 := Kept.mk hb1; have KF1 := Kept.mk (KF.out w1 hb1); clear ho1 hb1) | (go_at_call 24; refine Calls.mono KF1.out (fun e w2 hp => ?_); obtain ⟨v2, rfl, ho2, hb2⟩ := hp; obtain ⟨a2, c2, rfl, -, -, -⟩ := ho2.rd.form; have KO2 := Kept.mk ho2; have KB2 := Kept.mk hb2; clear ho2 hb2))
            go_ret2
            rw [KE.out]
            exact ⟨_, rfl, by rw [KE2.out]; exact KO2.out.mono KB1.out.size, KB1.out.trans (KB2.out.mono KB1.out.size)⟩
end Go.Proofs.YtjijkcmbbccfmaaDoor
