/-
  Walks: the finder's match.
-/
import Derived.Test.YtjijkcmbbccfmaaF31
namespace Go.Proofs.Ytjijkcmbbccfmaa
open Go.RowKit Go.WideMaps

set_option maxHeartbeats 2000000 in
set_option maxRecDepth 100000 in
theorem fmatch_any {W0 w : World} {fb mb : Nat} {bb : Option Nat} {pv : Value} {p : List Int} {i : Nat} (h : Fd W0 w fb mb bb pv p i) (hp : Rd .u8 anyB w pv p) (ha : AllB p) (hi : i < p.length) (hl : p.length ≤ 1073741824) :
    Calls Try.prog 21 #[.pointer (some ⟨fb, 0, none⟩), .int .i64 i] w fun e w' => e = .returned (.tuple #[.int .i64 (mchF p i).1, .int .i64 (mchF p i).2]) ∧ Below w.heap.size w w' := by
  obtain ⟨backV, bk, n, D, h1, h2, h3, h4, h5, h6, h7⟩ := h.blk
  obtain ⟨b, off, pc, rfl, hb, -, -, -, hcells⟩ := hp.open (by omega)
  obtain ⟨ba, bc, rfl, -, -, -⟩ := h5.rd.form
  obtain ⟨bg, rfl, hbl, hbg, hbglt, hbc, hbf⟩ := h5.addrq (by rw [h7.1]; omega)
  have hlt := h.lt.1
  have c0 : w.cell? ⟨fb, 0, none⟩ = some (.slice (some ⟨b, off, none⟩) p.length pc) := by simp [World.cell?, h1]
  have hpl : (p.length : Int) ≤ 1073741824 := by omega
  obtain ⟨F, hF⟩ : ∃ F, min 258 (p.length - i) = F := ⟨_, rfl⟩
  have hFi : (if (p.length : Int) - (i : Int) < 258 then (p.length : Int) - (i : Int) else 258) = (F : Int) := by split <;> omega
  have hF1 : F ≤ 258 := by omega
  have hF2 : i + F ≤ p.length := by omega
  by_cases h3F : F < 3
  · have KE : Kept (mchF p i = (0, 0)) := ⟨mchF_short (by omega)⟩
    have h3Fi : (F : Int) < 3 := by omega
    clear h h1 h2 h3 h4 h5 h6 h7 hp ha hbc hbf hcells
    go_enter Try.func21, Try.ntmps21
    go_wp2
    go_ret2
    rw [KE.out]
    exact ⟨rfl, Below.refl _ _⟩
  · have h3Fi : ¬ (F : Int) < 3 := by omega
    have hi3 : i + 3 ≤ p.length := by omega
    have KL := Kept.mk (lastLike_any i h hp ha hi3 hl)
    have h71 := h7.1
    have KB : Kept (∀ d, d < i → d + 3 ≤ p.length → w.cell? ⟨bg, d, none⟩ = some (.int .i64 ((lsF p d d : Int) - 1))) := ⟨fun d hd hd3 => by
      rw [hbc d (by rw [h71]; omega), h7.2 d hd hd3]⟩
    have c2 : w.cell? ⟨fb, 2, none⟩ = some (.slice (some ⟨bg, 0, none⟩) bk.length bc) := by simp [World.cell?, h1]
    have KC := Kept.mk (And.intro c0 (And.intro c2 hcells))
    have KP := Kept.mk hp
    have KS : Kept (∀ d, snF p i d = cmF p F i d) := ⟨fun d => by unfold snF; rw [hF]⟩
    have KM : Kept (∀ c best far : Nat, F ≤ best → mtF p i c best far = (best, far)) := ⟨fun c best far hb => mtF_most p i c best far (by omega)⟩
    clear h h1 h2 h3 h4 h5 h6 h7 hp ha hbc hbf hcells c2 hF
    go_enter Try.func21, Try.ntmps21
    go_upto_region 2 with fail
    clear hFi
    go_wp2_with (go_at_call 29; refine Calls.mono KL.out (fun e w1 hp => ?_); obtain ⟨rfl, hb1⟩ := hp; have KB1 := Kept.mk hb1; clear hb1)
    go_loopw [4, 5, 7] (fun bv fv jv wr => ∃ best far c : Nat, bv = .int .i64 best ∧ fv = .int .i64 far ∧ jv = .int .i64 ((c : Int) - 1) ∧ c ≤ i ∧ (∀ d, c = d + 1 → Lk p i d) ∧ best < F ∧ mtF p i c best far = mchF p i ∧ Below w.heap.size w wr) (fun _ _ jv _ => (intOf jv + 1).toNat)
    case atStart => exact ⟨0, 0, lsF p i i, rfl, rfl, rfl, lsF_le p i i, fun d hd => lsF_lk p i hd, by omega, mchF_start p i, KB1.out⟩
    case round =>
      obtain ⟨best, far, c, rfl, rfl, rfl, hc, hlk, hbest, he, hbel⟩ := hrel
      have KBel := Kept.mk hbel
      clear hbel
      by_cases h0 : c = 0
      · subst h0
        have KE : Kept (mchF p i = (best, far)) := ⟨by rw [← he, mtF]⟩
        clear he hlk
        go_wp2
        go_ret2
        rw [KE.out]
        exact ⟨rfl, KBel.out⟩
      · obtain ⟨d, rfl⟩ : ∃ d, c = d + 1 := ⟨c - 1, by omega⟩
        have hLk := hlk d rfl
        clear hlk
        rw [show ((d + 1 : Nat) : Int) - 1 = (d : Int) from by omega]
        have hdi : d < i := by omega
        have hd3 : d + 3 ≤ p.length := hLk.1
        have hdne : ¬ (d : Int) = -1 := by omega
        by_cases h3d : i - d ≤ 32768
        · have hd1 : decide ((i : Int) - (d : Int) ≤ 32768) = true := by simp; omega
          have hd1p : (i : Int) - (d : Int) ≤ 32768 := by omega
          obtain ⟨k0, k2, kc⟩ := KC.out
          have e0 : wr.cell? ⟨fb, 0, none⟩ = some (.slice (some ⟨b, off, none⟩) p.length pc) := by rw [KBel.out.cell (p := ⟨fb, 0, none⟩) hlt]; exact k0
          have e2 : wr.cell? ⟨fb, 2, none⟩ = some (.slice (some ⟨bg, 0, none⟩) bk.length bc) := by rw [KBel.out.cell (p := ⟨fb, 2, none⟩) hlt]; exact k2
          have ed : wr.cell? ⟨b, off + (d + best), none⟩ = some (.int .u8 (p.getD (d + best) 0)) := by rw [KBel.out.cell (p := ⟨b, off + (d + best), none⟩) hb]; exact kc (d + best) (by omega)
          have ei : wr.cell? ⟨b, off + (i + best), none⟩ = some (.int .u8 (p.getD (i + best) 0)) := by rw [KBel.out.cell (p := ⟨b, off + (i + best), none⟩) hb]; exact kc (i + best) (by omega)
          have eb : wr.cell? ⟨bg, d, none⟩ = some (.int .i64 ((lsF p d d : Int) - 1)) := by rw [KBel.out.cell (p := ⟨bg, d, none⟩) hbglt]; exact KB.out d hdi hd3
          have KCm : Kept (∀ m, Calls Try.prog 30 #[.pointer (some ⟨fb, 0, none⟩), .int .i64 d, .int .i64 i, .int .i64 F] (wr.drewN m) fun e w' => e = .returned (.int .i64 (snF p i d)) ∧ ∃ m', w' = (wr.drewN m).drewN m') := ⟨fun m => by
            rw [KS.out d]
            exact common_any fb _ p d i F (wr.drewN m) (KP.out.later (below_drewN KBel.out m) (Nat.le_refl _)) e0 hdi hF2 hl⟩
          clear k0 k2 kc
          have hwi : IntKind.i64.wrap ((i : Int) + (best : Int)) = (i : Int) + (best : Int) := by rw [IntKind.wrap_i64]; omega
          have hwd : IntKind.i64.wrap ((d : Int) + (best : Int)) = (d : Int) + (best : Int) := by rw [IntKind.wrap_i64]; omega
          have hx0 : (0 : Int) ≤ (i : Int) + (best : Int) := by omega
          have hy0 : (0 : Int) ≤ (d : Int) + (best : Int) := by omega
          have hii : (i : Int) + (best : Int) < (p.length : Int) := by omega
          have hdd : (d : Int) + (best : Int) < (p.length : Int) := by omega
          have hti : ((i : Int) + (best : Int)).toNat = i + best := by omega
          have htd : ((d : Int) + (best : Int)).toNat = d + best := by omega
          have hbk0 : (d : Int) < (bk.length : Int) := by omega
          have hls := lsF_le p d d
          have hlsk : Kept (∀ q, lsF p d d = q + 1 → Lk p i q) := ⟨fun q hq => by
            have := lsF_lk p d hq
            exact ⟨this.1, this.2.trans hLk.2⟩⟩
          by_cases heq : p.getD (d + best) 0 = p.getD (i + best) 0
          · have KW : Kept (snF p i d ≤ best → mtF p i (lsF p d d) best far = mchF p i) := ⟨fun hh => by rw [← he]; exact (mtF_worse hdi h3d hLk hh).symm⟩
            have KW2 : Kept (best < snF p i d → mtF p i (lsF p d d) (snF p i d) (i - d) = mchF p i) := ⟨fun hh => by rw [← he]; exact (mtF_better hdi h3d hi3 hLk hh).symm⟩
            have hsn : snF p i d ≤ F := by rw [KS.out d]; exact cmF_le p F i d
            rw [heq] at ed
            generalize p.getD (i + best) 0 = y at *
            generalize lsF p d d = q at *
            generalize snF p i d = s at *
            clear heq he hLk
            by_cases hsb : best < s
            · have hsbi : (best : Int) < (s : Int) := by omega
              by_cases hsF : s = F
              · subst hsF
                have KE : Kept (mchF p i = (s, i - d)) := ⟨by rw [← KW2.out hsb, KM.out _ _ _ (Nat.le_refl _)]⟩
                clear KW KW2
                go_upto_region 7 with fail
                go_quiet (fail)
                go_wp2_with (go_at_call 30; refine Calls.mono (KCm.out _) (fun e w2 hp => ?_); obtain ⟨rfl, m2, rfl⟩ := hp)
                go_ret2
                rw [KE.out]
                refine ⟨?_, below_drewN KBel.out _⟩
                have hid : ((i - d : Nat) : Int) = (i : Int) - (d : Int) := by omega
                rw [hid]
                rfl
              · have hsFi : ¬ (s : Int) = (F : Int) := by omega
                go_upto_region 7 with fail
                go_quiet (fail)
                go_wp2_with (go_at_call 30; refine Calls.mono (KCm.out _) (fun e w2 hp => ?_); obtain ⟨rfl, m2, rfl⟩ := hp)
                go_roundw
                case rel => exact ⟨s, i - d, q, rfl, by congr 1; omega, rfl, by omega, fun z hz => hlsk.out z hz, by omega, KW2.out hsb, below_drewN KBel.out _⟩
                case measure => simp [intOf]; omega
            · have hsbi : ¬ (best : Int) < (s : Int) := by omega
              have hbF : ¬ (best : Int) = (F : Int) := by omega
              go_upto_region 7 with fail
              go_quiet (fail)
              go_wp2_with (go_at_call 30; refine Calls.mono (KCm.out _) (fun e w2 hp => ?_); obtain ⟨rfl, m2, rfl⟩ := hp)
              go_roundw
              case rel => exact ⟨best, far, q, rfl, rfl, rfl, by omega, fun z hz => hlsk.out z hz, hbest, KW.out (by omega), below_drewN KBel.out _⟩
              case measure => simp [intOf]; omega
          · have KW : Kept (mtF p i (lsF p d d) best far = mchF p i) := ⟨by rw [← he]; exact (mtF_worse hdi h3d hLk (snF_ne heq)).symm⟩
            have hne : (p.getD (d + best) 0 == p.getD (i + best) 0) = false := by simpa using heq
            generalize p.getD (i + best) 0 = y at *
            generalize p.getD (d + best) 0 = x at *
            generalize lsF p d d = q at *
            clear he hLk KCm
            go_upto_region 7 with fail
            go_quiet (fail)
            go_wp2
            go_roundw
            case rel => exact ⟨best, far, q, rfl, rfl, rfl, by omega, fun z hz => hlsk.out z hz, hbest, KW.out, below_drewN KBel.out _⟩
            case measure => simp [intOf]; omega
        · have hd1 : decide ((i : Int) - (d : Int) ≤ 32768) = false := by simp; omega
          have hd1p : ¬ (i : Int) - (d : Int) ≤ 32768 := by omega
          have KE : Kept (mchF p i = (best, far)) := ⟨by rw [← he, mtF_far h3d]⟩
          clear he hLk
          go_wp2
          go_ret2
          rw [KE.out]
          exact ⟨rfl, KBel.out⟩
end Go.Proofs.Ytjijkcmbbccfmaa
