/-
  Walks: the document's Stored.
-/
import Derived.Test.YtjijkcmbbccfmaaF9
namespace Go.Proofs.Ytjijkcmbbccfmaa
open Go.RowKit

/-- The five bytes as the walk lays them. -/
abbrev rawO (last : Int) (n : Nat) : Obj := .cells #[.int .u8 last, .int .u8 ((n : Int) % 256), .int .u8 ((n : Int) / 256 % 256), .int .u8 (bits .xor .u8 IntKind.u8.max ((n : Int) % 256)), .int .u8 (bits .xor .u8 IntKind.u8.max ((n : Int) / 256 % 256))] 5
abbrev rawM : Obj := .cells #[.int .u8 0, .int .u8 255, .int .u8 255, .int .u8 (bits .xor .u8 IntKind.u8.max 255), .int .u8 (bits .xor .u8 IntKind.u8.max 255)] 5
theorem raw_rd (last : Int) (n : Nat) (w : World) : Rd .u8 anyB (w.alloc (rawO last n)) (.slice (some ⟨w.heap.size, 0, none⟩) 5 5) (hdL last n) := by
  have hn1 : bits .xor .u8 IntKind.u8.max ((n : Int) % 256) = 255 - (n : Int) % 256 := by
    have := not_u8 (n % 256) (by omega)
    rwa [show ((n % 256 : Nat) : Int) = (n : Int) % 256 from by omega] at this
  have hn2 : bits .xor .u8 IntKind.u8.max ((n : Int) / 256 % 256) = 255 - (n : Int) / 256 % 256 := by
    have := not_u8 (n / 256 % 256) (by omega)
    rwa [show ((n / 256 % 256 : Nat) : Int) = (n : Int) / 256 % 256 from by omega] at this
  unfold rawO
  rw [hn1, hn2]
  exact Rd.many .u8 w (hdL last n) 5 (by unfold maxLen hdL; simp)
theorem raw_rdM (w : World) : Rd .u8 anyB (w.alloc rawM) (.slice (some ⟨w.heap.size, 0, none⟩) 5 5) (hdL 0 65535) := raw_rd 0 65535 w

set_option maxHeartbeats 1000000 in
set_option maxRecDepth 100000 in
theorem dStored_any (pv : Value) (p : List Int) (w : World) (hp : Rd .u8 anyB w pv p) (hl : p.length ≤ 1073741824) :
    Calls Try.prog 27 #[pv] w fun e w' => ∃ v', e = .returned v' ∧ Own .u8 5 w' w.heap.size v' (storedL p) ∧ Below w.heap.size w w' := by
  obtain ⟨i0, z0, hi, hz, hs, hb, hc⟩ := info8
  have hp' : Rd .u8 (fun b => b < w.heap.size) w pv p := hp.weak fun b hb _ => hb
  have KP := Kept.mk hp'
  clear hp hp'
  go_enter Try.func27, Try.ntmps27
  go_wp2
  go_loopw [0, 3] (fun pu ov wr => ∃ q X, Rd .u8 (fun b => b < w.heap.size) wr pu q ∧ Own .u8 5 wr w.heap.size ov X ∧ X ++ storedL q = storedL p ∧ q.length ≤ p.length ∧ Below w.heap.size w wr) (fun pu _ _ => match pu with | .slice _ n _ => n | _ => 0)
  case atStart => exact ⟨p, [], KP.out, Own.nil .u8 5 w w.heap.size, by simp, Nat.le_refl _, Below.refl _ _⟩
  case round =>
    obtain ⟨q, X, hr, hX, he, hq, hbel⟩ := hrel
    obtain ⟨qa, qc, rfl, hqn, hqc, hqm⟩ := hr.form
    obtain ⟨oa, oc, rfl, -, -, -⟩ := hX.rd.form
    have hsl := storedL_length _ p (Nat.le_refl _)
    have hXl : X.length ≤ 6 * p.length + 5 := by
      rw [← he, List.length_append] at hsl
      omega
    have hwz := hbel.size
    by_cases h6 : 65535 < q.length
    · have h6i : (65535 : Int) ≤ (q.length : Int) := by omega
      have h6n : ¬ (65535 : Int) = (q.length : Int) := by omega
      have hmn : min (q.length : Int) 65535 = 65535 := by omega
      obtain ⟨b, off, qc2, hs0, -, -, -, -⟩ := hr.open (by omega)
      simp only [Value.slice.injEq, true_and] at hs0
      obtain ⟨rfl, rfl⟩ := hs0
      obtain ⟨a1, g1, hr1⟩ := hr.piece (i := 0) (j := 65535) (by omega) (by omega)
      obtain ⟨a2, g2, hr2⟩ := hr.piece (i := 65535) (j := q.length) (by omega) (Nat.le_refl _)
      have hq0 : q ≠ [] := by intro e; rw [e] at h6; simp at h6
      have ga1 : a1 = some ⟨b, off, none⟩ := (g1 b off rfl).elim id (fun e => absurd e hq0)
      have ga2 : a2 = some ⟨b, off + 65535, none⟩ := (g2 b off rfl).elim id (fun e => absurd e hq0)
      rw [ga1] at hr1
      rw [ga2] at hr2
      simp only [Nat.sub_zero, List.drop_zero] at hr1
      rw [List.take_length] at hr2
      have ht : (q.take 65535).length = 65535 := by simp; omega
      have KE : Kept (X ++ hdL 0 65535 ++ q.take 65535 ++ storedL (q.drop 65535) = storedL p) := ⟨by rw [← he, storedL_more h6]; simp only [List.append_assoc]⟩
      have KR1 := Kept.mk hr1
      have KR2 := Kept.mk hr2
      have KB := Kept.mk hbel
      have KX := Kept.mk hX
      have hc1 : (q.length : Int) ≤ (qc : Int) := by omega
      have hc2 : (65535 : Int) ≤ (qc : Int) := by omega
      clear hr hX he hbel hqm hr1 hr2 g1 g2 ga1 ga2
      have hl5 : (hdL 0 65535).length = 5 := rfl
      have KOa := Kept.mk (KX.out.alloc rawM)
      have KBa := Kept.mk ((Below.refl w.heap.size wr).alloc hwz rawM)
      have hr5 := Kept.mk (raw_rdM wr)
      have hl25 : Kept ((X ++ hdL 0 65535).length = X.length + 5) := ⟨by simp [hl5]⟩
      have KT : Kept ((q.take 65535).length = 65535) := ⟨ht⟩
      generalize hdL 0 65535 = D at *
      generalize hQ1 : q.take 65535 = Q1 at *
      have KQ1 := Kept.mk hQ1
      clear hQ1
      go_wp2_with (first | (at_builtin; refine wpList_append_rd _ rfl _ _ 22 rfl .u8 anyB 1 w.heap.size 5 i0 z0 Try.underlying22 hi hz hs hb hc (by omega) (.slice oa X.length oc) X rfl KOa.out _ D rfl hr5.out (by simp; omega) (by simp; omega) ?_; intro v2 w2 hown hgrow hat; obtain ⟨na, nc, rfl, -, hl2, hcm2⟩ := hown.rd.form; have KB2 := Kept.mk (KBa.out.grown hgrow (by simp; omega) (fun k hk => (KX.out.lt k hk).1)); have hbw2 := KB2.out.size; rw [hl25.out] at hown; have KO2 := Kept.mk hown; have KP2 : Kept (Rd .u8 anyB w2 (.slice (some ⟨b, off, none⟩) 65535 qc) Q1) := ⟨KR1.out.far KB2.out.size (fun b _ hb => ⟨trivial, KB2.out.block b hb⟩)⟩; clear hown hgrow hat hl2 hcm2) | (at_builtin; refine wpList_append_rd _ rfl _ _ 22 rfl .u8 anyB 1 w.heap.size 5 i0 z0 Try.underlying22 hi hz hs hb hc (by omega) (.slice na (X.length + 5) nc) (X ++ D) rfl KO2.out _ Q1 rfl KP2.out (by simp; omega) (by omega) ?_; intro v3 w3 hown3 hgrow3 hat3; have KB3 := Kept.mk (KB2.out.grown hgrow3 (by omega) (fun k hk => (KO2.out.lt k hk).1)); have KO3 := Kept.mk hown3; clear hown3 hgrow3 hat3))
      go_roundw
      case rel => exact ⟨q.drop 65535, X ++ D ++ Q1, KR2.out.far KB3.out.size (fun b _ hb => ⟨hb, KB3.out.block b hb⟩), KO3.out, KE.out, by simp; omega, KB.out.trans KB3.out⟩
      case measure => simp; omega
    · have h6i : (q.length : Int) ≤ 65535 := by omega
      have hmn : min (q.length : Int) 65535 = (q.length : Int) := by omega
      have KE : Kept (X ++ hdL 1 q.length ++ q = storedL p) := ⟨by rw [← he, storedL_last h6, List.append_assoc]⟩
      have KB := Kept.mk hbel
      have KX := Kept.mk hX
      have KR := Kept.mk hr
      clear hr hX he hbel hqm
      have hl5 : (hdL 1 q.length).length = 5 := rfl
      have KOa := Kept.mk (KX.out.alloc (rawO 1 q.length))
      have KBa := Kept.mk ((Below.refl w.heap.size wr).alloc hwz (rawO 1 q.length))
      have hr5 := Kept.mk (raw_rd 1 q.length wr)
      have hl25 : Kept ((X ++ hdL 1 q.length).length = X.length + 5) := ⟨by simp [hl5]⟩
      have hqci : (q.length : Int) ≤ (qc : Int) := by omega
      generalize hdL 1 q.length = D at *
      rcases qa with _ | ⟨ad⟩
      · obtain rfl := hqn rfl
        obtain rfl : q = [] := List.eq_nil_of_length_eq_zero (by omega)
        simp only [List.length_nil] at *
        go_wp2_with (first | (at_builtin; refine wpList_append_rd _ rfl _ _ 22 rfl .u8 anyB 1 w.heap.size 5 i0 z0 Try.underlying22 hi hz hs hb hc (by omega) (.slice oa X.length oc) X rfl KOa.out _ D rfl hr5.out (by simp; omega) (by simp; omega) ?_; intro v2 w2 hown hgrow hat; obtain ⟨na, nc, rfl, -, hl2, hcm2⟩ := hown.rd.form; have KB2 := Kept.mk (KBa.out.grown hgrow (by simp; omega) (fun k hk => (KX.out.lt k hk).1)); have hbw2 := KB2.out.size; rw [hl25.out] at hown; have KO2 := Kept.mk hown; have KP2 : Kept (Rd .u8 anyB w2 (.slice none 0 0) []) := ⟨KR.out.far KB2.out.size (fun b _ hb => ⟨trivial, KB2.out.block b hb⟩)⟩; clear hown hgrow hat hl2 hcm2) | (at_builtin; refine wpList_append_rd _ rfl _ _ 22 rfl .u8 anyB 1 w.heap.size 5 i0 z0 Try.underlying22 hi hz hs hb hc (by omega) (.slice na (X.length + 5) nc) (X ++ D) rfl KO2.out _ [] rfl KP2.out (by simp; omega) (by omega) ?_; intro v3 w3 hown3 hgrow3 hat3; have KB3 := Kept.mk (KB2.out.grown hgrow3 (by omega) (fun k hk => (KO2.out.lt k hk).1)); have KO3 := Kept.mk hown3; clear hown3 hgrow3 hat3))
        go_ret
        refine ⟨_, rfl, ?_, KB.out.trans KB3.out⟩
        rw [← KE.out]
        exact KO3.out
      · clear hqn
        have e256 : (q.length : Int) / 256 % 256 = (q.length : Int) / 256 := by omega
        unfold rawO at KOa KBa hr5
        rw [e256] at KOa KBa hr5
        clear e256
        go_wp2_with (first | (at_builtin; refine wpList_append_rd _ rfl _ _ 22 rfl .u8 anyB 1 w.heap.size 5 i0 z0 Try.underlying22 hi hz hs hb hc (by omega) (.slice oa X.length oc) X rfl KOa.out _ D rfl hr5.out (by simp; omega) (by simp; omega) ?_; intro v2 w2 hown hgrow hat; obtain ⟨na, nc, rfl, -, hl2, hcm2⟩ := hown.rd.form; have KB2 := Kept.mk (KBa.out.grown hgrow (by simp; omega) (fun k hk => (KX.out.lt k hk).1)); have hbw2 := KB2.out.size; rw [hl25.out] at hown; have KO2 := Kept.mk hown; have KP2 : Kept (Rd .u8 anyB w2 (.slice (some ad) q.length qc) q) := ⟨KR.out.far KB2.out.size (fun b _ hb => ⟨trivial, KB2.out.block b hb⟩)⟩; clear hown hgrow hat hl2 hcm2) | (at_builtin; refine wpList_append_rd _ rfl _ _ 22 rfl .u8 anyB 1 w.heap.size 5 i0 z0 Try.underlying22 hi hz hs hb hc (by omega) (.slice na (X.length + 5) nc) (X ++ D) rfl KO2.out _ q rfl KP2.out (by simp; omega) (by omega) ?_; intro v3 w3 hown3 hgrow3 hat3; have KB3 := Kept.mk (KB2.out.grown hgrow3 (by omega) (fun k hk => (KO2.out.lt k hk).1)); have KO3 := Kept.mk hown3; clear hown3 hgrow3 hat3))
        all_goals
          go_ret
          refine ⟨_, rfl, ?_, KB.out.trans KB3.out⟩
          rw [← KE.out]
          exact KO3.out
end Go.Proofs.Ytjijkcmbbccfmaa
