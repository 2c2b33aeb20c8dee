/-
  Walks: storedStream.
-/
import Derived.Test.YtjijkcmbbccfmaaF8
namespace Go.Proofs.Ytjijkcmbbccfmaa
open Go.RowKit

/-- Blocks of way 0. -/
def stGo : Nat → List Int → List Int
  | 0, p => hdL 1 p.length ++ p
  | f + 1, p => if 65535 < p.length then hdL 0 65535 ++ p.take 65535 ++ stGo f (p.drop 65535) else hdL 1 p.length ++ p
theorem stGo_fuel : ∀ (f g : Nat) (p : List Int), p.length ≤ 65535 * f → p.length ≤ 65535 * g → stGo f p = stGo g p
  | 0, 0, _, _, _ => rfl
  | 0, g + 1, p, h, _ => by rw [stGo, stGo, if_neg (by omega)]
  | f + 1, 0, p, _, h => by rw [stGo, stGo, if_neg (by omega)]
  | f + 1, g + 1, p, h1, h2 => by
    rw [stGo, stGo]
    by_cases hp : 65535 < p.length
    · rw [if_pos hp, if_pos hp, stGo_fuel f g (p.drop 65535) (by simp; omega) (by simp; omega)]
    · rw [if_neg hp, if_neg hp]
def storedL (p : List Int) : List Int := stGo p.length p
theorem storedL_more {p : List Int} (h : 65535 < p.length) : storedL p = hdL 0 65535 ++ p.take 65535 ++ storedL (p.drop 65535) := by
  unfold storedL
  obtain ⟨f, hf⟩ : ∃ f, p.length = f + 1 := ⟨p.length - 1, by omega⟩
  have e : stGo p.length p = stGo (f + 1) p := by rw [hf]
  rw [e, stGo, if_pos h, stGo_fuel f (p.drop 65535).length _ (by simp; omega) (by simp; omega)]
theorem storedL_last {p : List Int} (h : ¬ 65535 < p.length) : storedL p = hdL 1 p.length ++ p := by
  unfold storedL
  by_cases h0 : p.length = 0
  · rw [h0, stGo, h0]
  · obtain ⟨f, hf⟩ : ∃ f, p.length = f + 1 := ⟨p.length - 1, by omega⟩
    have e : stGo p.length p = stGo (f + 1) p := by rw [hf]
    rw [e, stGo, if_neg h]
theorem storedL_length : ∀ (n : Nat) (p : List Int), p.length ≤ n → (storedL p).length ≤ 6 * p.length + 5
  | n, p, h => by
    by_cases hp : 65535 < p.length
    · have := storedL_length (n - 65535) (p.drop 65535) (by simp; omega)
      rw [storedL_more hp]
      simp only [List.length_append, List.length_take, List.length_drop] at this ⊢
      have h5 : (hdL 0 65535).length = 5 := rfl
      omega
    · rw [storedL_last hp, List.length_append]
      have h5 : (hdL 1 p.length).length = 5 := rfl
      omega
termination_by n _ => n
decreasing_by omega

set_option maxHeartbeats 1000000 in
set_option maxRecDepth 100000 in
theorem storedStream_any (pv : Value) (p : List Int) (w : World) (hp : Rd .u8 anyB w pv p) (hl : p.length ≤ 1073741824) :
    Calls Try.prog 14 #[pv] w fun e w' => ∃ v', e = .returned v' ∧ Own .u8 5 w' w.heap.size v' (storedL p) ∧ Below w.heap.size w w' := by
  have hp' : Rd .u8 (fun b => b < w.heap.size) w pv p := hp.weak fun b hb _ => hb
  have KP := Kept.mk hp'
  clear hp hp'
  go_enter Try.func14, Try.ntmps14
  go_wp2
  go_loopw [0, 3] (fun pu ov wr => ∃ q X, Rd .u8 (fun b => b < w.heap.size) wr pu q ∧ Own .u8 5 wr w.heap.size ov X ∧ X ++ storedL q = storedL p ∧ q.length ≤ p.length ∧ Below w.heap.size w wr) (fun pu _ _ => match pu with | .slice _ n _ => n | _ => 0)
  case atStart => exact ⟨p, [], KP.out, Own.nil .u8 5 w w.heap.size, by simp, Nat.le_refl _, Below.refl _ _⟩
  case round =>
    obtain ⟨q, X, hr, hX, he, hq, hbel⟩ := hrel
    obtain ⟨qa, qc, rfl, -, hqc, hqm⟩ := hr.form
    have hsl := storedL_length _ p (Nat.le_refl _)
    have hXl : X.length ≤ 6 * p.length + 5 := by
      rw [← he, List.length_append] at hsl
      omega
    have hwz := hbel.size
    by_cases h6 : 65535 < q.length
    · have h6i : (65535 : Int) < (q.length : Int) := by omega
      obtain ⟨b, off, qc2, hs0, -, -, -, -⟩ := hr.open (by omega)
      simp only [Value.slice.injEq, true_and] at hs0
      obtain ⟨rfl, rfl⟩ := hs0
      obtain ⟨a1, g1, hr1⟩ := hr.piece (i := 0) (j := 65535) (by omega) (by omega)
      obtain ⟨a2, g2, hr2⟩ := hr.piece (i := 65535) (j := q.length) (by omega) (Nat.le_refl _)
      have hq0 : q ≠ [] := by intro e; rw [e] at h6; simp at h6
      have ga1 : a1 = some ⟨b, off, none⟩ := (g1 b off rfl).elim id (fun e => absurd e hq0)
      have ga2 : a2 = some ⟨b, off + 65535, none⟩ := (g2 b off rfl).elim id (fun e => absurd e hq0)
      rw [ga1] at hr1
      rw [ga2] at hr2
      simp only [Nat.sub_zero, List.drop_zero] at hr1
      rw [List.take_length] at hr2
      have ht : (q.take 65535).length = 65535 := by simp; omega
      have KA := Kept.mk (appendStored_any _ _ X (q.take 65535) 0 wr w.heap.size hX hwz hr1 (by rw [ht]; omega))
      have KE : Kept (X ++ hdL 0 65535 ++ q.take 65535 ++ storedL (q.drop 65535) = storedL p) := ⟨by rw [← he, storedL_more h6]; simp only [List.append_assoc]⟩
      have KR2 := Kept.mk hr2
      have KB := Kept.mk hbel
      have hc1 : (q.length : Int) ≤ (qc : Int) := by omega
      have hc2 : (65535 : Int) ≤ (qc : Int) := by omega
      have hc3 : (65535 : Int) ≤ (q.length : Int) := by omega
      clear hr hX he hbel hqm hr1 hr2 g1 g2 ga1 ga2
      go_wp2_with (go_at_call 18; refine Calls.mono KA.out (fun e w2 hp => ?_); obtain ⟨v2, rfl, ho2, hb2⟩ := hp; have KO2 := Kept.mk ho2; have KB2 := Kept.mk hb2; clear ho2 hb2)
      go_roundw
      case rel =>
        refine ⟨q.drop 65535, X ++ hdL 0 65535 ++ q.take 65535, ?_, ?_, KE.out, by simp; omega, KB.out.trans KB2.out⟩
        · exact KR2.out.far KB2.out.size (fun b _ hb => ⟨hb, KB2.out.block b hb⟩)
        · have := KO2.out
          rw [ht] at this
          exact this
      case measure => simp; omega
    · have h6i : ¬ (65535 : Int) < (q.length : Int) := by omega
      have KA := Kept.mk (appendStored_any _ _ X q 1 wr w.heap.size hX hwz hr (by omega))
      have KE : Kept (X ++ hdL 1 q.length ++ q = storedL p) := ⟨by rw [← he, storedL_last h6, List.append_assoc]⟩
      have KB := Kept.mk hbel
      clear hr hX he hbel hqm
      go_wp2_with (go_at_call 18; refine Calls.mono KA.out (fun e w2 hp => ?_); obtain ⟨v2, rfl, ho2, hb2⟩ := hp; have KO2 := Kept.mk ho2; have KB2 := Kept.mk hb2; clear ho2 hb2)
      go_ret
      refine ⟨_, rfl, ?_, KB.out.trans KB2.out⟩
      rw [← KE.out]
      exact KO2.out
end Go.Proofs.Ytjijkcmbbccfmaa
