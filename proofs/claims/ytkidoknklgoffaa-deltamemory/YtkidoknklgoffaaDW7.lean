/-
  Walks: appendInserts.
-/
import Derived.Test.YtkidoknklgoffaaDW6
namespace Go.Proofs.Ytkidoknklgoffaa
open Go.RowKit

/-- The inserts of some bytes. -/
def insG : Nat → List Int → List Int
  | 0, _ => []
  | f + 1, p => if p = [] then [] else ((min p.length 127 : Nat) : Int) :: p.take (min p.length 127) ++ insG f (p.drop (min p.length 127))
def insL (p : List Int) : List Int := insG p.length p
theorem insG_fuel : ∀ (f g : Nat) (p : List Int), p.length ≤ f → p.length ≤ g → insG f p = insG g p
  | 0, 0, _, _, _ => rfl
  | 0, g + 1, p, h, _ => by
    have : p = [] := List.eq_nil_of_length_eq_zero (by omega)
    subst this
    simp [insG]
  | f + 1, 0, p, _, h => by
    have : p = [] := List.eq_nil_of_length_eq_zero (by omega)
    subst this
    simp [insG]
  | f + 1, g + 1, p, h1, h2 => by
    rw [insG, insG]
    by_cases hp : p = []
    · rw [if_pos hp, if_pos hp]
    · have : 0 < p.length := List.length_pos_iff.2 hp
      rw [if_neg hp, if_neg hp, insG_fuel f g (p.drop (min p.length 127)) (by simp; omega) (by simp; omega)]
theorem insL_nil : insL [] = [] := rfl
theorem insL_cons {p : List Int} (h : 0 < p.length) : insL p = ((min p.length 127 : Nat) : Int) :: p.take (min p.length 127) ++ insL (p.drop (min p.length 127)) := by
  unfold insL
  obtain ⟨f, hf⟩ : ∃ f, p.length = f + 1 := ⟨p.length - 1, by omega⟩
  have hp : p ≠ [] := List.length_pos_iff.1 h
  rw [show insG p.length p = insG (f + 1) p from by rw [hf], insG, if_neg hp, insG_fuel f (p.drop (min p.length 127)).length _ (by simp; omega) (by simp)]
theorem insL_all : ∀ (n : Nat) (p : List Int), p.length ≤ n → AllB p → AllB (insL p)
  | 0, p, h, _ => by
    have : p = [] := List.eq_nil_of_length_eq_zero (by omega)
    subst this
    exact AllIn.nil
  | n + 1, p, h, hp => by
    by_cases h0 : 0 < p.length
    · rw [insL_cons h0]
      exact ((AllIn.one (by omega) (by omega)).append (hp.take _)).append (insL_all n _ (by simp; omega) (hp.drop _))
    · have : p = [] := List.eq_nil_of_length_eq_zero (by omega)
      subst this
      exact AllIn.nil
theorem insL_len : ∀ (n : Nat) (p : List Int), p.length ≤ n → (insL p).length = p.length + (p.length + 126) / 127
  | 0, p, h => by
    have : p = [] := List.eq_nil_of_length_eq_zero (by omega)
    subst this
    rfl
  | n + 1, p, h => by
    by_cases h0 : 0 < p.length
    · rw [insL_cons h0, List.length_append, List.length_cons, insL_len n _ (by simp; omega)]
      simp only [List.length_take, List.length_drop]
      omega
    · have : p = [] := List.eq_nil_of_length_eq_zero (by omega)
      subst this
      rfl

set_option maxHeartbeats 2000000 in
set_option maxRecDepth 100000 in
theorem appendInserts_any (v pv : Value) (xs p : List Int) (w : World) (base : Nat) (ho : Own .u8 5 w base v xs) (hp : Rd .u8 (fun b => b < base) w pv p) (hbw : base ≤ w.heap.size) (hl : xs.length + 2 * p.length + 20 ≤ 140737488355328) :
    Calls Try.prog 29 #[v, pv] w fun e w' => ∃ v', e = .returned v' ∧ Own .u8 5 w' base v' (xs ++ insL p) ∧ Gb v.ownBlock w w' v' := by
  obtain ⟨i0, z0, hi, hz, hs, hb0, hc⟩ := info8
  have KO := Kept.mk ho
  have KP := Kept.mk hp
  obtain ⟨va, vc, rfl, -, -, -⟩ := ho.rd.form
  obtain ⟨pa, pc, rfl, -, -, -⟩ := hp.form
  clear ho hp
  go_enter Try.func29, Try.ntmps29
  go_wp2
  go_loopw [0, 1] (fun ov qv wr => ∃ (acc q : List Int), Own .u8 5 wr base ov (xs ++ acc) ∧ Rd .u8 (fun b => b < base) wr qv q ∧ acc ++ insL q = insL p ∧ acc.length + 2 * q.length ≤ 2 * p.length ∧ Gb (Value.slice va xs.length vc).ownBlock w wr ov) (fun _ qv _ => (match qv with | .slice _ n _ => n | _ => 0))
  case atStart => exact ⟨[], p, by simpa using KO.out, KP.out, rfl, by simp, Gb.refl _ _⟩
  case round =>
    obtain ⟨acc, q, how, hq, he, hle, hbel⟩ := hrel
    obtain ⟨ys, hys⟩ : ∃ ys, ys = xs ++ acc := ⟨_, rfl⟩
    rw [← hys] at how
    have hyl : ys.length ≤ xs.length + acc.length := by rw [hys]; simp
    have KY := Kept.mk hys
    clear hys
    obtain ⟨oa, oc, rfl, -, -, -⟩ := how.rd.form
    obtain ⟨qa, qc, rfl, hqn, hql, hqm⟩ := hq.form
    unfold maxLen at hqm
    have hwz := hbel.size
    have KW := Kept.mk how
    have KQ := Kept.mk hq
    have KB := Kept.mk hbel
    have KE := Kept.mk he
    clear how hq hbel he
    by_cases h0 : 0 < q.length
    · have h0o : decide ((0 : Int) < (q.length : Int)) = true := by simp; omega
      obtain ⟨qb, qo, rfl, hqb, hqs, hcells⟩ : ∃ b off, qa = some ⟨b, off, none⟩ ∧ b < wr.heap.size ∧ b < base ∧ True := by
        obtain ⟨b, off, c, hv, h1, -, -, h2, -⟩ := KQ.out.open h0
        injection hv with e1
        exact ⟨b, off, e1, h1, h2, trivial⟩
      clear hqn hcells
      have KA1 := Kept.mk (insL_cons h0)
      by_cases hm : q.length ≤ 127
      · have hmo : decide ((q.length : Int) ≤ 127) = true := by simp; omega
        have KW1 := Kept.mk (KW.out.alloc (.cells #[.int .u8 (q.length : Int)] 5))
        have KR1 := Kept.mk (Rd.one .u8 wr (q.length : Int) 5)
        have KB1 := Kept.mk (KB.out.alloc (.cells #[.int .u8 (q.length : Int)] 5))
        go_wp2_with (first | (at_builtin; refine wpList_append_rd _ rfl _ _ 22 rfl .u8 anyB 1 base 5 i0 z0 Try.underlying22 hi hz hs hb0 hc (by omega) (.slice oa ys.length oc) ys rfl KW1.out _ [(q.length : Int)] rfl KR1.out (by simp; omega) (by simp; omega) ?_; intro v3 w3 hown hgrow hat; obtain ⟨na, nc, rfl, -, -, -⟩ := hown.rd.form; have hown2 := hown; rw [List.length_append] at hown2; have KO3 : Kept (Own .u8 5 w3 base (.slice na (ys.length + 1) nc) (ys ++ [(q.length : Int)])) := ⟨hown2⟩; have hgb := KB1.out.grow hgrow hat; rw [List.length_append] at hgb; have KB3 : Kept (Gb (Value.slice va xs.length vc).ownBlock w w3 (.slice na (ys.length + 1) nc)) := ⟨hgb⟩; have hwz3 := KB3.out.size; have KQ3 := Kept.mk (KQ.out.far (w' := w3) (S' := fun b => b < base) (by have := hgrow.size; simp at this; omega) (fun b hlt hs => ⟨hs, by rw [hgrow.block b (by simp; omega) (fun e => by have := own_ge KW1.out b e.symm; omega)]; exact Below.heap_alloc wr _ b hlt⟩)); have hqp := KQ3.out.piece2 (i := 0) (j := q.length) (by omega) (by omega); simp only [Nat.add_zero, Nat.sub_zero, List.drop_zero] at hqp; have KP3 := Kept.mk hqp; clear hown hown2 hgrow hat hqp hgb) | (at_builtin; refine wpList_append_rd _ rfl _ _ 22 rfl .u8 (fun b => b < base) 1 base 5 i0 z0 Try.underlying22 hi hz hs hb0 hc (by omega) (.slice na (ys.length + 1) nc) (ys ++ [(q.length : Int)]) rfl KO3.out _ (q.take q.length) rfl KP3.out (by simp; omega) (by omega) ?_; intro v4 w4 hown hgrow hat; obtain ⟨na4, nc4, rfl, -, -, -⟩ := hown.rd.form; have KO4 := Kept.mk hown; have KB4 := Kept.mk (KB3.out.grow hgrow hat); have KQ4 := Kept.mk (KQ3.out.far (w' := w4) (S' := fun b => b < base) hgrow.size (fun b hlt hs => ⟨hs, hgrow.block b hlt (fun e => by have := own_ge KO3.out b e.symm; omega)⟩)); clear hown hgrow hat))
        have h4 := KO4.out
        rw [show (ys ++ [(q.length : Int)] ++ q.take q.length).length = ys.length + (q.length + 1) from by simp, show ys ++ [(q.length : Int)] ++ q.take q.length = xs ++ (acc ++ [(q.length : Int)] ++ q) from by rw [KY.out, List.take_length]; simp] at h4
        have hb4 := KB4.out
        rw [show (ys ++ [(q.length : Int)] ++ q.take q.length).length = ys.length + (q.length + 1) from by simp] at hb4
        refine ⟨⟨acc ++ [(q.length : Int)] ++ q, [], h4, ⟨_, _, rfl, by simp, by unfold maxLen; omega, (fun e => by split at e <;> cases e), fun h => by simp at h⟩, ?_, by simp; omega, hb4⟩, h0⟩
        have h5 := KA1.out
        rw [show min q.length 127 = q.length from by omega, List.take_length, List.drop_length] at h5
        rw [← KE.out, h5, insL_nil]
        simp
      · have hmo : (127 : Int) < (q.length : Int) := by omega
        have KW1 := Kept.mk (KW.out.alloc (.cells #[.int .u8 127] 5))
        have KR1 := Kept.mk (Rd.one .u8 wr 127 5)
        have KB1 := Kept.mk (KB.out.alloc (.cells #[.int .u8 127] 5))
        go_wp2_with (first | (at_builtin; refine wpList_append_rd _ rfl _ _ 22 rfl .u8 anyB 1 base 5 i0 z0 Try.underlying22 hi hz hs hb0 hc (by omega) (.slice oa ys.length oc) ys rfl KW1.out _ [127] rfl KR1.out (by simp; omega) (by simp; omega) ?_; intro v3 w3 hown hgrow hat; obtain ⟨na, nc, rfl, -, -, -⟩ := hown.rd.form; have hown2 := hown; rw [List.length_append] at hown2; have KO3 : Kept (Own .u8 5 w3 base (.slice na (ys.length + 1) nc) (ys ++ [127])) := ⟨hown2⟩; have hgb := KB1.out.grow hgrow hat; rw [List.length_append] at hgb; have KB3 : Kept (Gb (Value.slice va xs.length vc).ownBlock w w3 (.slice na (ys.length + 1) nc)) := ⟨hgb⟩; have hwz3 := KB3.out.size; have KQ3 := Kept.mk (KQ.out.far (w' := w3) (S' := fun b => b < base) (by have := hgrow.size; simp at this; omega) (fun b hlt hs => ⟨hs, by rw [hgrow.block b (by simp; omega) (fun e => by have := own_ge KW1.out b e.symm; omega)]; exact Below.heap_alloc wr _ b hlt⟩)); have hqp := KQ3.out.piece2 (i := 0) (j := 127) (by omega) (by omega); simp only [Nat.add_zero, Nat.sub_zero, List.drop_zero] at hqp; have KP3 := Kept.mk hqp; clear hown hown2 hgrow hat hqp hgb) | (at_builtin; refine wpList_append_rd _ rfl _ _ 22 rfl .u8 (fun b => b < base) 1 base 5 i0 z0 Try.underlying22 hi hz hs hb0 hc (by omega) (.slice na (ys.length + 1) nc) (ys ++ [127]) rfl KO3.out _ (q.take 127) rfl KP3.out (by simp; omega) (by omega) ?_; intro v4 w4 hown hgrow hat; obtain ⟨na4, nc4, rfl, -, -, -⟩ := hown.rd.form; have KO4 := Kept.mk hown; have KB4 := Kept.mk (KB3.out.grow hgrow hat); have KQ4 := Kept.mk (KQ3.out.far (w' := w4) (S' := fun b => b < base) hgrow.size (fun b hlt hs => ⟨hs, hgrow.block b hlt (fun e => by have := own_ge KO3.out b e.symm; omega)⟩)); clear hown hgrow hat))
        have h4 := KO4.out
        rw [show (ys ++ [(127 : Int)] ++ q.take 127).length = ys.length + (min 127 q.length + 1) from by simp, show ys ++ [(127 : Int)] ++ q.take 127 = xs ++ (acc ++ [(127 : Int)] ++ q.take 127) from by rw [KY.out]; simp] at h4
        have h6 := KQ4.out.piece2 (i := 127) (j := q.length) (by omega) (by omega)
        rw [show (q.drop 127).take (q.length - 127) = q.drop 127 from List.take_of_length_le (by simp)] at h6
        have hb4 := KB4.out
        rw [show (ys ++ [(127 : Int)] ++ q.take 127).length = ys.length + (min 127 q.length + 1) from by simp] at hb4
        refine ⟨⟨acc ++ [(127 : Int)] ++ q.take 127, q.drop 127, h4, h6, ?_, by simp; omega, hb4⟩, by show q.length - 127 < q.length; omega⟩
        have h5 := KA1.out
        rw [show min q.length 127 = 127 from by omega] at h5
        rw [← KE.out, h5]
        simp
    · have hq0 : q = [] := List.eq_nil_of_length_eq_zero (Nat.eq_zero_of_not_pos h0)
      subst hq0
      have hfin : Kept (xs ++ insL p = ys) := ⟨by rw [← KE.out, insL_nil, KY.out, List.append_nil]⟩
      clear h0 hqn hql hqm
      go_wp2
      go_ret
      exact ⟨_, rfl, by rw [hfin.out]; exact KW.out, KB.out⟩
end Go.Proofs.Ytkidoknklgoffaa
