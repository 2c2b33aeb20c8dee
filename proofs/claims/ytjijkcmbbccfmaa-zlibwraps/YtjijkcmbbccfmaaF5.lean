/-
  Walks: end.
-/
import Derived.Test.YtjijkcmbbccfmaaF4
namespace Go.Proofs.Ytjijkcmbbccfmaa
open Go.RowKit

theorem packF_tail (L : List Int) (j : Nat) (h0 : 8 * j < L.length) (h8 : L.length < 8 * j + 8) : packF L = packF (L.take (8 * j)) ++ [valL (L.drop (8 * j))] := by
  have e := packF_append j (L.take (8 * j)) (L.drop (8 * j)) (by simp; omega)
  rw [List.take_append_drop] at e
  rw [e, packF_one (l := L.drop (8 * j)) (by simp; omega) (by simp; omega)]

set_option maxHeartbeats 1000000 in
set_option maxRecDepth 100000 in
theorem end_any {W0 w : World} {rb : Nat} {ob : Option Nat} {L : List Int} {j : Nat} (h : Wt W0 w rb ob L j) (hj : L.length < 8 * j + 8) :
    Calls Try.prog 26 #[.pointer (some ⟨rb, 0, none⟩)] w fun e w' => ∃ v', e = .returned v' ∧ Own .u8 5 w' W0.heap.size v' (packF L) ∧ Below W0.heap.size W0 w' := by
  obtain ⟨i0, z0, hi, hz, hs, hb, hc⟩ := info8
  obtain ⟨outV, hB, own, hob⟩ := h.blk
  obtain ⟨oa, oc, rfl, -, -, -⟩ := own.rd.form
  have hle := h.le
  have hlb := h.lb
  have hvr := valL_range (h.ib.drop (8 * j))
  rw [List.length_drop] at hvr
  obtain ⟨H1, hH1⟩ : ∃ H1 : Nat, L.length - 8 * j = H1 := ⟨_, rfl⟩
  obtain ⟨V1, hV1⟩ : ∃ V1, valL (L.drop (8 * j)) = V1 := ⟨_, rfl⟩
  rw [hH1, hV1] at hvr hB
  have c0 := hB.c0
  have c1 := hB.c1
  have c2 := hB.c2
  have f0 := hB.fz 0
  have hwz1 := h.bel.size
  have KT := Kept.mk h
  have KO := Kept.mk own
  have KB := Kept.mk hob
  have KR := Kept.mk hB
  clear h own hob hB
  by_cases h0 : H1 = 0
  · subst h0
    have KE : Kept (packF L = packF (L.take (8 * j))) := ⟨by rw [List.take_of_length_le (by omega)]⟩
    clear hV1 hvr
    go_enter Try.func26, Try.ntmps26
    go_wp2
    go_ret
    exact ⟨_, rfl, by rw [KE.out]; exact KO.out, KT.out.bel⟩
  · have hpos : (0 : Int) < (H1 : Int) := by omega
    have hV8 : 0 ≤ V1 ∧ V1 < 256 := by
      have : (2 : Int) ^ H1 ≤ 2 ^ 8 := by
        have : (2 : Nat) ^ H1 ≤ 2 ^ 8 := Nat.pow_le_pow_right (by omega) (by omega)
        exact_mod_cast this
      simp only [Int.reducePow] at this
      omega
    have hXl : (packF (List.take (8 * j) L)).length ≤ 1073741824 := by
      rw [packF_len _ _ (Nat.le_refl _), List.length_take]
      omega
    have KN : Kept (packF L = packF (List.take (8 * j) L) ++ [IntKind.u8.wrap V1]) := ⟨by
      rw [packF_tail L j (by omega) hj, hV1]
      congr 2
      rw [IntKind.wrap_u8]
      omega⟩
    clear hV1 hvr h0
    generalize packF (List.take (8 * j) L) = X at *
    have KOA : Kept (∀ (w' : World) (o : Obj), w'.heap = (w.alloc o).heap → Own .u8 5 w' W0.heap.size (.slice oa X.length oc) X) := ⟨fun w' o he => (KO.out.alloc o).far fun g _ => by rw [he]⟩
    have KRA : Kept (∀ (w' : World) (x : Int), w'.heap = (w.alloc (.cells #[.int .u8 x] 5)).heap → Rd .u8 anyB w' (.slice (some ⟨w.heap.size, 0, none⟩) 1 1) [x]) := ⟨fun w' x he => (Rd.one .u8 w x 5).far (Nat.le_of_eq (by rw [he])) (fun b _ _ => ⟨trivial, by rw [he]⟩)⟩
    have KG : Kept (∀ (w' w1 : World) (o : Obj), w'.heap = (w.alloc o).heap → w'.os = w.os → w'.tape = w.tape → w'.output = w.output → w'.grownBy w1 (Value.slice oa X.length oc).ownBlock → WB w1 rb (.slice oa X.length oc) V1 H1 ∧ Fq rb ob w w1) := ⟨fun w' w1 o he h1 h2 h3 hg => by
      have hsz : w'.heap.size = w.heap.size + 1 := by rw [he]; simp
      have hlt := KR.out.lt
      constructor
      · refine KR.out.far ?_
        rw [hg.block rb (by omega) (fun e => KT.out.ho (by rw [← KB.out, ← e])), he]
        exact Below.heap_alloc w _ rb hlt
      · refine ⟨hg.os.trans h1, hg.tape.trans h2, hg.output.trans h3, by have := hg.size; omega, fun k hk _ h5 => ?_⟩
        rw [hg.block k (by omega) (by rw [KB.out]; exact h5), he]
        exact Below.heap_alloc w _ k hk⟩
    have cA : ∀ o, (w.alloc o).cell? ⟨rb, 0, none⟩ = some (.slice oa X.length oc) := fun o => (show WB (w.alloc o) rb _ V1 H1 from KR.out.far (Below.heap_alloc w _ rb KR.out.lt)).c0
    go_enter Try.func26, Try.ntmps26
    go_upto_region 2 with fail
    go_region_law ((refine step_append_rd (by rfl) _ _ 22 (by rfl) .u8 anyB 1 W0.heap.size 5 i0 z0 Try.underlying22 hi hz hs hb hc (by omega) (.slice oa X.length oc) X (by rfl) (KOA.out _ _ rfl) _ [IntKind.u8.wrap V1] (by rfl) (KRA.out _ _ rfl) (by simp; omega) (by simp; omega) ?_; intro v1 w1 hown hgrow hat; obtain ⟨na, nc, rfl, -, hl2, hcm2⟩ := hown.rd.form; obtain ⟨hR1, hF1⟩ := KG.out ((w.alloc (.cells #[.int .u8 (IntKind.u8.wrap V1)] 5)).drew) w1 _ rfl rfl rfl rfl hgrow; have c01 := hR1.c0; have f01 := hR1.fz 0; have KR1 := Kept.mk hR1; have KF1 := Kept.mk hF1; have KO1 := Kept.mk hown; have KA1 := Kept.mk hat; clear hR1 hF1 hown hgrow hat hl2 hcm2))
    all_goals
      have hO := KO1.out
      have hat := KA1.out
      simp only [List.length_append, List.length_singleton] at hO hat
      have ho2 : (Value.slice na (X.length + 1) nc).ownBlock ≠ some rb := by
        have hlt := KT.out.rb_lt
        rcases hat with e | e
        · rw [e, KB.out]; exact KT.out.ho
        · rw [e]; simp; omega
      have hFF := Kept.mk (KF1.out.set 0 (.slice na (X.length + 1) nc))
      have KO2 : Kept (Own .u8 5 (w1.setCell ⟨rb, 0, none⟩ (.slice na (X.length + 1) nc)) W0.heap.size (.slice na (X.length + 1) nc) (X ++ [IntKind.u8.wrap V1])) := ⟨hO.far fun g hg => Below.heap_setCell _ _ _ _ (fun e => ho2 (by rw [hg, e]))⟩
      have c02 := (KR1.out.s0 (.slice na (X.length + 1) nc)).c0
      clear hO hat ho2
      go_wp2
      go_ret
      exact ⟨_, rfl, by rw [KN.out]; exact KO2.out, hFF.out.below KT.out.bel KT.out.hb (fun k hk => (KT.out.ob_ge k hk).1) hwz1⟩
end Go.Proofs.Ytjijkcmbbccfmaa
