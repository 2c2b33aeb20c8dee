/-
  Walks: DocPutSpan.
-/
import Derived.Test.YtpleamahaogfiabW4
namespace Go.Proofs.Ytpleamahaogfiab
open Go.RowKit

theorem Own.made1 (w : World) (b : Int) (e : TypeId) : Own e (w.alloc (.cells #[.int .u8 b] e)) w.heap.size (.slice (some ⟨w.heap.size, 0, none⟩) 1 1) [b] :=
  ⟨rfl, .inr ⟨w.heap.size, 1, #[.int .u8 b], rfl, Nat.le_refl _, heap_alloc_new w _, Nat.le_refl _, by unfold maxLen; omega, rfl, rfl⟩⟩

theorem drop_rev (bk : List Int) (k : Nat) (h : k < bk.length) : (bk.drop k).reverse = (bk.drop (k + 1)).reverse ++ [bk.getD k 0] := by
  rw [List.drop_eq_getElem_cons h, List.reverse_cons]
  simp [List.getD, List.getElem?_eq_getElem h]

set_option maxHeartbeats 1000000 in
theorem docPutSpan_any (v : Value) (xs : List Int) (x : Int) (w : World) (h : Rd w v xs) (hx0 : 0 ≤ x) (hx1 : x < 18446744073709551616) (hl : xs.length + 10 ≤ 140737488355328) :
    Calls Try.prog 19 #[v, .int .u64 x] w fun e w' => ∃ v', e = .returned v' ∧ Own 5 w' w.heap.size v' (xs ++ spanL x) ∧ Below w.heap.size w w' := by
  obtain ⟨i0, z0, hi, hz, hs, hb0, hc, _⟩ := info5
  go_enter Try.func19, Try.ntmps19
  go_wp2
  go_loopw [5, 1] (fun q y wr => ∃ (u : Int) (k : Nat) (bk : List Int), 0 ≤ u ∧ u < spanLim k ∧ u < 18446744073709551616 ∧ y = .int .u64 u ∧ spanB k u ++ bk.reverse = spanL x ∧ bk.length + k = 10 ∧ Own 5 wr w.heap.size q bk ∧ Below w.heap.size w wr) (fun _ y _ => (intOf y).toNat)
  case atStart => exact ⟨x, 9, [x % 128], hx0, by have := spanLim_9; omega, hx1, rfl, rfl, rfl, Own.made1 w _ 5, (Below.refl _ _).alloc (Nat.le_refl _) _⟩
  case round =>
    obtain ⟨u, k, bk, hu0, hu1, hu2, rfl, hsp, hlen, how, hbel⟩ := hrel
    have hbw : w.heap.size ≤ wr.heap.size := hbel.size
    by_cases h128 : 127 < u
    · have ho1 := how.alloc (.cells #[.int .u8 ((u / 128 - 1) % 128 + 128)] 5)
      have hr1 : Rd (wr.alloc (.cells #[.int .u8 ((u / 128 - 1) % 128 + 128)] 5)) (.slice (some ⟨wr.heap.size, 0, none⟩) 1 1) [(u / 128 - 1) % 128 + 128] := Rd.one wr _ 5 (by omega) (by omega)
      have hll : bk.length + 1 ≤ 140737488355328 := by omega
      have H : Hid (spanB k u ++ bk.reverse = spanL x ∧ u < spanLim k ∧ bk.length + k = 10) := ⟨hsp, hu1, hlen⟩
      clear hsp hu1 hlen
      go_wp2_with (at_builtin; refine wpList_append_rd _ rfl _ _ 22 rfl w.heap.size 5 i0 z0 Try.underlying22 hi hz hs hb0 hc _ bk rfl ho1 _ [(u / 128 - 1) % 128 + 128] rfl hr1 hll (by simp; omega) ?_; intro v' w1 hown hgrow hat)
      go_roundw
      case rel =>
        obtain ⟨hsp, hu1, hlen⟩ := H.out
        match k, hu1, hlen, hsp with
        | 0, hu1, _, _ => simp [spanLim] at hu1; omega
        | k + 1, hu1, hlen, hsp =>
          rw [spanB_step _ _ h128] at hsp
          refine ⟨u / 128 - 1, k, bk ++ [(u / 128 - 1) % 128 + 128], by omega, by simp only [spanLim] at hu1; omega, by omega, rfl, by simpa using hsp, by simp; omega, hown, ?_⟩
          exact (hbel.alloc hbw _).grown hgrow (by simp; omega) (own_ge how)
      case measure => simp [intOf]; omega
    · rename World => wq
      rw [spanB_small _ _ (by omega), List.nil_append] at hsp
      have hb : AllB bk := fun y hy => spanL_bytes x y (by rw [← hsp]; simpa using hy)
      have hrb := Rd.own how hb
      have hlb : 0 < bk.length ∧ bk.length ≤ 10 := by
        constructor
        · have := congrArg List.length hsp
          simp [spanL] at this
          omega
        · omega
      obtain ⟨b0, o0, c0, hq, hlt0, hcell0⟩ := hrb.open hlb.1
      subst hq
      have H : Hid (bk.reverse = spanL x) := hsp
      clear hsp hlen hrb
      have hv : Rd wq v xs := h.later hbel (Nat.le_refl _)
      have HC0 : Hid (∀ i, i < bk.length → wq.cell? ⟨b0, o0 + i, none⟩ = some (.int .u8 (bk.getD i 0))) := hcell0
      clear hcell0
      obtain ⟨hlb0, hlb1⟩ := hlb
      go_wp2_with (at_builtin; refine wpList_append_rd _ rfl _ _ 22 rfl wq.heap.size 5 i0 z0 Try.underlying22 hi hz hs hb0 hc (.slice none 0 0) [] rfl (Own.nil 5 wq _) v xs rfl hv (by simp; omega) (Nat.le_refl _) ?_; intro v1 w1 hown1 hgrow1 hat1)
      have hb1 : Below wq.heap.size wq w1 := (Below.refl _ wq).grown hgrow1 (Nat.le_refl _) (own_ge (Own.nil 5 wq _))
      clear hgrow1 hat1
      simp only [List.nil_append] at hown1
      go_loopw [6, 7] (fun q i wx => ∃ k : Nat, k ≤ bk.length ∧ i = .int .i64 ((k : Int) - 1) ∧ Own 5 wx wq.heap.size q (xs ++ (bk.drop k).reverse) ∧ Below wq.heap.size wq wx) (fun _ i _ => (intOf i + 1).toNat)
      case atStart => exact ⟨bk.length, Nat.le_refl _, rfl, by simpa using hown1, hb1⟩
      case round =>
        obtain ⟨k, hk, rfl, howx, hbx⟩ := hrel
        have hbxs : wq.heap.size ≤ wr.heap.size := hbx.size
        by_cases hk0 : 0 < k
        · obtain ⟨j, rfl⟩ : ∃ j, k = j + 1 := ⟨k - 1, by omega⟩
          have hj : (j : Int) < (bk.length : Int) := by omega
          have hc1 : wr.cell? ⟨b0, o0 + j, none⟩ = some (.int .u8 (bk.getD j 0)) := by
            rw [hbx.cell (p := ⟨b0, o0 + j, none⟩) hlt0]
            exact HC0.out j (by omega)
          have hby := hb.getD j
          have HD : Hid ((bk.drop j).reverse = (bk.drop (j + 1)).reverse ++ [bk.getD j 0]) := drop_rev bk j (by omega)
          have hll : (xs ++ (bk.drop (j + 1)).reverse).length + 1 ≤ 140737488355328 := by simp; omega
          generalize bk.getD j 0 = y at *
          have ho1 := howx.alloc (.cells #[.int .u8 y] 5)
          have hr1 : Rd (wr.alloc (.cells #[.int .u8 y] 5)) (.slice (some ⟨wr.heap.size, 0, none⟩) 1 1) [y] := Rd.one wr _ 5 hby.1 hby.2
          have H2 : Hid ((xs ++ (bk.drop (j + 1)).reverse).length + 1 ≤ 140737488355328) := hll
          clear hll
          go_wp2_with (at_builtin; refine wpList_append_rd _ rfl _ _ 22 rfl wq.heap.size 5 i0 z0 Try.underlying22 hi hz hs hb0 hc _ (xs ++ (bk.drop (j + 1)).reverse) rfl ho1 _ [y] rfl hr1 H2.out (by simp; omega) ?_; intro v' w2 hown hgrow hat)
          go_roundw
          case rel => exact ⟨j, by omega, by go_num, by rw [HD.out, ← List.append_assoc]; exact hown, (hbx.alloc hbxs _).grown hgrow (by simp; omega) (own_ge howx)⟩
          case measure => simp [intOf]
        · obtain rfl : k = 0 := by omega
          go_wp2
          go_ret
          refine ⟨_, rfl, ?_, hbel.trans (hbx.mono hbw)⟩
          have := howx.mono hbw
          simp only [List.drop_zero] at this
          rw [H.out] at this
          exact this
end Go.Proofs.Ytpleamahaogfiab
