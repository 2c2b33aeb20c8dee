/-
  Walks: awake, DiffMetric.
-/
import Derived.Test.YtjhcpmhjdhmjpaaV10
namespace Go.Proofs.Ytjhcpmhjdhmjpaa
open Go.RowKit

theorem rdS_new (w : World) (L : List ByteArray) : RdS (w.alloc (.cells (L.map Value.string).toArray 9)) (.slice (some ⟨w.heap.size, 0, none⟩) L.length L.length) L :=
  ⟨some ⟨w.heap.size, 0, none⟩, L.length, by rw [List.length_map], by rw [List.length_map]; exact Nat.le_refl _, fun _ => ⟨w.heap.size, 0, rfl, by simp, (Bk.new w 9 (L.map Value.string)).range⟩⟩
theorem rdV_new (w : World) (T : TypeId) (cs : List Value) : RdV (w.alloc (.cells cs.toArray T)) (.slice (some ⟨w.heap.size, 0, none⟩) cs.length cs.length) cs :=
  ⟨some ⟨w.heap.size, 0, none⟩, cs.length, rfl, Nat.le_refl _, fun _ => ⟨w.heap.size, 0, rfl, by simp, (Bk.new w T cs).range⟩⟩
def lnX : ByteArray := ⟨#[120]⟩
def lnY : ByteArray := ⟨#[121]⟩
def lnZ : ByteArray := ⟨#[122]⟩
theorem ln_xy : lnX ≠ lnY := by unfold lnX lnY; intro h; injection h with h; exact absurd h (by decide)
theorem ln_xz : lnX ≠ lnZ := by unfold lnX lnZ; intro h; injection h with h; exact absurd h (by decide)
theorem ln_yz : lnY ≠ lnZ := by unfold lnY lnZ; intro h; injection h with h; exact absurd h (by decide)
theorem rst_xy : rst [lnX, lnY] [lnY, lnZ] = 2 := by
  simp [rst_cons, rst_nil, rst_nil2, ln_xy, ln_xz, ln_yz]
theorem way_xy : wayP [lnX, lnY] [lnY, lnZ] 0 0 = [(0, 0), (1, 0), (2, 1), (2, 2)] := by
  simp [wayP, rst_cons, rst_nil, rst_nil2, ln_xy, ln_xz, ln_yz]
theorem ln_small {L : List ByteArray} (h : ∀ s ∈ L, s = lnX ∨ s = lnY ∨ s = lnZ) : ∀ s ∈ L, s.size ≤ maxLen := by
  intro s hs
  rcases h s hs with rfl | rfl | rfl <;> decide
theorem pts_four : ptsV [(0, 0), (1, 0), (2, 1), (2, 2)] = [.complex .f64 0 0, .complex .f64 4607182418800017408 0, .complex .f64 4611686018427387904 4607182418800017408, .complex .f64 4611686018427387904 4611686018427387904] := by kernel_rfl
set_option maxHeartbeats 1000000 in
set_option maxRecDepth 100000 in
theorem awake_any (w : World) : Calls Try.prog 8 #[] w fun e w' => e = .returned (.bool true) ∧ Below w.heap.size w w' := by
  have hXY : ∀ s ∈ [lnX, lnY], s.size ≤ maxLen := ln_small (by simp)
  have hYZ : ∀ s ∈ [lnY, lnZ], s.size ≤ maxLen := ln_small (by simp)
  have K2 : Kept (∀ W : World, ∃ W2, (W.alloc (.cells #[.string lnX, .string lnY] 9)).alloc (.cells #[.string lnY, .string lnZ] 9) = W2 ∧ Below W.heap.size W W2 ∧ RdS W2 (.slice (some ⟨W.heap.size, 0, none⟩) 2 2) [lnX, lnY] ∧ RdS W2 (.slice (some ⟨W.heap.size + 1, 0, none⟩) 2 2) [lnY, lnZ]) := ⟨fun W => by
    have hs : (W.alloc (.cells #[.string lnX, .string lnY] 9)).heap.size = W.heap.size + 1 := by simp
    refine ⟨_, rfl, ((Below.refl _ _).alloc (Nat.le_refl _) _).alloc (by simp) _, (rdS_new W [lnX, lnY]).later ((Below.refl _ _).alloc (Nat.le_refl _) _) (Nat.le_refl _), ?_⟩
    have := rdS_new (W.alloc (.cells #[.string lnX, .string lnY] 9)) [lnY, lnZ]
    rw [hs] at this
    exact this⟩
  obtain ⟨w1, hw1, hB1, hX1, hY1⟩ := K2.out w
  have K1 := Kept.mk (way_any _ _ _ _ w1 hX1 hY1 hXY hYZ)
  have KR : Kept (∀ W v u, RdS W v [lnX, lnY] → RdS W u [lnY, lnZ] → Calls Try.prog 13 #[v, u] W fun e w' => e = .returned (.tuple #[.int .i64 2, .int .i64 0]) ∧ Below W.heap.size W w') := ⟨fun W v u h1 h2 => by
    have h := rest_any v u _ _ W h1 h2 hXY hYZ
    rw [if_neg (by decide), rst_xy] at h
    exact h⟩
  have KB1 := Kept.mk hB1
  have KW1 := Kept.mk hw1
  clear hB1 hX1 hY1 hXY hYZ hw1
  go_enter Try.func8, Try.ntmps8
  go_wp2_with fail
  have hw1 := KW1.out
  unfold lnX lnY lnZ at hw1
  rw [hw1]
  clear hw1 KW1
  refine Calls.mono K1.out (fun e w2 hp => ?_)
  obtain ⟨hb, hor⟩ := hp
  rcases hor with ⟨h1, -⟩ | ⟨-, v2, rfl, ho⟩
  · exact absurd h1 (by decide)
  rw [way_xy] at ho
  have hB2 := KB1.out.trans (hb.mono KB1.out.size)
  have KO2 := Kept.mk ho
  obtain ⟨w3, hw3, hB3, hX3, hY3⟩ := K2.out w2
  have K3 := Kept.mk (KR.out w3 _ _ hX3 hY3)
  have KB3 := Kept.mk (hB2.trans (hB3.mono hB2.size))
  have KO3 := Kept.mk (KO2.out.later hB3 (Nat.le_refl _))
  unfold lnX lnY lnZ at hw3
  have KW3 := Kept.mk hw3
  clear hb ho hB2 hB3 hX3 hY3 hw3 K1 K2 KR KB1
  go_wp2_with fail
  rw [KW3.out]
  refine Calls.mono K3.out (fun e w4 hp => ?_)
  obtain ⟨rfl, hb⟩ := hp
  have hB4 := KB3.out.trans (hb.mono KB3.out.size)
  have hO4 := KO3.out.later hb (Nat.le_refl _)
  have hnew := rdV_new w4 45 (ptsV [(0, 0), (1, 0), (2, 1), (2, 2)])
  have hBn : Below w4.heap.size w4 (w4.alloc (.cells (ptsV [(0, 0), (1, 0), (2, 1), (2, 2)]).toArray 45)) := (Below.refl _ _).alloc (Nat.le_refl _) _
  have hall : ∀ q ∈ [((0 : Nat), (0 : Nat)), (1, 0), (2, 1), (2, 2)], q.1 < 1100 ∧ q.2 < 1100 := by decide
  have h5 := sameWay_any v2 _ _ _ _ (hO4.rd.later hBn (Nat.le_refl _)) hnew (by decide) hall hall
  have KB5 := Kept.mk (hB4.trans (hBn.mono hB4.size))
  rw [pts_four] at h5 KB5
  have K5 : Kept (Calls Try.prog 12 #[v2, .slice (some ⟨w4.heap.size, 0, none⟩) 4 4] (w4.alloc (.cells #[.complex .f64 0 0, .complex .f64 4607182418800017408 0, .complex .f64 4611686018427387904 4607182418800017408, .complex .f64 4611686018427387904 4611686018427387904] 45)) fun e w' => e = .returned (.bool true) ∧ Below (w4.alloc (.cells #[.complex .f64 0 0, .complex .f64 4607182418800017408 0, .complex .f64 4611686018427387904 4607182418800017408, .complex .f64 4611686018427387904 4611686018427387904] 45)).heap.size (w4.alloc (.cells #[.complex .f64 0 0, .complex .f64 4607182418800017408 0, .complex .f64 4611686018427387904 4607182418800017408, .complex .f64 4611686018427387904 4611686018427387904] 45)) w') := ⟨by
    rw [decide_eq_true rfl] at h5
    exact h5⟩
  clear hb hB4 hO4 hnew hBn hall h5 K3 KO3 KB3 KW3
  go_wp2_with fail
  refine Calls.mono K5.out (fun e w6 hp => ?_)
  obtain ⟨rfl, hb⟩ := hp
  have KB6 := Kept.mk (KB5.out.trans (hb.mono KB5.out.size))
  clear hb K5
  go_wp2
  go_ret
  exact ⟨rfl, KB6.out⟩
end Go.Proofs.Ytjhcpmhjdhmjpaa
