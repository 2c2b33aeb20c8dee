/-
  Walks: awake, DiffMetric.
-/
import Derived.Test.YtdeohooenlojaaaV10
namespace Go.Proofs.Ytdeohooenlojaaa
open Go.RowKit

theorem rdS_new (w : World) (L : List ByteArray) : RdS (w.alloc (.cells (L.map Value.string).toArray 9)) (.slice (some ⟨w.heap.size, 0, none⟩) L.length L.length) L :=
  ⟨some ⟨w.heap.size, 0, none⟩, L.length, by rw [List.length_map], by rw [List.length_map]; exact Nat.le_refl _, fun _ => ⟨w.heap.size, 0, rfl, by simp, (Bk.new w 9 (L.map Value.string)).range⟩⟩
theorem rdV_new (w : World) (T : TypeId) (cs : List Value) : RdV (w.alloc (.cells cs.toArray T)) (.slice (some ⟨w.heap.size, 0, none⟩) cs.length cs.length) cs :=
  ⟨some ⟨w.heap.size, 0, none⟩, cs.length, rfl, Nat.le_refl _, fun _ => ⟨w.heap.size, 0, rfl, by simp, (Bk.new w T cs).range⟩⟩
def lnX : ByteArray := ⟨#[120]⟩
def lnY : ByteArray := ⟨#[121]⟩
def lnZ : ByteArray := ⟨#[122]⟩
theorem ln_xy : lnX ≠ lnY := by unfold lnX lnY; intro h; injection h with h; exact absurd h (by decide)
theorem ln_xz : lnX ≠ lnZ := by unfold lnX lnZ; intro h; injection h with h; exact absurd h (by decide)
theorem ln_yz : lnY ≠ lnZ := by unfold lnY lnZ; intro h; injection h with h; exact absurd h (by decide)
theorem rst_xy : rst [lnX, lnY] [lnY, lnZ] = 2 := by
  simp [rst_cons, rst_nil, rst_nil2, ln_xy, ln_xz, ln_yz]
theorem way_xy : wayP [lnX, lnY] [lnY, lnZ] 0 0 = [(0, 0), (1, 0), (2, 1), (2, 2)] := by
  simp [wayP, rst_cons, rst_nil, rst_nil2, ln_xy, ln_xz, ln_yz]
theorem ln_small {L : List ByteArray} (h : ∀ s ∈ L, s = lnX ∨ s = lnY ∨ s = lnZ) : ∀ s ∈ L, s.size ≤ maxLen := by
  intro s hs
  rcases h s hs with rfl | rfl | rfl <;> decide
theorem pts_four : ptsV [(0, 0), (1, 0), (2, 1), (2, 2)] = [.complex .f64 0 0, .complex .f64 4607182418800017408 0, .complex .f64 4611686018427387904 4607182418800017408, .complex .f64 4611686018427387904 4611686018427387904] := by kernel_rfl
set_option maxHeartbeats 1000000 in
set_option maxRecDepth 100000 in
theorem awake_any (w : World) : Calls Try.prog 8 #[] w fun e w' => e = .returned (.bool true) ∧ Below w.heap.size w w' := by
  have hXY : ∀ s ∈ [lnX, lnY], s.size ≤ maxLen := ln_small (by simp)
  have hYZ : ∀ s ∈ [lnY, lnZ], s.size ≤ maxLen := ln_small (by simp)
  have K2 : Kept (∀ W : World, ∃ W2, (W.alloc (.cells #[.string lnX, .string lnY] 9)).alloc (.cells #[.string lnY, .string lnZ] 9) = W2 ∧ Below W.heap.size W W2 ∧ RdS W2 (.slice (some ⟨W.heap.size, 0, none⟩) 2 2) [lnX, lnY] ∧ RdS W2 (.slice (some ⟨W.heap.size + 1, 0, none⟩) 2 2) [lnY, lnZ]) := ⟨fun W => by
    have hs : (W.alloc (.cells #[.string lnX, .string lnY] 9)).heap.size = W.heap.size + 1 := by simp
    refine ⟨_, rfl, ((Below.refl _ _).alloc (Nat.le_refl _) _).alloc (by simp) _, (rdS_new W [lnX, lnY]).later ((Below.refl _ _).alloc (Nat.le_refl _) _) (Nat.le_refl _), ?_⟩
    have := rdS_new (W.alloc (.cells #[.string lnX, .string lnY] 9)) [lnY, lnZ]
    rw [hs] at this
    exact this⟩
  obtain ⟨w1, hw1, hB1, hX1, hY1⟩ := K2.out w
  have K1 := Kept.mk (way_any _ _ _ _ w1 hX1 hY1 hXY hYZ)
  have KR : Kept (∀ W v u, RdS W v [lnX, lnY] → RdS W u [lnY, lnZ] → Calls Try.prog 13 #[v, u] W fun e w' => e = .returned (.tuple #[.int .i64 2, .int .i64 0]) ∧ Below W.heap.size W w') := ⟨fun W v u h1 h2 => by
    have h := rest_any v u _ _ W h1 h2 hXY hYZ
    rw [if_neg (by decide), rst_xy] at h
    exact h⟩
  have KB1 := Kept.mk hB1
  have KW1 := Kept.mk hw1
  clear hB1 hX1 hY1 hXY hYZ hw1
  go_enter Try.func8, Try.ntmps8
  go_wp2_with fail
  have hw1 := KW1.out
  unfold lnX lnY lnZ at hw1
  rw [hw1]
  clear hw1 KW1
  refine Calls.mono K1.out (fun e w2 hp => ?_)
  obtain ⟨hb, hor⟩ := hp
  rcases hor with ⟨h1, -⟩ | ⟨-, v2, rfl, ho⟩
  · exact absurd h1 (by decide)
  rw [way_xy] at ho
  have hB2 := KB1.out.trans (hb.mono KB1.out.size)
  have KO2 := Kept.mk ho
  obtain ⟨w3, hw3, hB3, hX3, hY3⟩ := K2.out w2
  have K3 := Kept.mk (KR.out w3 _ _ hX3 hY3)
  have KB3 := Kept.mk (hB2.trans (hB3.mono hB2.size))
  have KO3 := Kept.mk (KO2.out.later hB3 (Nat.le_refl _))
  unfold lnX lnY lnZ at hw3
  have KW3 := Kept.mk hw3
  clear hb ho hB2 hB3 hX3 hY3 hw3 K1 K2 KR KB1
  go_wp2_with fail
  rw [KW3.out]
  refine Calls.mono K3.out (fun e w4 hp => ?_)
  obtain ⟨rfl, hb⟩ := hp
  have hB4 := KB3.out.trans (hb.mono KB3.out.size)
  have hO4 := KO3.out.later hb (Nat.le_refl _)
  have hnew := rdV_new w4 45 (ptsV [(0, 0), (1, 0), (2, 1), (2, 2)])
  have hBn : Below w4.heap.size w4 (w4.alloc (.cells (ptsV [(0, 0), (1, 0), (2, 1), (2, 2)]).toArray 45)) := (Below.refl _ _).alloc (Nat.le_refl _) _
  have hall : ∀ q ∈ [((0 : Nat), (0 : Nat)), (1, 0), (2, 1), (2, 2)], q.1 < 1100 ∧ q.2 < 1100 := by decide
  have h5 := sameWay_any v2 _ _ _ _ (hO4.rd.later hBn (Nat.le_refl _)) hnew (by decide) hall hall
  have KB5 := Kept.mk (hB4.trans (hBn.mono hB4.size))
  rw [pts_four] at h5 KB5
  have K5 : Kept (Calls Try.prog 12 #[v2, .slice (some ⟨w4.heap.size, 0, none⟩) 4 4] (w4.alloc (.cells #[.complex .f64 0 0, .complex .f64 4607182418800017408 0, .complex .f64 4611686018427387904 4607182418800017408, .complex .f64 4611686018427387904 4611686018427387904] 45)) fun e w' => e = .returned (.bool true) ∧ Below (w4.alloc (.cells #[.complex .f64 0 0, .complex .f64 4607182418800017408 0, .complex .f64 4611686018427387904 4607182418800017408, .complex .f64 4611686018427387904 4611686018427387904] 45)).heap.size (w4.alloc (.cells #[.complex .f64 0 0, .complex .f64 4607182418800017408 0, .complex .f64 4611686018427387904 4607182418800017408, .complex .f64 4611686018427387904 4611686018427387904] 45)) w') := ⟨by
    rw [decide_eq_true rfl] at h5
    exact h5⟩
  clear hb hB4 hO4 hnew hBn hall h5 K3 KO3 KB3 KW3
  go_wp2_with fail
  refine Calls.mono K5.out (fun e w6 hp => ?_)
  obtain ⟨rfl, hb⟩ := hp
  have KB6 := Kept.mk (KB5.out.trans (hb.mono KB5.out.size))
  clear hb K5
  go_wp2
  go_ret
  exact ⟨rfl, KB6.out⟩
set_option maxHeartbeats 2000000 in
set_option maxRecDepth 100000 in
theorem metric_walk (va vb vc : Value) (a b c : List ByteArray) (w : World) (ha : RdS w va a) (hb : RdS w vb b) (hc : RdS w vc c) (sa : ∀ s ∈ a, s.size ≤ maxLen) (sb : ∀ s ∈ b, s.size ≤ maxLen) (sc : ∀ s ∈ c, s.size ≤ maxLen) :
    Calls Try.prog 6 #[va, vb, vc] w fun e w' => e = .returned (.bool true) ∧ Below w.heap.size w w' := by
  have K0 := Kept.mk (awake_any w)
  have KR : Kept (∀ (W : World) (v u : Value) (x y : List ByteArray), Below w.heap.size w W → RdS w v x → RdS w u y → (∀ s ∈ x, s.size ≤ maxLen) → (∀ s ∈ y, s.size ≤ maxLen) → x.length ≤ 60 → y.length ≤ 60 → Calls Try.prog 13 #[v, u] W fun e w' => e = .returned (.tuple #[.int .i64 (rst x y : Nat), .int .i64 0]) ∧ Below W.heap.size W w') := ⟨fun W v u x y hW hv hu sx sy lx ly => by
    have h := rest_any v u x y W (hv.later hW (Nat.le_refl _)) (hu.later hW (Nat.le_refl _)) sx sy
    rw [if_neg (by unfold longB; simp; omega)] at h
    exact h⟩
  have KA := Kept.mk ha
  have KBb := Kept.mk hb
  have KC := Kept.mk hc
  have Ksa := Kept.mk sa
  have Ksb := Kept.mk sb
  have Ksc := Kept.mk sc
  obtain ⟨pa, ca, rfl⟩ := ha.form
  obtain ⟨pb, cb, rfl⟩ := hb.form
  obtain ⟨pc, cc, rfl⟩ := hc.form
  clear ha hb hc sa sb sc
  go_enter Try.func6, Try.ntmps6
  go_wp2_with fail
  refine Calls.mono K0.out (fun e w1 hp => ?_)
  obtain ⟨rfl, hb1⟩ := hp
  have KB1 := Kept.mk hb1
  clear hb1 K0
  by_cases la : 60 < a.length
  · have g1 : decide ((60 : Int) < (a.length : Int)) = true := decide_eq_true (by omega)
    clear la
    go_wp2
    go_ret
    exact ⟨rfl, KB1.out⟩
  have g1 : decide ((60 : Int) < (a.length : Int)) = false := decide_eq_false (by omega)
  by_cases lb : 60 < b.length
  · have g2 : decide ((60 : Int) < (b.length : Int)) = true := decide_eq_true (by omega)
    clear lb
    go_wp2
    go_ret
    exact ⟨rfl, KB1.out⟩
  have g2 : decide ((60 : Int) < (b.length : Int)) = false := decide_eq_false (by omega)
  by_cases lc : 60 < c.length
  · have g3 : decide ((60 : Int) < (c.length : Int)) = true := decide_eq_true (by omega)
    clear lc
    go_wp2
    go_ret
    exact ⟨rfl, KB1.out⟩
  have g3 : decide ((60 : Int) < (c.length : Int)) = false := decide_eq_false (by omega)
  have la : a.length ≤ 60 := by omega
  have lb : b.length ≤ 60 := by omega
  have lc : c.length ≤ 60 := by omega
  have hle := rst_le _ a b (Nat.le_refl _)
  have hle2 := rst_le _ b c (Nat.le_refl _)
  have htri := rst_tri a b c
  have hsym := rst_symm b a
  have hzer : decide (rst a b = 0) = decide (a = b) := by
    simp only [decide_eq_decide]
    exact ⟨rst_zero a b, fun e => by rw [e]; exact rst_self b⟩
  have K2 := Kept.mk (KR.out w1 _ _ a b KB1.out KA.out KBb.out Ksa.out Ksb.out la lb)
  have K3 : Kept (∀ W, Below w.heap.size w W → Calls Try.prog 13 #[.slice pb b.length cb, .slice pa a.length ca] W fun e w' => e = .returned (.tuple #[.int .i64 (rst a b : Nat), .int .i64 0]) ∧ Below W.heap.size W w') := ⟨fun W hW => by
    have h := KR.out W _ _ b a hW KBb.out KA.out Ksb.out Ksa.out lb la
    rw [hsym] at h
    exact h⟩
  have K4 : Kept (∀ W, Below w.heap.size w W → Calls Try.prog 13 #[.slice pb b.length cb, .slice pc c.length cc] W fun e w' => e = .returned (.tuple #[.int .i64 (rst b c : Nat), .int .i64 0]) ∧ Below W.heap.size W w') := ⟨fun W hW => KR.out W _ _ b c hW KBb.out KC.out Ksb.out Ksc.out lb lc⟩
  have K5 : Kept (∀ W, Below w.heap.size w W → Calls Try.prog 13 #[.slice pa a.length ca, .slice pc c.length cc] W fun e w' => e = .returned (.tuple #[.int .i64 (rst a c : Nat), .int .i64 0]) ∧ Below W.heap.size W w') := ⟨fun W hW => KR.out W _ _ a c hW KA.out KC.out Ksa.out Ksc.out la lc⟩
  have K6 : Kept (∀ W, Below w.heap.size w W → Calls Try.prog 22 #[.slice pa a.length ca, .slice pb b.length cb] W fun e w' => e = .returned (.bool (decide (a = b))) ∧ Below W.heap.size W w') := ⟨fun W hW => sameLines_any _ _ a b W (KA.out.later hW (Nat.le_refl _)) (KBb.out.later hW (Nat.le_refl _)) (by omega)⟩
  generalize hq : decide (a = b) = q at *
  generalize rst a b = r1 at *
  generalize rst b c = r2 at *
  generalize rst a c = r3 at *
  generalize a.length = na at *
  generalize b.length = nb at *
  generalize c.length = nc at *
  have z1 : ((r1 : Int) == 0) = q := by
    rw [← hzer, Bool.eq_iff_iff, beq_iff_eq, decide_eq_true_iff]
    omega
  have e1 : IntKind.i64.wrap ((r1 : Int) + (r2 : Int)) = (r1 : Int) + (r2 : Int) := wr64 (by omega) (by omega)
  have e2 : IntKind.i64.wrap ((na : Int) + (nb : Int)) = (na : Int) + (nb : Int) := wr64 (by omega) (by omega)
  have t1 : decide ((r3 : Int) ≤ (r1 : Int) + (r2 : Int)) = true := decide_eq_true (by omega)
  have t2 : decide ((r1 : Int) ≤ (na : Int) + (nb : Int)) = true := decide_eq_true (by omega)
  clear hzer hsym htri hle hle2 KR hq la lb lc
  go_wp2_with fail
  refine Calls.mono K2.out (fun e w2 hp => ?_)
  obtain ⟨rfl, hb⟩ := hp
  have KB2 := Kept.mk (KB1.out.trans (hb.mono KB1.out.size))
  clear hb K2
  have K3 := Kept.mk (K3.out w2 KB2.out)
  go_wp2_with fail
  refine Calls.mono K3.out (fun e w3 hp => ?_)
  obtain ⟨rfl, hb⟩ := hp
  have KB3 := Kept.mk (KB2.out.trans (hb.mono KB2.out.size))
  clear hb K3
  have K4 := Kept.mk (K4.out w3 KB3.out)
  go_wp2_with fail
  refine Calls.mono K4.out (fun e w4 hp => ?_)
  obtain ⟨rfl, hb⟩ := hp
  have KB4 := Kept.mk (KB3.out.trans (hb.mono KB3.out.size))
  clear hb K4
  have K5 := Kept.mk (K5.out w4 KB4.out)
  go_wp2_with fail
  refine Calls.mono K5.out (fun e w5 hp => ?_)
  obtain ⟨rfl, hb⟩ := hp
  have KB5 := Kept.mk (KB4.out.trans (hb.mono KB4.out.size))
  clear hb K5
  have K6 := Kept.mk (K6.out w5 KB5.out)
  go_wp2_with fail
  refine Calls.mono K6.out (fun e w6 hp => ?_)
  obtain ⟨rfl, hb⟩ := hp
  have KB6 := Kept.mk (KB5.out.trans (hb.mono KB5.out.size))
  clear hb K6
  go_wp2
  go_ret
  exact ⟨rfl, KB6.out⟩
end Go.Proofs.Ytdeohooenlojaaa
