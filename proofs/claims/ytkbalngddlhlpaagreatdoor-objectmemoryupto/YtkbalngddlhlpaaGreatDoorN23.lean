/-
  Walks of the document: DocParseIdent.
-/
import Derived.Test.YtkbalngddlhlpaaGreatDoorN21
import Derived.Test.YtkbalngddlhlpaaGreatDoorQ3
import Derived.Deep.RegionHeld3
namespace Go.Proofs.YtkbalngddlhlpaaGreatDoor
open Go.RowKit

structure Fst (s : ByteArray) (c : Int) (f p : Nat) : Prop where
  lo : f ≤ p
  hi : p ≤ s.size
  no : ∀ j, f ≤ j → j < p → sN s j ≠ c
  at' : p < s.size → sN s p = c
def gF (s : ByteArray) (p q : Nat) : Option Idt :=
  if s.size < 6 ∨ p < 1 ∨ s.size < q + 8 then none
  else if nmF (s.extract (s.size - 4) s.size) < 0 then none
  else some ⟨s.extract 0 (p - 1), s.extract (p + 1) q, nmF (s.extract (q + 2) (s.size - 6)),
    if sN s (s.size - 5) = 45 then -((nmF (s.extract (s.size - 4) s.size)) / 100 * 60 + nmF (s.extract (s.size - 4) s.size) % 100) else (nmF (s.extract (s.size - 4) s.size)) / 100 * 60 + nmF (s.extract (s.size - 4) s.size) % 100⟩
def dpF (s : ByteArray) (p q : Nat) : Idt × Int := match gF s p q with
  | none => (idt0, 4)
  | some i => if idF i = true ∧ putB i = s then (i, 0) else (idt0, 4)

theorem nmGo_range (s : ByteArray) : ∀ (n k : Nat) (v : Int), 0 ≤ v → v < ((10 ^ k : Nat) : Int) → -1 ≤ nmGo s v k n ∧ nmGo s v k n < ((10 ^ (k + n) : Nat) : Int)
  | 0, k, v, h0, h1 => by rw [nmGo]; exact ⟨by omega, h1⟩
  | n + 1, k, v, h0, h1 => by
    rw [nmGo]
    split
    · rename_i h
      have := nmGo_range s n (k + 1) (10 * v + (sN s k - 48)) (by omega) (by
        rw [Nat.pow_succ]
        generalize 10 ^ k = p at h1 ⊢
        omega)
      rw [show k + (n + 1) = k + 1 + n by omega]
      exact this
    · have : 0 < (10 ^ (k + (n + 1)) : Nat) := Nat.pow_pos (by omega)
      omega
theorem nmF_range (s : ByteArray) : -1 ≤ nmF s ∧ nmF s < 10000000000000 := by
  unfold nmF
  split
  · omega
  · rename_i h
    have := nmGo_range s s.size 0 0 (by omega) (by simp)
    have hp : (10 ^ (0 + s.size) : Nat) ≤ 10 ^ 13 := Nat.pow_le_pow_right (by omega) (by omega)
    have e : (10 ^ 13 : Nat) = 10000000000000 := by decide
    omega
structure DpEnd (s : ByteArray) (w : World) (e : Ending) (w' : World) : Prop where
  out : ∃ p q, Fst s 60 0 p ∧ Fst s 62 p q ∧ e = .returned (.tuple #[(dpF s p q).1.v, .int .i64 (dpF s p q).2]) ∧ Below w.heap.size w w'
theorem fst_lt {s : ByteArray} {p q : Nat} (h : Fst s 60 0 p) (g : Fst s 62 p q) (hp : p < s.size) : p + 1 ≤ q := by
  rcases Nat.lt_or_ge p q with k | k
  · exact k
  · exfalso
    have e : p = q := Nat.le_antisymm g.lo k
    subst e
    have h1 := h.at' hp
    have h2 := g.at' hp
    omega
theorem dp_none {s : ByteArray} {p q : Nat} (h : gF s p q = none) : dpF s p q = (idt0, 4) := by unfold dpF; rw [h]

set_option maxHeartbeats 2000000 in
set_option maxRecDepth 100000 in
theorem docParseIdent_any (s : ByteArray) (w : World) (hg : Gl w) (hs : s.size < 4294967281) : Calls Tryz.prog 44 #[.string s] w (DpEnd s w) := by
  obtain ⟨w1, hw1, hB1, hR1⟩ : ∃ w1, w.alloc (.cells #[.string ⟨#[]⟩, .string ⟨#[]⟩, .int .i64 0, .int .i64 0] 38) = w1 ∧ Below w.heap.size w w1 ∧ IB w1 w.heap.size idt0 := ⟨_, rfl, (Below.refl _ _).alloc (Nat.le_refl _) _, heap_alloc_new w _⟩
  have KG : Kept (∀ w', Below w.heap.size w w' → Gl w') := ⟨fun w' h => hg.later h⟩
  have KB1 := Kept.mk hB1
  have KR1 := Kept.mk hR1
  have hw6 : IntKind.i64.wrap ((s.size : Int) - 6) = (s.size : Int) - 6 := by rw [IntKind.wrap_i64]; omega
  clear hg hB1 hR1
  go_enter Tryz.func44, Tryz.ntmps44
  go_wp2
  go_loopw [5] (fun iv wr => ∃ p : Nat, p ≤ s.size ∧ iv = .int .i64 p ∧ wr = w1 ∧ ∀ j, j < p → sN s j ≠ 60) (fun iv _ => s.size - (intOf iv).toNat)
  case atStart => exact ⟨0, by omega, rfl, rfl, fun j hj => by omega⟩
  case round =>
    obtain ⟨p, hp0, rfl, rfl, hp⟩ := hrel
    rename World => w1
    have KP := Kept.mk hp
    clear hp
    by_cases hlt : p < s.size
    · have hd2 : ((p : Int) < (s.size : Int)) := by omega
      have hi := run_index_text w1 s .i64 p hlt
      by_cases hx : sN s p = 60
      · have KF1 : Kept (Fst s 60 0 p) := ⟨⟨by omega, hp0, fun j _ h => KP.out j h, fun _ => hx⟩⟩
        rw [hx] at hi
        clear hx KP
        go_wp2
        go_loopw [6] (fun iv wr => ∃ q : Nat, p ≤ q ∧ q ≤ s.size ∧ iv = .int .i64 q ∧ wr = w1 ∧ ∀ j, p ≤ j → j < q → sN s j ≠ 62) (fun iv _ => s.size - (intOf iv).toNat)
        case atStart => exact ⟨p, Nat.le_refl _, by omega, rfl, rfl, fun j h1 h2 => by omega⟩
        case round =>
          obtain ⟨q, hq0, hq, rfl, rfl, hp⟩ := hrel
          have KQ := Kept.mk hp
          clear hp
          have KRW : Kept (IB wr w.heap.size idt0) := ⟨KR1.out⟩
          have KBW : Kept (Below w.heap.size w wr) := ⟨KB1.out⟩
          have c0 : wr.cell? ⟨w.heap.size, 0, none⟩ = some (.string ⟨#[]⟩) := KRW.out.c0
          have c1 : wr.cell? ⟨w.heap.size, 1, none⟩ = some (.string ⟨#[]⟩) := KRW.out.c1
          have c2 : wr.cell? ⟨w.heap.size, 2, none⟩ = some (.int .i64 0) := KRW.out.c2
          have c3 : wr.cell? ⟨w.heap.size, 3, none⟩ = some (.int .i64 0) := KRW.out.c3
          have f0 := KRW.out.fz 0
          have f1 := KRW.out.fz 1
          have f2 := KRW.out.fz 2
          have f3 := KRW.out.fz 3
          by_cases hlt2 : q < s.size
          · have hd3 : ((q : Int) < (s.size : Int)) := by omega
            have hi2 := run_index_text wr s .i64 q hlt2
            by_cases hx2 : sN s q = 62
            · have KF : Kept (Fst s 60 0 p ∧ Fst s 62 p q) := ⟨KF1.out, ⟨hq0, hq, KQ.out, fun _ => hx2⟩⟩
              rw [hx2] at hi2
              clear hx2 KQ
              by_cases e1 : s.size < 6
              · have e1' : (s.size : Int) - 6 < 0 := by omega
                have KX : Kept (dpF s p q = (idt0, 4)) := ⟨dp_none (by unfold gF; rw [if_pos (by omega)])⟩
                go_wp2
                obtain ⟨w9, hw9, hI9, hB9⟩ : ∃ w9, (((wr.setCell ⟨w.heap.size, 0, none⟩ (.string ⟨#[]⟩)).setCell ⟨w.heap.size, 1, none⟩ (.string ⟨#[]⟩)).setCell ⟨w.heap.size, 2, none⟩ (.int .i64 0)).setCell ⟨w.heap.size, 3, none⟩ (.int .i64 0) = w9 ∧ IB w9 w.heap.size ⟨⟨#[]⟩, ⟨#[]⟩, 0, 0⟩ ∧ Below w.heap.size w w9 :=
                  ⟨_, rfl, ((((KRW.out).s0 ⟨#[]⟩).s1 ⟨#[]⟩).s2 0).s3 0, (((KBW.out.setCell (Nat.le_refl _) _).setCell (Nat.le_refl _) _).setCell (Nat.le_refl _) _).setCell (Nat.le_refl _) _⟩
                rw [hw9]
                have g0 : w9.cell? ⟨w.heap.size, 0, none⟩ = some (.string ⟨#[]⟩) := hI9.c0
                have g1 : w9.cell? ⟨w.heap.size, 1, none⟩ = some (.string ⟨#[]⟩) := hI9.c1
                have g2 : w9.cell? ⟨w.heap.size, 2, none⟩ = some (.int .i64 0) := hI9.c2
                have g3 : w9.cell? ⟨w.heap.size, 3, none⟩ = some (.int .i64 0) := hI9.c3
                have KB9 := Kept.mk hB9
                clear hw9 hI9 hB9 c0 c1 c2 c3 f0 f1 f2 f3
                refine bodyPost_ret (v := .tuple #[.agg #[.string ⟨#[]⟩, .string ⟨#[]⟩, .int .i64 0, .int .i64 0], .int .i64 4]) (by simp [results, Tryz.results44, go_sem, g0, g1, g2, g3]) rfl ?_
                exact ⟨⟨p, q, KF.out.1, KF.out.2, by rw [KX.out]; rfl, KB9.out⟩⟩
              · have e1' : ¬ ((s.size : Int) - 6 < 0) := by omega
                by_cases e2 : p < 1
                · have e2' : (p : Int) < 1 := by omega
                  have KX : Kept (dpF s p q = (idt0, 4)) := ⟨dp_none (by unfold gF; rw [if_pos (by omega)])⟩
                  go_wp2
                  obtain ⟨w9, hw9, hI9, hB9⟩ : ∃ w9, (((wr.setCell ⟨w.heap.size, 0, none⟩ (.string ⟨#[]⟩)).setCell ⟨w.heap.size, 1, none⟩ (.string ⟨#[]⟩)).setCell ⟨w.heap.size, 2, none⟩ (.int .i64 0)).setCell ⟨w.heap.size, 3, none⟩ (.int .i64 0) = w9 ∧ IB w9 w.heap.size ⟨⟨#[]⟩, ⟨#[]⟩, 0, 0⟩ ∧ Below w.heap.size w w9 :=
                    ⟨_, rfl, ((((KRW.out).s0 ⟨#[]⟩).s1 ⟨#[]⟩).s2 0).s3 0, (((KBW.out.setCell (Nat.le_refl _) _).setCell (Nat.le_refl _) _).setCell (Nat.le_refl _) _).setCell (Nat.le_refl _) _⟩
                  rw [hw9]
                  have g0 : w9.cell? ⟨w.heap.size, 0, none⟩ = some (.string ⟨#[]⟩) := hI9.c0
                  have g1 : w9.cell? ⟨w.heap.size, 1, none⟩ = some (.string ⟨#[]⟩) := hI9.c1
                  have g2 : w9.cell? ⟨w.heap.size, 2, none⟩ = some (.int .i64 0) := hI9.c2
                  have g3 : w9.cell? ⟨w.heap.size, 3, none⟩ = some (.int .i64 0) := hI9.c3
                  have KB9 := Kept.mk hB9
                  clear hw9 hI9 hB9 c0 c1 c2 c3 f0 f1 f2 f3
                  refine bodyPost_ret (v := .tuple #[.agg #[.string ⟨#[]⟩, .string ⟨#[]⟩, .int .i64 0, .int .i64 0], .int .i64 4]) (by simp [results, Tryz.results44, go_sem, g0, g1, g2, g3]) rfl ?_
                  exact ⟨⟨p, q, KF.out.1, KF.out.2, by rw [KX.out]; rfl, KB9.out⟩⟩
                · have e2' : ¬ (p : Int) < 1 := by omega
                  have hwq : IntKind.i64.wrap ((q : Int) + 2) = (q : Int) + 2 := by rw [IntKind.wrap_i64]; omega
                  by_cases e3 : s.size < q + 8
                  · have e3' : (s.size : Int) - 6 < (q : Int) + 2 := by omega
                    have KX : Kept (dpF s p q = (idt0, 4)) := ⟨dp_none (by unfold gF; rw [if_pos (by omega)])⟩
                    go_wp2
                    obtain ⟨w9, hw9, hI9, hB9⟩ : ∃ w9, (((wr.setCell ⟨w.heap.size, 0, none⟩ (.string ⟨#[]⟩)).setCell ⟨w.heap.size, 1, none⟩ (.string ⟨#[]⟩)).setCell ⟨w.heap.size, 2, none⟩ (.int .i64 0)).setCell ⟨w.heap.size, 3, none⟩ (.int .i64 0) = w9 ∧ IB w9 w.heap.size ⟨⟨#[]⟩, ⟨#[]⟩, 0, 0⟩ ∧ Below w.heap.size w w9 :=
                      ⟨_, rfl, ((((KRW.out).s0 ⟨#[]⟩).s1 ⟨#[]⟩).s2 0).s3 0, (((KBW.out.setCell (Nat.le_refl _) _).setCell (Nat.le_refl _) _).setCell (Nat.le_refl _) _).setCell (Nat.le_refl _) _⟩
                    rw [hw9]
                    have g0 : w9.cell? ⟨w.heap.size, 0, none⟩ = some (.string ⟨#[]⟩) := hI9.c0
                    have g1 : w9.cell? ⟨w.heap.size, 1, none⟩ = some (.string ⟨#[]⟩) := hI9.c1
                    have g2 : w9.cell? ⟨w.heap.size, 2, none⟩ = some (.int .i64 0) := hI9.c2
                    have g3 : w9.cell? ⟨w.heap.size, 3, none⟩ = some (.int .i64 0) := hI9.c3
                    have KB9 := Kept.mk hB9
                    clear hw9 hI9 hB9 c0 c1 c2 c3 f0 f1 f2 f3
                    refine bodyPost_ret (v := .tuple #[.agg #[.string ⟨#[]⟩, .string ⟨#[]⟩, .int .i64 0, .int .i64 0], .int .i64 4]) (by simp [results, Tryz.results44, go_sem, g0, g1, g2, g3]) rfl ?_
                    exact ⟨⟨p, q, KF.out.1, KF.out.2, by rw [KX.out]; rfl, KB9.out⟩⟩
                  · have e3' : ¬ ((s.size : Int) - 6 < (q : Int) + 2) := by omega
                    have KZ : Kept (gF s p q = if nmF (s.extract (s.size - 6 + 2) s.size) < 0 then none else some ⟨s.extract 0 (p - 1), s.extract (p + 1) q, nmF (s.extract (q + 2) (s.size - 6)), if sN s (s.size - 5) = 45 then -(nmF (s.extract (s.size - 6 + 2) s.size) / 100 * 60 + nmF (s.extract (s.size - 6 + 2) s.size) % 100) else nmF (s.extract (s.size - 6 + 2) s.size) / 100 * 60 + nmF (s.extract (s.size - 6 + 2) s.size) % 100⟩) := ⟨by unfold gF; rw [if_neg (by omega), show s.size - 4 = s.size - 6 + 2 by omega]⟩
                    have KN1 := Kept.mk (rnumber_any (s.extract (s.size - 6 + 2) s.size) wr)
                    have hzr := nmF_range (s.extract (s.size - 6 + 2) s.size)
                    generalize nmF (s.extract (s.size - 6 + 2) s.size) = z0 at KZ KN1 hzr
                    go_wp2_with fail
                    refine Calls.mono KN1.out (fun e w2 hp => ?_)
                    obtain ⟨rfl, hb2⟩ := hp
                    have KRW : Kept (IB w2 w.heap.size idt0) := ⟨KRW.out.far (hb2.block _ KRW.out.lt)⟩
                    have KBW : Kept (Below w.heap.size w w2) := ⟨KBW.out.trans (hb2.mono KBW.out.size)⟩
                    clear hb2 KN1 c0 c1 c2 c3 f0 f1 f2 f3
                    have c0 : w2.cell? ⟨w.heap.size, 0, none⟩ = some (.string ⟨#[]⟩) := KRW.out.c0
                    have c1 : w2.cell? ⟨w.heap.size, 1, none⟩ = some (.string ⟨#[]⟩) := KRW.out.c1
                    have c2 : w2.cell? ⟨w.heap.size, 2, none⟩ = some (.int .i64 0) := KRW.out.c2
                    have c3 : w2.cell? ⟨w.heap.size, 3, none⟩ = some (.int .i64 0) := KRW.out.c3
                    have f0 := KRW.out.fz 0
                    have f1 := KRW.out.fz 1
                    have f2 := KRW.out.fz 2
                    have f3 := KRW.out.fz 3
                    by_cases hz0 : z0 < 0
                    · have KX : Kept (dpF s p q = (idt0, 4)) := ⟨dp_none (by rw [KZ.out, if_pos hz0])⟩
                      go_wp2
                      obtain ⟨w9, hw9, hI9, hB9⟩ : ∃ w9, (((w2.setCell ⟨w.heap.size, 0, none⟩ (.string ⟨#[]⟩)).setCell ⟨w.heap.size, 1, none⟩ (.string ⟨#[]⟩)).setCell ⟨w.heap.size, 2, none⟩ (.int .i64 0)).setCell ⟨w.heap.size, 3, none⟩ (.int .i64 0) = w9 ∧ IB w9 w.heap.size ⟨⟨#[]⟩, ⟨#[]⟩, 0, 0⟩ ∧ Below w.heap.size w w9 :=
                        ⟨_, rfl, ((((KRW.out).s0 ⟨#[]⟩).s1 ⟨#[]⟩).s2 0).s3 0, (((KBW.out.setCell (Nat.le_refl _) _).setCell (Nat.le_refl _) _).setCell (Nat.le_refl _) _).setCell (Nat.le_refl _) _⟩
                      rw [hw9]
                      have g0 : w9.cell? ⟨w.heap.size, 0, none⟩ = some (.string ⟨#[]⟩) := hI9.c0
                      have g1 : w9.cell? ⟨w.heap.size, 1, none⟩ = some (.string ⟨#[]⟩) := hI9.c1
                      have g2 : w9.cell? ⟨w.heap.size, 2, none⟩ = some (.int .i64 0) := hI9.c2
                      have g3 : w9.cell? ⟨w.heap.size, 3, none⟩ = some (.int .i64 0) := hI9.c3
                      have KB9 := Kept.mk hB9
                      clear hw9 hI9 hB9 c0 c1 c2 c3 f0 f1 f2 f3
                      refine bodyPost_ret (v := .tuple #[.agg #[.string ⟨#[]⟩, .string ⟨#[]⟩, .int .i64 0, .int .i64 0], .int .i64 4]) (by simp [results, Tryz.results44, go_sem, g0, g1, g2, g3]) rfl ?_
                      exact ⟨⟨p, q, KF.out.1, KF.out.2, by rw [KX.out]; rfl, KB9.out⟩⟩
                    · obtain ⟨zn, rfl⟩ : ∃ zn : Nat, z0 = (zn : Int) := ⟨z0.toNat, by omega⟩
                      rw [if_neg hz0] at KZ
                      have hm1 : IntKind.i64.wrap ((zn : Int) / 100) = (zn : Int) / 100 := by rw [IntKind.wrap_i64]; omega
                      have hm2 : IntKind.i64.wrap ((zn : Int) / 100 * 60) = (zn : Int) / 100 * 60 := by rw [IntKind.wrap_i64]; omega
                      have hm3 : IntKind.i64.wrap ((zn : Int) / 100 * 60 + (zn : Int) % 100) = (zn : Int) / 100 * 60 + (zn : Int) % 100 := by rw [IntKind.wrap_i64]; omega
                      have hm4 : IntKind.i64.wrap (-((zn : Int) / 100 * 60 + (zn : Int) % 100)) = -((zn : Int) / 100 * 60 + (zn : Int) % 100) := by rw [IntKind.wrap_i64]; omega
                      have hm5 : IntKind.i64.wrap ((s.size : Int) - 6 + 1) = (s.size : Int) - 6 + 1 := by rw [IntKind.wrap_i64]; omega
                      have hi3 := run_index_text w2 s .i64 (s.size - 5) (by omega)
                      rw [show ((s.size - 5 : Nat) : Int) = (s.size : Int) - 6 + 1 by omega] at hi3
                      by_cases hx45 : sN s (s.size - 5) = 45
                      · rw [hx45] at hi3
                        rw [if_pos hx45] at KZ
                        clear hx45
                        go_wp2_with fail
                        have hp1 : IntKind.i64.wrap ((p : Int) - 1) = (p : Int) - 1 := by rw [IntKind.wrap_i64]; omega
                        have hp2 : IntKind.i64.wrap ((p : Int) + 1) = (p : Int) + 1 := by rw [IntKind.wrap_i64]; omega
                        have hpq : p + 1 ≤ q := fst_lt KF.out.1 KF.out.2 hlt
                        have KNN := Kept.mk (rnumber_same (s.extract (q + 2) (s.size - 6)))
                        generalize nmF (s.extract (q + 2) (s.size - 6)) = t0 at KZ KNN
                        have x1 : ¬ ((s.size : Int) < (p : Int) - 1) := by omega
                        have x2 : 0 ≤ (p : Int) - 1 := by omega
                        have x3 : 0 ≤ (p : Int) + 1 := by omega
                        have x4 : (p : Int) + 1 ≤ (q : Int) := by omega
                        have x5 : 0 ≤ (q : Int) + 2 := by omega
                        have x6 : (q : Int) + 2 ≤ (s.size : Int) - 6 := by omega
                        have x7 : (s.size : Int) - 6 ≤ (s.size : Int) := by omega
                        have x8 : ((p : Int) - 1).toNat = p - 1 := by omega
                        have x9 : ((p : Int) + 1).toNat = p + 1 := by omega
                        have x10 : ((q : Int) + 2).toNat = q + 2 := by omega
                        have x11 : ((s.size : Int) - 6).toNat = s.size - 6 := by omega
                        have x12 : (p : Int) - 1 ≤ (s.size : Int) := by omega
                        have x13 : 6 ≤ (s.size : Int) := by omega
                        go_region_held3 (fun _ => True) (exact trivial) (first | (go_at_call 83; refine Calls.mono (KNN.out _) (fun e w3 hp => ?_); obtain ⟨rfl, rfl⟩ := hp) | fail)
                        all_goals
                          obtain ⟨nm, hnm⟩ : ∃ nm, s.extract 0 (p - 1) = nm := ⟨_, rfl⟩
                          obtain ⟨em, hem⟩ : ∃ em, s.extract (p + 1) q = em := ⟨_, rfl⟩
                          obtain ⟨zz, hzz⟩ : ∃ zz : Int, -((zn : Int) / 100 * 60 + (zn : Int) % 100) = zz := ⟨_, rfl⟩
                          rw [hnm, hem, hzz] at KZ
                          rw [hnm, hem, hzz]
                          obtain ⟨w4, hw4, hI4, hb4⟩ : ∃ w4, (w2.alloc (.cells #[.string nm, .string em, .int .i64 t0, .int .i64 zz] 38)).drew = w4 ∧ IB w4 w2.heap.size ⟨nm, em, t0, zz⟩ ∧ Below w2.heap.size w2 w4 := ⟨_, rfl, heap_alloc_new w2 _, ((Below.refl _ _).alloc (Nat.le_refl _) _).drew⟩
                          rw [hw4]
                          have KRW : Kept (IB w4 w.heap.size idt0) := ⟨KRW.out.far (hb4.block _ KRW.out.lt)⟩
                          have KBW : Kept (Below w.heap.size w w4) := ⟨KBW.out.trans (hb4.mono KBW.out.size)⟩
                          have KII := Kept.mk hI4
                          have d0 : w4.cell? ⟨w2.heap.size, 0, none⟩ = some (.string nm) := hI4.c0
                          have d1 : w4.cell? ⟨w2.heap.size, 1, none⟩ = some (.string em) := hI4.c1
                          have d2 : w4.cell? ⟨w2.heap.size, 2, none⟩ = some (.int .i64 t0) := hI4.c2
                          have d3 : w4.cell? ⟨w2.heap.size, 3, none⟩ = some (.int .i64 zz) := hI4.c3
                          have KId := Kept.mk (rident_any ⟨nm, em, t0, zz⟩ w4)
                          have KPt : Kept (idF ⟨nm, em, t0, zz⟩ = true → ∀ w', Gl w' → Calls Tryz.prog 85 #[.agg #[.string nm, .string em, .int .i64 t0, .int .i64 zz]] w' fun e w'' => e = .returned (.string (putB ⟨nm, em, t0, zz⟩)) ∧ Below w'.heap.size w' w'') := ⟨fun h w' hg => rput_any ⟨nm, em, t0, zz⟩ h w' hg⟩
                          have KD : Kept (dpF s p q = if idF ⟨nm, em, t0, zz⟩ = true ∧ putB ⟨nm, em, t0, zz⟩ = s then (⟨nm, em, t0, zz⟩, 0) else (idt0, 4)) := ⟨by unfold dpF; rw [KZ.out]⟩
                          unfold Idt.v at KId
                          simp only at KId
                          have hse := str_eq (putB ⟨nm, em, t0, zz⟩) s
                          generalize putB ⟨nm, em, t0, zz⟩ = PB at KPt KD hse
                          clear hw4 hI4 hb4 hnm hem hzz c0 c1 c2 c3 f0 f1 f2 f3 KZ KNN x1 x2 x3 x4 x5 x6 x7 x8 x9 x10 x11 x12 x13 hm1 hm2 hm3 hm4 hm5 hp1 hp2 hi3 hwq e1' e2' e3' hi hi2 hd2 hd3
                          cases hid : idF ⟨nm, em, t0, zz⟩ with
                          | false =>
                            rw [hid] at KId
                            have KX : Kept (dpF s p q = (idt0, 4)) := ⟨by rw [KD.out, if_neg (by rw [hid]; simp)]⟩
                            clear hse KPt KD hid
                            go_wp2_with fail
                            refine Calls.mono KId.out (fun e w5 hp => ?_)
                            obtain ⟨rfl, hb5⟩ := hp
                            have KRW : Kept (IB w5 w.heap.size idt0) := ⟨KRW.out.far (hb5.block _ KRW.out.lt)⟩
                            have KBW : Kept (Below w.heap.size w w5) := ⟨KBW.out.trans (hb5.mono KBW.out.size)⟩
                            clear hb5 d0 d1 d2 d3
                            have c0 : w5.cell? ⟨w.heap.size, 0, none⟩ = some (.string ⟨#[]⟩) := KRW.out.c0
                            have c1 : w5.cell? ⟨w.heap.size, 1, none⟩ = some (.string ⟨#[]⟩) := KRW.out.c1
                            have c2 : w5.cell? ⟨w.heap.size, 2, none⟩ = some (.int .i64 0) := KRW.out.c2
                            have c3 : w5.cell? ⟨w.heap.size, 3, none⟩ = some (.int .i64 0) := KRW.out.c3
                            have f0 := KRW.out.fz 0
                            have f1 := KRW.out.fz 1
                            have f2 := KRW.out.fz 2
                            have f3 := KRW.out.fz 3
                            go_wp2
                            obtain ⟨w9, hw9, hI9, hB9⟩ : ∃ w9, (((w5.setCell ⟨w.heap.size, 0, none⟩ (.string ⟨#[]⟩)).setCell ⟨w.heap.size, 1, none⟩ (.string ⟨#[]⟩)).setCell ⟨w.heap.size, 2, none⟩ (.int .i64 0)).setCell ⟨w.heap.size, 3, none⟩ (.int .i64 0) = w9 ∧ IB w9 w.heap.size ⟨⟨#[]⟩, ⟨#[]⟩, 0, 0⟩ ∧ Below w.heap.size w w9 :=
                              ⟨_, rfl, ((((KRW.out).s0 ⟨#[]⟩).s1 ⟨#[]⟩).s2 0).s3 0, (((KBW.out.setCell (Nat.le_refl _) _).setCell (Nat.le_refl _) _).setCell (Nat.le_refl _) _).setCell (Nat.le_refl _) _⟩
                            rw [hw9]
                            have g0 : w9.cell? ⟨w.heap.size, 0, none⟩ = some (.string ⟨#[]⟩) := hI9.c0
                            have g1 : w9.cell? ⟨w.heap.size, 1, none⟩ = some (.string ⟨#[]⟩) := hI9.c1
                            have g2 : w9.cell? ⟨w.heap.size, 2, none⟩ = some (.int .i64 0) := hI9.c2
                            have g3 : w9.cell? ⟨w.heap.size, 3, none⟩ = some (.int .i64 0) := hI9.c3
                            have KB9 := Kept.mk hB9
                            clear hw9 hI9 hB9 c0 c1 c2 c3 f0 f1 f2 f3
                            refine bodyPost_ret (v := .tuple #[.agg #[.string ⟨#[]⟩, .string ⟨#[]⟩, .int .i64 0, .int .i64 0], .int .i64 4]) (by simp [results, Tryz.results44, go_sem, g0, g1, g2, g3]) rfl ?_
                            exact ⟨⟨p, q, KF.out.1, KF.out.2, by rw [KX.out]; rfl, KB9.out⟩⟩
                          | true =>
                            rw [hid] at KId
                            have KPt := Kept.mk (KPt.out hid)
                            go_wp2_with fail
                            refine Calls.mono KId.out (fun e w5 hp => ?_)
                            obtain ⟨rfl, hb5⟩ := hp
                            have KRW : Kept (IB w5 w.heap.size idt0) := ⟨KRW.out.far (hb5.block _ KRW.out.lt)⟩
                            have KBW : Kept (Below w.heap.size w w5) := ⟨KBW.out.trans (hb5.mono KBW.out.size)⟩
                            have hI5 := KII.out.far (hb5.block _ KII.out.lt)
                            have KII := Kept.mk hI5
                            clear d0 d1 d2 d3
                            have d0 : w5.cell? ⟨w2.heap.size, 0, none⟩ = some (.string nm) := hI5.c0
                            have d1 : w5.cell? ⟨w2.heap.size, 1, none⟩ = some (.string em) := hI5.c1
                            have d2 : w5.cell? ⟨w2.heap.size, 2, none⟩ = some (.int .i64 t0) := hI5.c2
                            have d3 : w5.cell? ⟨w2.heap.size, 3, none⟩ = some (.int .i64 zz) := hI5.c3
                            clear hb5 hI5
                            go_wp2_with fail
                            refine Calls.mono (KPt.out w5 (KG.out _ KBW.out)) (fun e w6 hp => ?_)
                            obtain ⟨rfl, hb6⟩ := hp
                            have KRW : Kept (IB w6 w.heap.size idt0) := ⟨KRW.out.far (hb6.block _ KRW.out.lt)⟩
                            have KBW : Kept (Below w.heap.size w w6) := ⟨KBW.out.trans (hb6.mono KBW.out.size)⟩
                            have hI6 := KII.out.far (hb6.block _ KII.out.lt)
                            clear d0 d1 d2 d3
                            have d0 : w6.cell? ⟨w2.heap.size, 0, none⟩ = some (.string nm) := hI6.c0
                            have d1 : w6.cell? ⟨w2.heap.size, 1, none⟩ = some (.string em) := hI6.c1
                            have d2 : w6.cell? ⟨w2.heap.size, 2, none⟩ = some (.int .i64 t0) := hI6.c2
                            have d3 : w6.cell? ⟨w2.heap.size, 3, none⟩ = some (.int .i64 zz) := hI6.c3
                            clear hb6 hI6 KPt KII
                            have c0 : w6.cell? ⟨w.heap.size, 0, none⟩ = some (.string ⟨#[]⟩) := KRW.out.c0
                            have c1 : w6.cell? ⟨w.heap.size, 1, none⟩ = some (.string ⟨#[]⟩) := KRW.out.c1
                            have c2 : w6.cell? ⟨w.heap.size, 2, none⟩ = some (.int .i64 0) := KRW.out.c2
                            have c3 : w6.cell? ⟨w.heap.size, 3, none⟩ = some (.int .i64 0) := KRW.out.c3
                            have f0 := KRW.out.fz 0
                            have f1 := KRW.out.fz 1
                            have f2 := KRW.out.fz 2
                            have f3 := KRW.out.fz 3
                            by_cases heq : PB = s
                            · have KX : Kept (dpF s p q = (⟨nm, em, t0, zz⟩, 0)) := ⟨by rw [KD.out, if_pos ⟨hid, heq⟩]⟩
                              rw [decide_eq_true heq] at hse
                              clear heq KD hid
                              go_wp2
                              obtain ⟨w9, hw9, hI9, hB9⟩ : ∃ w9, (((w6.setCell ⟨w.heap.size, 0, none⟩ (.string nm)).setCell ⟨w.heap.size, 1, none⟩ (.string em)).setCell ⟨w.heap.size, 2, none⟩ (.int .i64 t0)).setCell ⟨w.heap.size, 3, none⟩ (.int .i64 zz) = w9 ∧ IB w9 w.heap.size ⟨nm, em, t0, zz⟩ ∧ Below w.heap.size w w9 :=
                                ⟨_, rfl, ((((KRW.out).s0 nm).s1 em).s2 t0).s3 zz, (((KBW.out.setCell (Nat.le_refl _) _).setCell (Nat.le_refl _) _).setCell (Nat.le_refl _) _).setCell (Nat.le_refl _) _⟩
                              rw [hw9]
                              have g0 : w9.cell? ⟨w.heap.size, 0, none⟩ = some (.string nm) := hI9.c0
                              have g1 : w9.cell? ⟨w.heap.size, 1, none⟩ = some (.string em) := hI9.c1
                              have g2 : w9.cell? ⟨w.heap.size, 2, none⟩ = some (.int .i64 t0) := hI9.c2
                              have g3 : w9.cell? ⟨w.heap.size, 3, none⟩ = some (.int .i64 zz) := hI9.c3
                              have KB9 := Kept.mk hB9
                              clear hw9 hI9 hB9 c0 c1 c2 c3 f0 f1 f2 f3 d0 d1 d2 d3
                              refine bodyPost_ret (v := .tuple #[.agg #[.string nm, .string em, .int .i64 t0, .int .i64 zz], .int .i64 0]) (by simp [results, Tryz.results44, go_sem, g0, g1, g2, g3]) rfl ?_
                              exact ⟨⟨p, q, KF.out.1, KF.out.2, by rw [KX.out]; rfl, KB9.out⟩⟩
                            · have KX : Kept (dpF s p q = (idt0, 4)) := ⟨by rw [KD.out, if_neg (fun h => heq h.2)]⟩
                              rw [decide_eq_false heq] at hse
                              clear heq KD hid d0 d1 d2 d3
                              go_wp2
                              obtain ⟨w9, hw9, hI9, hB9⟩ : ∃ w9, (((w6.setCell ⟨w.heap.size, 0, none⟩ (.string ⟨#[]⟩)).setCell ⟨w.heap.size, 1, none⟩ (.string ⟨#[]⟩)).setCell ⟨w.heap.size, 2, none⟩ (.int .i64 0)).setCell ⟨w.heap.size, 3, none⟩ (.int .i64 0) = w9 ∧ IB w9 w.heap.size ⟨⟨#[]⟩, ⟨#[]⟩, 0, 0⟩ ∧ Below w.heap.size w w9 :=
                                ⟨_, rfl, ((((KRW.out).s0 ⟨#[]⟩).s1 ⟨#[]⟩).s2 0).s3 0, (((KBW.out.setCell (Nat.le_refl _) _).setCell (Nat.le_refl _) _).setCell (Nat.le_refl _) _).setCell (Nat.le_refl _) _⟩
                              rw [hw9]
                              have g0 : w9.cell? ⟨w.heap.size, 0, none⟩ = some (.string ⟨#[]⟩) := hI9.c0
                              have g1 : w9.cell? ⟨w.heap.size, 1, none⟩ = some (.string ⟨#[]⟩) := hI9.c1
                              have g2 : w9.cell? ⟨w.heap.size, 2, none⟩ = some (.int .i64 0) := hI9.c2
                              have g3 : w9.cell? ⟨w.heap.size, 3, none⟩ = some (.int .i64 0) := hI9.c3
                              have KB9 := Kept.mk hB9
                              clear hw9 hI9 hB9 c0 c1 c2 c3 f0 f1 f2 f3
                              refine bodyPost_ret (v := .tuple #[.agg #[.string ⟨#[]⟩, .string ⟨#[]⟩, .int .i64 0, .int .i64 0], .int .i64 4]) (by simp [results, Tryz.results44, go_sem, g0, g1, g2, g3]) rfl ?_
                              exact ⟨⟨p, q, KF.out.1, KF.out.2, by rw [KX.out]; rfl, KB9.out⟩⟩
                      · have hxb : (sN s (s.size - 5) == 45) = false := by simpa using hx45
                        rw [if_neg hx45] at KZ
                        generalize sN s (s.size - 5) = x at hi3 hxb
                        clear hx45
                        go_wp2_with fail
                        have hp1 : IntKind.i64.wrap ((p : Int) - 1) = (p : Int) - 1 := by rw [IntKind.wrap_i64]; omega
                        have hp2 : IntKind.i64.wrap ((p : Int) + 1) = (p : Int) + 1 := by rw [IntKind.wrap_i64]; omega
                        have hpq : p + 1 ≤ q := fst_lt KF.out.1 KF.out.2 hlt
                        have KNN := Kept.mk (rnumber_same (s.extract (q + 2) (s.size - 6)))
                        generalize nmF (s.extract (q + 2) (s.size - 6)) = t0 at KZ KNN
                        have x1 : ¬ ((s.size : Int) < (p : Int) - 1) := by omega
                        have x2 : 0 ≤ (p : Int) - 1 := by omega
                        have x3 : 0 ≤ (p : Int) + 1 := by omega
                        have x4 : (p : Int) + 1 ≤ (q : Int) := by omega
                        have x5 : 0 ≤ (q : Int) + 2 := by omega
                        have x6 : (q : Int) + 2 ≤ (s.size : Int) - 6 := by omega
                        have x7 : (s.size : Int) - 6 ≤ (s.size : Int) := by omega
                        have x8 : ((p : Int) - 1).toNat = p - 1 := by omega
                        have x9 : ((p : Int) + 1).toNat = p + 1 := by omega
                        have x10 : ((q : Int) + 2).toNat = q + 2 := by omega
                        have x11 : ((s.size : Int) - 6).toNat = s.size - 6 := by omega
                        have x12 : (p : Int) - 1 ≤ (s.size : Int) := by omega
                        have x13 : 6 ≤ (s.size : Int) := by omega
                        go_region_held3 (fun _ => True) (exact trivial) (first | (go_at_call 83; refine Calls.mono (KNN.out _) (fun e w3 hp => ?_); obtain ⟨rfl, rfl⟩ := hp) | fail)
                        all_goals
                          obtain ⟨nm, hnm⟩ : ∃ nm, s.extract 0 (p - 1) = nm := ⟨_, rfl⟩
                          obtain ⟨em, hem⟩ : ∃ em, s.extract (p + 1) q = em := ⟨_, rfl⟩
                          obtain ⟨zz, hzz⟩ : ∃ zz : Int, (zn : Int) / 100 * 60 + (zn : Int) % 100 = zz := ⟨_, rfl⟩
                          rw [hnm, hem, hzz] at KZ
                          rw [hnm, hem, hzz]
                          obtain ⟨w4, hw4, hI4, hb4⟩ : ∃ w4, (w2.alloc (.cells #[.string nm, .string em, .int .i64 t0, .int .i64 zz] 38)).drew = w4 ∧ IB w4 w2.heap.size ⟨nm, em, t0, zz⟩ ∧ Below w2.heap.size w2 w4 := ⟨_, rfl, heap_alloc_new w2 _, ((Below.refl _ _).alloc (Nat.le_refl _) _).drew⟩
                          rw [hw4]
                          have KRW : Kept (IB w4 w.heap.size idt0) := ⟨KRW.out.far (hb4.block _ KRW.out.lt)⟩
                          have KBW : Kept (Below w.heap.size w w4) := ⟨KBW.out.trans (hb4.mono KBW.out.size)⟩
                          have KII := Kept.mk hI4
                          have d0 : w4.cell? ⟨w2.heap.size, 0, none⟩ = some (.string nm) := hI4.c0
                          have d1 : w4.cell? ⟨w2.heap.size, 1, none⟩ = some (.string em) := hI4.c1
                          have d2 : w4.cell? ⟨w2.heap.size, 2, none⟩ = some (.int .i64 t0) := hI4.c2
                          have d3 : w4.cell? ⟨w2.heap.size, 3, none⟩ = some (.int .i64 zz) := hI4.c3
                          have KId := Kept.mk (rident_any ⟨nm, em, t0, zz⟩ w4)
                          have KPt : Kept (idF ⟨nm, em, t0, zz⟩ = true → ∀ w', Gl w' → Calls Tryz.prog 85 #[.agg #[.string nm, .string em, .int .i64 t0, .int .i64 zz]] w' fun e w'' => e = .returned (.string (putB ⟨nm, em, t0, zz⟩)) ∧ Below w'.heap.size w' w'') := ⟨fun h w' hg => rput_any ⟨nm, em, t0, zz⟩ h w' hg⟩
                          have KD : Kept (dpF s p q = if idF ⟨nm, em, t0, zz⟩ = true ∧ putB ⟨nm, em, t0, zz⟩ = s then (⟨nm, em, t0, zz⟩, 0) else (idt0, 4)) := ⟨by unfold dpF; rw [KZ.out]⟩
                          unfold Idt.v at KId
                          simp only at KId
                          have hse := str_eq (putB ⟨nm, em, t0, zz⟩) s
                          generalize putB ⟨nm, em, t0, zz⟩ = PB at KPt KD hse
                          clear hw4 hI4 hb4 hnm hem hzz c0 c1 c2 c3 f0 f1 f2 f3 KZ KNN x1 x2 x3 x4 x5 x6 x7 x8 x9 x10 x11 x12 x13 hm1 hm2 hm3 hm4 hm5 hp1 hp2 hi3 hwq e1' e2' e3' hi hi2 hd2 hd3
                          cases hid : idF ⟨nm, em, t0, zz⟩ with
                          | false =>
                            rw [hid] at KId
                            have KX : Kept (dpF s p q = (idt0, 4)) := ⟨by rw [KD.out, if_neg (by rw [hid]; simp)]⟩
                            clear hse KPt KD hid
                            go_wp2_with fail
                            refine Calls.mono KId.out (fun e w5 hp => ?_)
                            obtain ⟨rfl, hb5⟩ := hp
                            have KRW : Kept (IB w5 w.heap.size idt0) := ⟨KRW.out.far (hb5.block _ KRW.out.lt)⟩
                            have KBW : Kept (Below w.heap.size w w5) := ⟨KBW.out.trans (hb5.mono KBW.out.size)⟩
                            clear hb5 d0 d1 d2 d3
                            have c0 : w5.cell? ⟨w.heap.size, 0, none⟩ = some (.string ⟨#[]⟩) := KRW.out.c0
                            have c1 : w5.cell? ⟨w.heap.size, 1, none⟩ = some (.string ⟨#[]⟩) := KRW.out.c1
                            have c2 : w5.cell? ⟨w.heap.size, 2, none⟩ = some (.int .i64 0) := KRW.out.c2
                            have c3 : w5.cell? ⟨w.heap.size, 3, none⟩ = some (.int .i64 0) := KRW.out.c3
                            have f0 := KRW.out.fz 0
                            have f1 := KRW.out.fz 1
                            have f2 := KRW.out.fz 2
                            have f3 := KRW.out.fz 3
                            go_wp2
                            obtain ⟨w9, hw9, hI9, hB9⟩ : ∃ w9, (((w5.setCell ⟨w.heap.size, 0, none⟩ (.string ⟨#[]⟩)).setCell ⟨w.heap.size, 1, none⟩ (.string ⟨#[]⟩)).setCell ⟨w.heap.size, 2, none⟩ (.int .i64 0)).setCell ⟨w.heap.size, 3, none⟩ (.int .i64 0) = w9 ∧ IB w9 w.heap.size ⟨⟨#[]⟩, ⟨#[]⟩, 0, 0⟩ ∧ Below w.heap.size w w9 :=
                              ⟨_, rfl, ((((KRW.out).s0 ⟨#[]⟩).s1 ⟨#[]⟩).s2 0).s3 0, (((KBW.out.setCell (Nat.le_refl _) _).setCell (Nat.le_refl _) _).setCell (Nat.le_refl _) _).setCell (Nat.le_refl _) _⟩
                            rw [hw9]
                            have g0 : w9.cell? ⟨w.heap.size, 0, none⟩ = some (.string ⟨#[]⟩) := hI9.c0
                            have g1 : w9.cell? ⟨w.heap.size, 1, none⟩ = some (.string ⟨#[]⟩) := hI9.c1
                            have g2 : w9.cell? ⟨w.heap.size, 2, none⟩ = some (.int .i64 0) := hI9.c2
                            have g3 : w9.cell? ⟨w.heap.size, 3, none⟩ = some (.int .i64 0) := hI9.c3
                            have KB9 := Kept.mk hB9
                            clear hw9 hI9 hB9 c0 c1 c2 c3 f0 f1 f2 f3
                            refine bodyPost_ret (v := .tuple #[.agg #[.string ⟨#[]⟩, .string ⟨#[]⟩, .int .i64 0, .int .i64 0], .int .i64 4]) (by simp [results, Tryz.results44, go_sem, g0, g1, g2, g3]) rfl ?_
                            exact ⟨⟨p, q, KF.out.1, KF.out.2, by rw [KX.out]; rfl, KB9.out⟩⟩
                          | true =>
                            rw [hid] at KId
                            have KPt := Kept.mk (KPt.out hid)
                            go_wp2_with fail
                            refine Calls.mono KId.out (fun e w5 hp => ?_)
                            obtain ⟨rfl, hb5⟩ := hp
                            have KRW : Kept (IB w5 w.heap.size idt0) := ⟨KRW.out.far (hb5.block _ KRW.out.lt)⟩
                            have KBW : Kept (Below w.heap.size w w5) := ⟨KBW.out.trans (hb5.mono KBW.out.size)⟩
                            have hI5 := KII.out.far (hb5.block _ KII.out.lt)
                            have KII := Kept.mk hI5
                            clear d0 d1 d2 d3
                            have d0 : w5.cell? ⟨w2.heap.size, 0, none⟩ = some (.string nm) := hI5.c0
                            have d1 : w5.cell? ⟨w2.heap.size, 1, none⟩ = some (.string em) := hI5.c1
                            have d2 : w5.cell? ⟨w2.heap.size, 2, none⟩ = some (.int .i64 t0) := hI5.c2
                            have d3 : w5.cell? ⟨w2.heap.size, 3, none⟩ = some (.int .i64 zz) := hI5.c3
                            clear hb5 hI5
                            go_wp2_with fail
                            refine Calls.mono (KPt.out w5 (KG.out _ KBW.out)) (fun e w6 hp => ?_)
                            obtain ⟨rfl, hb6⟩ := hp
                            have KRW : Kept (IB w6 w.heap.size idt0) := ⟨KRW.out.far (hb6.block _ KRW.out.lt)⟩
                            have KBW : Kept (Below w.heap.size w w6) := ⟨KBW.out.trans (hb6.mono KBW.out.size)⟩
                            have hI6 := KII.out.far (hb6.block _ KII.out.lt)
                            clear d0 d1 d2 d3
                            have d0 : w6.cell? ⟨w2.heap.size, 0, none⟩ = some (.string nm) := hI6.c0
                            have d1 : w6.cell? ⟨w2.heap.size, 1, none⟩ = some (.string em) := hI6.c1
                            have d2 : w6.cell? ⟨w2.heap.size, 2, none⟩ = some (.int .i64 t0) := hI6.c2
                            have d3 : w6.cell? ⟨w2.heap.size, 3, none⟩ = some (.int .i64 zz) := hI6.c3
                            clear hb6 hI6 KPt KII
                            have c0 : w6.cell? ⟨w.heap.size, 0, none⟩ = some (.string ⟨#[]⟩) := KRW.out.c0
                            have c1 : w6.cell? ⟨w.heap.size, 1, none⟩ = some (.string ⟨#[]⟩) := KRW.out.c1
                            have c2 : w6.cell? ⟨w.heap.size, 2, none⟩ = some (.int .i64 0) := KRW.out.c2
                            have c3 : w6.cell? ⟨w.heap.size, 3, none⟩ = some (.int .i64 0) := KRW.out.c3
                            have f0 := KRW.out.fz 0
                            have f1 := KRW.out.fz 1
                            have f2 := KRW.out.fz 2
                            have f3 := KRW.out.fz 3
                            by_cases heq : PB = s
                            · have KX : Kept (dpF s p q = (⟨nm, em, t0, zz⟩, 0)) := ⟨by rw [KD.out, if_pos ⟨hid, heq⟩]⟩
                              rw [decide_eq_true heq] at hse
                              clear heq KD hid
                              go_wp2
                              obtain ⟨w9, hw9, hI9, hB9⟩ : ∃ w9, (((w6.setCell ⟨w.heap.size, 0, none⟩ (.string nm)).setCell ⟨w.heap.size, 1, none⟩ (.string em)).setCell ⟨w.heap.size, 2, none⟩ (.int .i64 t0)).setCell ⟨w.heap.size, 3, none⟩ (.int .i64 zz) = w9 ∧ IB w9 w.heap.size ⟨nm, em, t0, zz⟩ ∧ Below w.heap.size w w9 :=
                                ⟨_, rfl, ((((KRW.out).s0 nm).s1 em).s2 t0).s3 zz, (((KBW.out.setCell (Nat.le_refl _) _).setCell (Nat.le_refl _) _).setCell (Nat.le_refl _) _).setCell (Nat.le_refl _) _⟩
                              rw [hw9]
                              have g0 : w9.cell? ⟨w.heap.size, 0, none⟩ = some (.string nm) := hI9.c0
                              have g1 : w9.cell? ⟨w.heap.size, 1, none⟩ = some (.string em) := hI9.c1
                              have g2 : w9.cell? ⟨w.heap.size, 2, none⟩ = some (.int .i64 t0) := hI9.c2
                              have g3 : w9.cell? ⟨w.heap.size, 3, none⟩ = some (.int .i64 zz) := hI9.c3
                              have KB9 := Kept.mk hB9
                              clear hw9 hI9 hB9 c0 c1 c2 c3 f0 f1 f2 f3 d0 d1 d2 d3
                              refine bodyPost_ret (v := .tuple #[.agg #[.string nm, .string em, .int .i64 t0, .int .i64 zz], .int .i64 0]) (by simp [results, Tryz.results44, go_sem, g0, g1, g2, g3]) rfl ?_
                              exact ⟨⟨p, q, KF.out.1, KF.out.2, by rw [KX.out]; rfl, KB9.out⟩⟩
                            · have KX : Kept (dpF s p q = (idt0, 4)) := ⟨by rw [KD.out, if_neg (fun h => heq h.2)]⟩
                              rw [decide_eq_false heq] at hse
                              clear heq KD hid d0 d1 d2 d3
                              go_wp2
                              obtain ⟨w9, hw9, hI9, hB9⟩ : ∃ w9, (((w6.setCell ⟨w.heap.size, 0, none⟩ (.string ⟨#[]⟩)).setCell ⟨w.heap.size, 1, none⟩ (.string ⟨#[]⟩)).setCell ⟨w.heap.size, 2, none⟩ (.int .i64 0)).setCell ⟨w.heap.size, 3, none⟩ (.int .i64 0) = w9 ∧ IB w9 w.heap.size ⟨⟨#[]⟩, ⟨#[]⟩, 0, 0⟩ ∧ Below w.heap.size w w9 :=
                                ⟨_, rfl, ((((KRW.out).s0 ⟨#[]⟩).s1 ⟨#[]⟩).s2 0).s3 0, (((KBW.out.setCell (Nat.le_refl _) _).setCell (Nat.le_refl _) _).setCell (Nat.le_refl _) _).setCell (Nat.le_refl _) _⟩
                              rw [hw9]
                              have g0 : w9.cell? ⟨w.heap.size, 0, none⟩ = some (.string ⟨#[]⟩) := hI9.c0
                              have g1 : w9.cell? ⟨w.heap.size, 1, none⟩ = some (.string ⟨#[]⟩) := hI9.c1
                              have g2 : w9.cell? ⟨w.heap.size, 2, none⟩ = some (.int .i64 0) := hI9.c2
                              have g3 : w9.cell? ⟨w.heap.size, 3, none⟩ = some (.int .i64 0) := hI9.c3
                              have KB9 := Kept.mk hB9
                              clear hw9 hI9 hB9 c0 c1 c2 c3 f0 f1 f2 f3
                              refine bodyPost_ret (v := .tuple #[.agg #[.string ⟨#[]⟩, .string ⟨#[]⟩, .int .i64 0, .int .i64 0], .int .i64 4]) (by simp [results, Tryz.results44, go_sem, g0, g1, g2, g3]) rfl ?_
                              exact ⟨⟨p, q, KF.out.1, KF.out.2, by rw [KX.out]; rfl, KB9.out⟩⟩
            · have KX2 := Kept.mk hx2
              have hxb2 : (sN s q == 62) = false := by simpa using hx2
              have hxb3 : (!(sN s q == 62)) = true := by rw [hxb2]; rfl
              generalize sN s q = x at hi2 hxb2 hxb3
              clear hx2
              go_wp2
              refine ⟨⟨q + 1, by omega, by omega, by simp, trivial, fun j h1 h2 => ?_⟩, by simp [intOf]; omega⟩
              rcases Nat.lt_or_ge j q with h' | h'
              · exact KQ.out j h1 h'
              · rw [show j = q by omega]
                exact KX2.out
          · have hd3 : ¬ ((q : Int) < (s.size : Int)) := by omega
            have KF : Kept (Fst s 60 0 p ∧ Fst s 62 p q) := ⟨KF1.out, ⟨hq0, hq, KQ.out, fun h => absurd h hlt2⟩⟩
            have KX : Kept (dpF s p q = (idt0, 4)) := ⟨dp_none (by unfold gF; rw [if_pos (by omega)])⟩
            clear KQ
            by_cases e1 : s.size < 6
            · have e1' : (s.size : Int) - 6 < 0 := by omega
              go_wp2
              obtain ⟨w9, hw9, hI9, hB9⟩ : ∃ w9, (((wr.setCell ⟨w.heap.size, 0, none⟩ (.string ⟨#[]⟩)).setCell ⟨w.heap.size, 1, none⟩ (.string ⟨#[]⟩)).setCell ⟨w.heap.size, 2, none⟩ (.int .i64 0)).setCell ⟨w.heap.size, 3, none⟩ (.int .i64 0) = w9 ∧ IB w9 w.heap.size ⟨⟨#[]⟩, ⟨#[]⟩, 0, 0⟩ ∧ Below w.heap.size w w9 :=
                ⟨_, rfl, ((((KRW.out).s0 ⟨#[]⟩).s1 ⟨#[]⟩).s2 0).s3 0, (((KBW.out.setCell (Nat.le_refl _) _).setCell (Nat.le_refl _) _).setCell (Nat.le_refl _) _).setCell (Nat.le_refl _) _⟩
              rw [hw9]
              have g0 : w9.cell? ⟨w.heap.size, 0, none⟩ = some (.string ⟨#[]⟩) := hI9.c0
              have g1 : w9.cell? ⟨w.heap.size, 1, none⟩ = some (.string ⟨#[]⟩) := hI9.c1
              have g2 : w9.cell? ⟨w.heap.size, 2, none⟩ = some (.int .i64 0) := hI9.c2
              have g3 : w9.cell? ⟨w.heap.size, 3, none⟩ = some (.int .i64 0) := hI9.c3
              have KB9 := Kept.mk hB9
              clear hw9 hI9 hB9 c0 c1 c2 c3 f0 f1 f2 f3
              refine bodyPost_ret (v := .tuple #[.agg #[.string ⟨#[]⟩, .string ⟨#[]⟩, .int .i64 0, .int .i64 0], .int .i64 4]) (by simp [results, Tryz.results44, go_sem, g0, g1, g2, g3]) rfl ?_
              exact ⟨⟨p, q, KF.out.1, KF.out.2, by rw [KX.out]; rfl, KB9.out⟩⟩
            · by_cases e2 : p < 1
              · have e1' : ¬ ((s.size : Int) - 6 < 0) := by omega
                have e2' : (p : Int) < 1 := by omega
                go_wp2
                obtain ⟨w9, hw9, hI9, hB9⟩ : ∃ w9, (((wr.setCell ⟨w.heap.size, 0, none⟩ (.string ⟨#[]⟩)).setCell ⟨w.heap.size, 1, none⟩ (.string ⟨#[]⟩)).setCell ⟨w.heap.size, 2, none⟩ (.int .i64 0)).setCell ⟨w.heap.size, 3, none⟩ (.int .i64 0) = w9 ∧ IB w9 w.heap.size ⟨⟨#[]⟩, ⟨#[]⟩, 0, 0⟩ ∧ Below w.heap.size w w9 :=
                  ⟨_, rfl, ((((KRW.out).s0 ⟨#[]⟩).s1 ⟨#[]⟩).s2 0).s3 0, (((KBW.out.setCell (Nat.le_refl _) _).setCell (Nat.le_refl _) _).setCell (Nat.le_refl _) _).setCell (Nat.le_refl _) _⟩
                rw [hw9]
                have g0 : w9.cell? ⟨w.heap.size, 0, none⟩ = some (.string ⟨#[]⟩) := hI9.c0
                have g1 : w9.cell? ⟨w.heap.size, 1, none⟩ = some (.string ⟨#[]⟩) := hI9.c1
                have g2 : w9.cell? ⟨w.heap.size, 2, none⟩ = some (.int .i64 0) := hI9.c2
                have g3 : w9.cell? ⟨w.heap.size, 3, none⟩ = some (.int .i64 0) := hI9.c3
                have KB9 := Kept.mk hB9
                clear hw9 hI9 hB9 c0 c1 c2 c3 f0 f1 f2 f3
                refine bodyPost_ret (v := .tuple #[.agg #[.string ⟨#[]⟩, .string ⟨#[]⟩, .int .i64 0, .int .i64 0], .int .i64 4]) (by simp [results, Tryz.results44, go_sem, g0, g1, g2, g3]) rfl ?_
                exact ⟨⟨p, q, KF.out.1, KF.out.2, by rw [KX.out]; rfl, KB9.out⟩⟩
              · have e1' : ¬ ((s.size : Int) - 6 < 0) := by omega
                have e2' : ¬ (p : Int) < 1 := by omega
                have e3' : (s.size : Int) - 6 < (q : Int) + 2 := by omega
                have hwq : IntKind.i64.wrap ((q : Int) + 2) = (q : Int) + 2 := by rw [IntKind.wrap_i64]; omega
                go_wp2
                obtain ⟨w9, hw9, hI9, hB9⟩ : ∃ w9, (((wr.setCell ⟨w.heap.size, 0, none⟩ (.string ⟨#[]⟩)).setCell ⟨w.heap.size, 1, none⟩ (.string ⟨#[]⟩)).setCell ⟨w.heap.size, 2, none⟩ (.int .i64 0)).setCell ⟨w.heap.size, 3, none⟩ (.int .i64 0) = w9 ∧ IB w9 w.heap.size ⟨⟨#[]⟩, ⟨#[]⟩, 0, 0⟩ ∧ Below w.heap.size w w9 :=
                  ⟨_, rfl, ((((KRW.out).s0 ⟨#[]⟩).s1 ⟨#[]⟩).s2 0).s3 0, (((KBW.out.setCell (Nat.le_refl _) _).setCell (Nat.le_refl _) _).setCell (Nat.le_refl _) _).setCell (Nat.le_refl _) _⟩
                rw [hw9]
                have g0 : w9.cell? ⟨w.heap.size, 0, none⟩ = some (.string ⟨#[]⟩) := hI9.c0
                have g1 : w9.cell? ⟨w.heap.size, 1, none⟩ = some (.string ⟨#[]⟩) := hI9.c1
                have g2 : w9.cell? ⟨w.heap.size, 2, none⟩ = some (.int .i64 0) := hI9.c2
                have g3 : w9.cell? ⟨w.heap.size, 3, none⟩ = some (.int .i64 0) := hI9.c3
                have KB9 := Kept.mk hB9
                clear hw9 hI9 hB9 c0 c1 c2 c3 f0 f1 f2 f3
                refine bodyPost_ret (v := .tuple #[.agg #[.string ⟨#[]⟩, .string ⟨#[]⟩, .int .i64 0, .int .i64 0], .int .i64 4]) (by simp [results, Tryz.results44, go_sem, g0, g1, g2, g3]) rfl ?_
                exact ⟨⟨p, q, KF.out.1, KF.out.2, by rw [KX.out]; rfl, KB9.out⟩⟩
      · have KX := Kept.mk hx
        have hxb : (sN s p == 60) = false := by simpa using hx
        have hxb3 : (!(sN s p == 60)) = true := by rw [hxb]; rfl
        generalize sN s p = x at hi hxb hxb3
        clear hx
        go_wp2
        refine ⟨⟨p + 1, by omega, by simp, trivial, fun j hj => ?_⟩, by simp [intOf]; omega⟩
        rcases Nat.lt_or_ge j p with h' | h'
        · exact KP.out j h'
        · rw [show j = p by omega]
          exact KX.out
    · have hd2 : ¬ ((p : Int) < (s.size : Int)) := by omega
      have KF1 : Kept (Fst s 60 0 p) := ⟨⟨by omega, hp0, fun j _ h => KP.out j h, fun h => absurd h hlt⟩⟩
      clear KP
      go_wp2
      go_loopw [6] (fun iv wr => ∃ q : Nat, p ≤ q ∧ q ≤ s.size ∧ iv = .int .i64 q ∧ wr = w1 ∧ ∀ j, p ≤ j → j < q → sN s j ≠ 62) (fun iv _ => s.size - (intOf iv).toNat)
      case atStart => exact ⟨p, Nat.le_refl _, by omega, rfl, rfl, fun j h1 h2 => by omega⟩
      case round =>
        obtain ⟨q, hq0, hq, rfl, rfl, hp⟩ := hrel
        have KQ := Kept.mk hp
        clear hp
        have KRW : Kept (IB wr w.heap.size idt0) := ⟨KR1.out⟩
        have KBW : Kept (Below w.heap.size w wr) := ⟨KB1.out⟩
        have c0 : wr.cell? ⟨w.heap.size, 0, none⟩ = some (.string ⟨#[]⟩) := KRW.out.c0
        have c1 : wr.cell? ⟨w.heap.size, 1, none⟩ = some (.string ⟨#[]⟩) := KRW.out.c1
        have c2 : wr.cell? ⟨w.heap.size, 2, none⟩ = some (.int .i64 0) := KRW.out.c2
        have c3 : wr.cell? ⟨w.heap.size, 3, none⟩ = some (.int .i64 0) := KRW.out.c3
        have f0 := KRW.out.fz 0
        have f1 := KRW.out.fz 1
        have f2 := KRW.out.fz 2
        have f3 := KRW.out.fz 3
        have hlt2 : ¬ q < s.size := by omega
        have hd3 : ¬ ((q : Int) < (s.size : Int)) := by omega
        have KF : Kept (Fst s 60 0 p ∧ Fst s 62 p q) := ⟨KF1.out, ⟨hq0, hq, KQ.out, fun h => absurd h hlt2⟩⟩
        have KX : Kept (dpF s p q = (idt0, 4)) := ⟨dp_none (by unfold gF; rw [if_pos (by omega)])⟩
        clear KQ
        by_cases e1 : s.size < 6
        · have e1' : (s.size : Int) - 6 < 0 := by omega
          go_wp2
          obtain ⟨w9, hw9, hI9, hB9⟩ : ∃ w9, (((wr.setCell ⟨w.heap.size, 0, none⟩ (.string ⟨#[]⟩)).setCell ⟨w.heap.size, 1, none⟩ (.string ⟨#[]⟩)).setCell ⟨w.heap.size, 2, none⟩ (.int .i64 0)).setCell ⟨w.heap.size, 3, none⟩ (.int .i64 0) = w9 ∧ IB w9 w.heap.size ⟨⟨#[]⟩, ⟨#[]⟩, 0, 0⟩ ∧ Below w.heap.size w w9 :=
            ⟨_, rfl, ((((KRW.out).s0 ⟨#[]⟩).s1 ⟨#[]⟩).s2 0).s3 0, (((KBW.out.setCell (Nat.le_refl _) _).setCell (Nat.le_refl _) _).setCell (Nat.le_refl _) _).setCell (Nat.le_refl _) _⟩
          rw [hw9]
          have g0 : w9.cell? ⟨w.heap.size, 0, none⟩ = some (.string ⟨#[]⟩) := hI9.c0
          have g1 : w9.cell? ⟨w.heap.size, 1, none⟩ = some (.string ⟨#[]⟩) := hI9.c1
          have g2 : w9.cell? ⟨w.heap.size, 2, none⟩ = some (.int .i64 0) := hI9.c2
          have g3 : w9.cell? ⟨w.heap.size, 3, none⟩ = some (.int .i64 0) := hI9.c3
          have KB9 := Kept.mk hB9
          clear hw9 hI9 hB9 c0 c1 c2 c3 f0 f1 f2 f3
          refine bodyPost_ret (v := .tuple #[.agg #[.string ⟨#[]⟩, .string ⟨#[]⟩, .int .i64 0, .int .i64 0], .int .i64 4]) (by simp [results, Tryz.results44, go_sem, g0, g1, g2, g3]) rfl ?_
          exact ⟨⟨p, q, KF.out.1, KF.out.2, by rw [KX.out]; rfl, KB9.out⟩⟩
        · by_cases e2 : p < 1
          · exfalso; omega
          · have e1' : ¬ ((s.size : Int) - 6 < 0) := by omega
            have e2' : ¬ (p : Int) < 1 := by omega
            have e3' : (s.size : Int) - 6 < (q : Int) + 2 := by omega
            have hwq : IntKind.i64.wrap ((q : Int) + 2) = (q : Int) + 2 := by rw [IntKind.wrap_i64]; omega
            go_wp2
            obtain ⟨w9, hw9, hI9, hB9⟩ : ∃ w9, (((wr.setCell ⟨w.heap.size, 0, none⟩ (.string ⟨#[]⟩)).setCell ⟨w.heap.size, 1, none⟩ (.string ⟨#[]⟩)).setCell ⟨w.heap.size, 2, none⟩ (.int .i64 0)).setCell ⟨w.heap.size, 3, none⟩ (.int .i64 0) = w9 ∧ IB w9 w.heap.size ⟨⟨#[]⟩, ⟨#[]⟩, 0, 0⟩ ∧ Below w.heap.size w w9 :=
              ⟨_, rfl, ((((KRW.out).s0 ⟨#[]⟩).s1 ⟨#[]⟩).s2 0).s3 0, (((KBW.out.setCell (Nat.le_refl _) _).setCell (Nat.le_refl _) _).setCell (Nat.le_refl _) _).setCell (Nat.le_refl _) _⟩
            rw [hw9]
            have g0 : w9.cell? ⟨w.heap.size, 0, none⟩ = some (.string ⟨#[]⟩) := hI9.c0
            have g1 : w9.cell? ⟨w.heap.size, 1, none⟩ = some (.string ⟨#[]⟩) := hI9.c1
            have g2 : w9.cell? ⟨w.heap.size, 2, none⟩ = some (.int .i64 0) := hI9.c2
            have g3 : w9.cell? ⟨w.heap.size, 3, none⟩ = some (.int .i64 0) := hI9.c3
            have KB9 := Kept.mk hB9
            clear hw9 hI9 hB9 c0 c1 c2 c3 f0 f1 f2 f3
            refine bodyPost_ret (v := .tuple #[.agg #[.string ⟨#[]⟩, .string ⟨#[]⟩, .int .i64 0, .int .i64 0], .int .i64 4]) (by simp [results, Tryz.results44, go_sem, g0, g1, g2, g3]) rfl ?_
            exact ⟨⟨p, q, KF.out.1, KF.out.2, by rw [KX.out]; rfl, KB9.out⟩⟩


theorem fst_one {s : ByteArray} {c : Int} {f p p' : Nat} (h : Fst s c f p) (g : Fst s c f p') : p = p' := by
  rcases Nat.lt_trichotomy p p' with k | k | k
  · exact absurd (h.at' (Nat.lt_of_lt_of_le k g.hi)) (g.no p h.lo k)
  · exact k
  · exact absurd (g.at' (Nat.lt_of_lt_of_le k h.hi)) (h.no p' g.lo k)
def nmL (v : Int) : List UInt8 → Int
  | [] => v
  | c :: l => if 48 ≤ (c.toNat : Int) ∧ (c.toNat : Int) ≤ 57 then nmL (10 * v + ((c.toNat : Int) - 48)) l else -1
theorem sN_list (s : ByteArray) (k : Nat) (c : UInt8) (h : s.data.toList[k]? = some c) : sN s k = (c.toNat : Int) := by
  have hk : k < s.size := by
    have := (List.getElem?_eq_some_iff.1 h).1
    simpa using this
  exact (sN_eq s c hk).2 h
theorem nmGo_list (s : ByteArray) : ∀ (l : List UInt8) (k : Nat) (v : Int), s.data.toList.drop k = l → nmGo s v k l.length = nmL v l
  | [], k, v, _ => rfl
  | c :: l, k, v, h => by
    have hc : s.data.toList[k]? = some c := by
      have := congrArg (fun q => q[0]?) h
      simpa using this
    have hd : s.data.toList.drop (k + 1) = l := by
      have := congrArg List.tail h
      simpa using this
    rw [List.length_cons, nmGo, sN_list s k c hc, nmL]
    split
    · exact nmGo_list s l (k + 1) _ hd
    · rfl
theorem nmF_list {s : ByteArray} {l : List UInt8} (h : s.data.toList = l) (h0 : l ≠ []) (h1 : l.length ≤ 13) : nmF s = nmL 0 l := by
  have hz : s.size = l.length := by rw [Lib.size_eq, h]
  have hl : 0 < l.length := List.length_pos_iff.2 h0
  unfold nmF
  rw [if_neg (by omega), hz]
  exact nmGo_list s l 0 0 (by simpa using h)
theorem nmL_app : ∀ (l r : List UInt8) (v : Int), (∀ b ∈ l, 48 ≤ b.toNat ∧ b.toNat ≤ 57) → nmL v (l ++ r) = nmL (nmL v l) r
  | [], _, _, _ => rfl
  | c :: l, r, v, h => by
    have hc := h c List.mem_cons_self
    rw [List.cons_append, nmL, nmL, if_pos (by omega), if_pos (by omega)]
    exact nmL_app l r _ (fun b hb => h b (List.mem_cons_of_mem _ hb))
theorem nmL_one {d : Nat} (h : d < 10) (v : Int) : nmL v [UInt8.ofNat (48 + d)] = 10 * v + d := by
  rw [nmL, dig_nat h, if_pos (by omega), nmL]
  omega
theorem nmL_dec : ∀ (n u : Nat), u < n → nmL 0 (Lib.decDigits u) = (u : Int)
  | 0, u, h => by omega
  | n + 1, u, h => by
    by_cases h10 : u < 10
    · rw [Lib.decDigits_one h10, nmL_one h10]
      omega
    · rw [dec_step h10, nmL_app _ _ _ (dec_mem n (u / 10) (by omega)), nmL_dec n (u / 10) (by omega), nmL_one (by omega)]
      omega
theorem nmL_zl (a : Nat) (h : a ≤ 1439) : nmL 0 (zl a) = ((a / 60 * 100 + a % 60 : Nat) : Int) := by
  unfold zl
  obtain ⟨x, hx⟩ : ∃ x, a / 60 * 100 + a % 60 = x := ⟨_, rfl⟩
  rw [hx]
  rw [nmL, dig_nat (by omega), if_pos (by omega), nmL, dig_nat (by omega), if_pos (by omega), nmL, dig_nat (by omega), if_pos (by omega), nmL, dig_nat (by omega), if_pos (by omega), nmL]
  omega
theorem extract_list (s : ByteArray) (a b : Nat) : (s.extract a b).data.toList = (s.data.toList.take b).drop a := by
  rw [ByteArray.data_extract, Array.toList_extract, List.extract_eq_take_drop, List.drop_take]
theorem mid (X Y Z : List UInt8) (a b : Nat) (ha : a = X.length) (hb : b = X.length + Y.length) : ((X ++ (Y ++ Z)).take b).drop a = Y := by
  subst ha hb
  rw [← List.append_assoc, List.take_left' (by simp), List.drop_left' rfl]
theorem put_list {i : Idt} (h : idF i = true) : (putB i).data.toList = i.nm.data.toList ++ (32 :: 60 :: (i.em.data.toList ++ (62 :: 32 :: (Lib.decDigits i.tm.toNat ++ (32 :: ((if i.zn < 0 then 45 else 43) :: zl i.zn.natAbs)))))) := by
  unfold idF at h
  simp only [Bool.and_eq_true, decide_eq_true_eq] at h
  unfold putB
  simp only [ByteArray.data_append, Array.toList_append, zone_list h.1.2 h.2, Lib.itoa]
  rw [if_neg (by omega)]
  simp
theorem guess {i : Idt} (h : idF i = true) {s : ByteArray} (hsi : putB i = s) {p q : Nat} (hp : Fst s 60 0 p) (hq : Fst s 62 p q) : gF s p q = some i := by
  have hL := put_list h
  rw [hsi] at hL
  unfold idF at h
  simp only [Bool.and_eq_true, decide_eq_true_eq] at h
  obtain ⟨⟨⟨⟨⟨w1, w2⟩, t0⟩, t1⟩, z0⟩, z1⟩ := h
  obtain ⟨nm, em, tm, zn⟩ := i
  simp only at *
  have wa := (who_mem w1).1
  have we := (who_mem w2).2
  obtain ⟨A, hA⟩ : ∃ A, nm.data.toList = A := ⟨_, rfl⟩
  obtain ⟨E, hE⟩ : ∃ E, em.data.toList = E := ⟨_, rfl⟩
  obtain ⟨T, hT⟩ : ∃ T, Lib.decDigits tm.toNat = T := ⟨_, rfl⟩
  obtain ⟨g, hg⟩ : ∃ g : UInt8, (if zn < 0 then 45 else 43) = g := ⟨_, rfl⟩
  rw [hA] at wa
  rw [hE] at we
  rw [hA, hE, hT, hg] at hL
  have hzl : (zl zn.natAbs).length = 4 := rfl
  have hTl : T.length ≤ 13 := by
    rw [← hT, Lib.decDigits_length]
    exact ndig_le _ 13 (by omega) (by omega)
  have hT1 : T ≠ [] := by
    rw [← hT]
    obtain ⟨c, r, e, -⟩ := dec_head tm.toNat
    rw [e]
    simp
  have hT0 : 0 < T.length := List.length_pos_iff.2 hT1
  have hz : s.size = A.length + E.length + T.length + 10 := by
    rw [Lib.size_eq, hL]
    simp only [List.length_append, List.length_cons, hzl]
    omega
  have hF1 : Fst s 60 0 (A.length + 1) := by
    refine ⟨by omega, by omega, fun j _ hj => ?_, fun _ => ?_⟩
    · rcases Nat.lt_or_ge j A.length with k | k
      · have e : s.data.toList[j]? = some A[j] := by rw [hL, List.getElem?_append_left k, List.getElem?_eq_getElem k]
        rw [sN_list s j _ e]
        intro hc
        have : A[j] = 60 := UInt8.toNat_inj.1 (by show A[j].toNat = 60; have hc' : (A[j].toNat : Int) = 60 := hc; omega)
        exact wa (this ▸ List.getElem_mem k)
      · have ej : j = A.length := by omega
        have e : s.data.toList[j]? = some 32 := by rw [hL, ej, List.getElem?_append_right (Nat.le_refl _)]; simp
        rw [sN_list s j _ e]
        decide
    · have e : s.data.toList[A.length + 1]? = some 60 := by rw [hL, List.getElem?_append_right (by omega)]; simp
      rw [sN_list s _ _ e]
      rfl
  obtain rfl := fst_one hp hF1
  have hF2 : Fst s 62 (A.length + 1) (A.length + 2 + E.length) := by
    refine ⟨by omega, by omega, fun j h1 hj => ?_, fun _ => ?_⟩
    · rcases Nat.lt_or_ge j (A.length + 2) with k | k
      · have ej : j = A.length + 1 := by omega
        have e : s.data.toList[j]? = some 60 := by rw [hL, ej, List.getElem?_append_right (by omega)]; simp
        rw [sN_list s j _ e]
        decide
      · obtain ⟨m, rfl⟩ : ∃ m, j = A.length + 2 + m := ⟨j - (A.length + 2), by omega⟩
        have hm : m < E.length := by omega
        have e : s.data.toList[A.length + 2 + m]? = some E[m] := by
          rw [hL, List.getElem?_append_right (by omega), show A.length + 2 + m - A.length = m + 1 + 1 by omega, List.getElem?_cons_succ, List.getElem?_cons_succ, List.getElem?_append_left hm, List.getElem?_eq_getElem hm]
        rw [sN_list s _ _ e]
        intro hc
        have : E[m] = 62 := UInt8.toNat_inj.1 (by show E[m].toNat = 62; have hc' : (E[m].toNat : Int) = 62 := hc; omega)
        exact we (this ▸ List.getElem_mem hm)
    · have e : s.data.toList[A.length + 2 + E.length]? = some 62 := by
        rw [hL, List.getElem?_append_right (by omega), show A.length + 2 + E.length - A.length = E.length + 1 + 1 by omega, List.getElem?_cons_succ, List.getElem?_cons_succ, List.getElem?_append_right (Nat.le_refl _)]
        simp
      rw [sN_list s _ _ e]
      rfl
  obtain rfl := fst_one hq hF2
  have hbytes : ∀ (x : ByteArray) (l : List UInt8), x.data.toList = l → ∀ y : ByteArray, y.data.toList = l → x = y := fun x l hx y hy => by
    apply ByteArray.ext
    apply Array.toList_inj.1
    rw [hx, hy]
  have x1 : s.extract 0 (A.length + 1 - 1) = nm := hbytes _ A (by rw [extract_list, hL]; exact mid [] A _ _ _ rfl (by simp)) _ hA
  have x2 : s.extract (A.length + 1 + 1) (A.length + 2 + E.length) = em := hbytes _ E (by
    rw [extract_list, hL]
    have := mid (A ++ [32, 60]) E (62 :: 32 :: (T ++ (32 :: (g :: zl zn.natAbs)))) (A.length + 1 + 1) (A.length + 2 + E.length) (by simp) (by simp)
    simpa using this) _ hE
  have x3 : (s.extract (A.length + 2 + E.length + 2) (s.size - 6)).data.toList = T := by
    rw [extract_list, hL]
    have := mid (A ++ 32 :: 60 :: (E ++ [62, 32])) T (32 :: (g :: zl zn.natAbs)) (A.length + 2 + E.length + 2) (s.size - 6) (by simp; omega) (by simp; omega)
    simpa using this
  have x4 : (s.extract (s.size - 4) s.size).data.toList = zl zn.natAbs := by
    rw [extract_list, hL]
    have := mid (A ++ 32 :: 60 :: (E ++ 62 :: 32 :: (T ++ [32, g]))) (zl zn.natAbs) [] (s.size - 4) s.size (by simp; omega) (by simp [hzl]; omega)
    simpa using this
  have x5 : sN s (s.size - 5) = (g.toNat : Int) := by
    refine sN_list s _ _ ?_
    rw [hL]
    have e : A ++ (32 :: 60 :: (E ++ (62 :: 32 :: (T ++ (32 :: (g :: zl zn.natAbs)))))) = (A ++ 32 :: 60 :: (E ++ 62 :: 32 :: (T ++ [32]))) ++ (g :: zl zn.natAbs) := by simp
    rw [e, List.getElem?_append_right (by simp; omega)]
    have : s.size - 5 - (A ++ 32 :: 60 :: (E ++ 62 :: 32 :: (T ++ [32]))).length = 0 := by simp; omega
    rw [this]
    rfl
  have n1 : nmF (s.extract (A.length + 2 + E.length + 2) (s.size - 6)) = tm := by
    rw [nmF_list x3 hT1 hTl, ← hT, nmL_dec _ _ (Nat.lt_succ_self _)]
    omega
  have n2 : nmF (s.extract (s.size - 4) s.size) = ((zn.natAbs / 60 * 100 + zn.natAbs % 60 : Nat) : Int) := by
    rw [nmF_list x4 (by unfold zl; simp) (by rw [hzl]; omega), nmL_zl _ (by omega)]
  unfold gF
  rw [if_neg (by omega), n2, if_neg (by omega), x1, x2, n1, x5]
  congr 2
  rw [← hg]
  by_cases hneg : zn < 0
  · rw [if_pos hneg, if_pos (by decide)]
    omega
  · rw [if_neg hneg, if_neg (by decide)]
    omega
theorem dp_prs {s : ByteArray} {p q : Nat} (hp : Fst s 60 0 p) (hq : Fst s 62 p q) : dpF s p q = prsF s := by
  by_cases h : idF (rfF s) = true ∧ putB (rfF s) = s
  · have e := guess h.1 h.2 hp hq
    unfold dpF prsF
    rw [e, if_pos h]
    exact if_pos h
  · have e : prsF s = (idt0, 4) := by unfold prsF; rw [if_neg h]
    rw [e]
    unfold dpF
    split
    · rfl
    · rename_i i hi
      rw [if_neg]
      intro hc
      have := back_put hc.1
      rw [hc.2] at this
      exact h (by rw [this]; exact hc)
end Go.Proofs.YtkbalngddlhlpaaGreatDoor
