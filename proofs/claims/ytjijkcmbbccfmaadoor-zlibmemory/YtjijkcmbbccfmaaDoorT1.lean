/-
  Walks: toldCodes.
-/
import Derived.Test.YtjijkcmbbccfmaaDoorR9
namespace Go.Proofs.YtjijkcmbbccfmaaDoor
open Go.RowKit

/-- A block of four cells. -/
def B4 (w : World) (b : Nat) (x0 x1 x2 x3 : Value) : Prop := w.heap[b]? = some (.cells #[x0, x1, x2, x3] 71)
section
variable {w : World} {b : Nat} {x0 x1 x2 x3 : Value}
theorem B4.lt (h : B4 w b x0 x1 x2 x3) : b < w.heap.size := by
  rcases Nat.lt_or_ge b w.heap.size with h' | h'
  · exact h'
  · unfold B4 at h
    rw [Array.getElem?_eq_none h'] at h
    cases h
theorem B4.c0 (h : B4 w b x0 x1 x2 x3) : w.cell? ⟨b, 0, none⟩ = some x0 := by unfold B4 at h; simp [World.cell?, h]
theorem B4.c1 (h : B4 w b x0 x1 x2 x3) : w.cell? ⟨b, 1, none⟩ = some x1 := by unfold B4 at h; simp [World.cell?, h]
theorem B4.c2 (h : B4 w b x0 x1 x2 x3) : w.cell? ⟨b, 2, none⟩ = some x2 := by unfold B4 at h; simp [World.cell?, h]
theorem B4.c3 (h : B4 w b x0 x1 x2 x3) : w.cell? ⟨b, 3, none⟩ = some x3 := by unfold B4 at h; simp [World.cell?, h]
theorem B4.fz (h : B4 w b x0 x1 x2 x3) (i : Nat) : w.frozen? ⟨b, i, none⟩ = false := by unfold B4 at h; simp [World.frozen?, h]
theorem B4.far {w' : World} (h : B4 w b x0 x1 x2 x3) (hb : w'.heap[b]? = w.heap[b]?) : B4 w' b x0 x1 x2 x3 := by
  unfold B4 at h ⊢
  rw [hb]
  exact h
theorem B4.all (h : B4 w b x0 x1 x2 x3) (y0 y1 y2 y3 : Value) : B4 ((((w.setCell ⟨b, 0, none⟩ y0).setCell ⟨b, 1, none⟩ y1).setCell ⟨b, 2, none⟩ y2).setCell ⟨b, 3, none⟩ y3) b y0 y1 y2 y3 := heap4 w b _ _ _ _ _ _ _ _ _ h
end
set_option maxRecDepth 100000 in
theorem results_told {tmps : Array Value} {w : World} {g : Nat} {x0 x1 x2 x3 v : Value} (hp : tmps.getD 2 undef = .pointer (some ⟨g, 0, none⟩)) (hv : tmps.getD 3 undef = v) (h : B4 w g x0 x1 x2 x3) :
    (results Tryd.f49 tmps).run Tryd.prog w = .ok (.tuple #[.agg #[x0, x1, x2, x3], v]) w := by
  rw [results_cell_tmp Tryd.results49, hp, hv]
  simp [asAddr, run_loadVar_row w g 71 71 #[x0, x1, x2, x3] (0, 0) _ h Tryd.underlying71 rfl rfl, Result.andThen]

def nil4 : Value := .agg #[.slice none 0 0, .slice none 0 0, .slice none 0 0, .slice none 0 0]
def AfterT (W0 w w' : World) (rb : Nat) (ob : Option Nat) (inV : Value) (p : List Int) (most : Nat) (out : List Int) (r : Rs (Cd × Cd)) (e : Ending) : Prop :=
  match r with
  | .ok (c, d) t' => ∃ cv sv dv tv, e = .returned (.tuple #[.agg #[cv, sv, dv, tv], .int .i64 0]) ∧ Rd .i64 (fun g => w.heap.size ≤ g) w' cv c.counts ∧ Rd .i64 (fun g => w.heap.size ≤ g) w' sv c.symbols ∧ Rd .i64 (fun g => w.heap.size ≤ g) w' dv d.counts ∧ Rd .i64 (fun g => w.heap.size ≤ g) w' tv d.symbols ∧ Rdr W0 w' rb ob inV p most out t' ∧ Fr rb ob w w'
  | .bad er => e = .returned (.tuple #[nil4, .int .i64 er.v]) ∧ Below W0.heap.size W0 w' ∧ Fr rb ob w w'

/-- Four stores into a block that is newer. -/
theorem Fr.set4 {rb : Nat} {ob : Option Nat} {w w1 : World} (h : Fr rb ob w w1) {b : Nat} (hb : w.heap.size ≤ b) (y0 y1 y2 y3 : Value) : Fr rb ob w ((((w1.setCell ⟨b, 0, none⟩ y0).setCell ⟨b, 1, none⟩ y1).setCell ⟨b, 2, none⟩ y2).setCell ⟨b, 3, none⟩ y3) :=
  (((h.setNew hb 0 y0).setNew hb 1 y1).setNew hb 2 y2).setNew hb 3 y3
theorem Below.set4 {B : Nat} {a w1 : World} (h : Below B a w1) {b : Nat} (hb : B ≤ b) (y0 y1 y2 y3 : Value) : Below B a ((((w1.setCell ⟨b, 0, none⟩ y0).setCell ⟨b, 1, none⟩ y1).setCell ⟨b, 2, none⟩ y2).setCell ⟨b, 3, none⟩ y3) :=
  (((h.setCell hb y0).setCell hb y1).setCell hb y2).setCell hb y3

section
variable {W0 w : World} {rb : Nat} {ob : Option Nat} {inV : Value} {p out : List Int} {most t : Nat} {c : Cd} {cv sv : Value}
theorem toldCounts_ok {a b k : Int} {t' : Nat} (hq : countsF p t = .ok (a, b, k) t') (h : Rdr W0 w rb ob inV p most out t) :
    Calls Tryd.prog 69 #[.pointer (some ⟨rb, 0, none⟩)] w fun e w' => e = .returned (.tuple #[.int .i64 a, .int .i64 b, .int .i64 k, .int .i64 0]) ∧ Rdr W0 w' rb ob inV p most out t' ∧ Fr rb ob w w' := by
  have := toldCounts_any h
  rw [hq] at this
  exact this
theorem toldCounts_bad {er : Er} (hq : countsF p t = .bad er) (h : Rdr W0 w rb ob inV p most out t) :
    Calls Tryd.prog 69 #[.pointer (some ⟨rb, 0, none⟩)] w fun e w' => e = .returned (.tuple #[.int .i64 0, .int .i64 0, .int .i64 0, .int .i64 er.v]) ∧ Below W0.heap.size W0 w' ∧ Fr rb ob w w' := by
  have := toldCounts_any h
  rw [hq] at this
  exact this
theorem lengthsCode_ok (hT : Tab W0) (n : Nat) {y : Cd} {t' : Nat} (hq : lcF p n t = .ok y t') (hn : n ≤ 19) (h : Rdr W0 w rb ob inV p most out t) :
    Calls Tryd.prog 70 #[.pointer (some ⟨rb, 0, none⟩), .int .i64 n] w fun e w' => ∃ cv sv, e = .returned (.tuple #[.agg #[cv, sv], .int .i64 0]) ∧ CdR rb ob w' (.agg #[cv, sv]) y ∧ Rdr W0 w' rb ob inV p most out t' ∧ Fr rb ob w w' := by
  have := lengthsCode_any hT n hn h
  rw [hq] at this
  exact this
theorem lengthsCode_bad (hT : Tab W0) (n : Nat) {er : Er} (hq : lcF p n t = .bad er) (hn : n ≤ 19) (h : Rdr W0 w rb ob inV p most out t) :
    Calls Tryd.prog 70 #[.pointer (some ⟨rb, 0, none⟩), .int .i64 n] w fun e w' => e = .returned (.tuple #[.agg #[.slice none 0 0, .slice none 0 0], .int .i64 er.v]) ∧ Below W0.heap.size W0 w' ∧ Fr rb ob w w' := by
  have := lengthsCode_any hT n hn h
  rw [hq] at this
  exact this
theorem lengths_ok (n : Nat) {L : List Int} {t' : Nat} (hq : lensF p c n t = .ok L t') (hn : n ≤ 400) (hok : CdOk c 19) (hc : CdR rb ob w (.agg #[cv, sv]) c) (h : Rdr W0 w rb ob inV p most out t) :
    Calls Tryd.prog 71 #[.pointer (some ⟨rb, 0, none⟩), .agg #[cv, sv], .int .i64 n] w fun e w' => ∃ v, e = .returned (.tuple #[v, .int .i64 0]) ∧ Rd .i64 (fun g => w.heap.size ≤ g) w' v L ∧ Rdr W0 w' rb ob inV p most out t' ∧ Fr rb ob w w' := by
  have := lengths_any n hn hok hc h
  rw [hq] at this
  exact this
theorem lengths_bad (n : Nat) {er : Er} (hq : lensF p c n t = .bad er) (hn : n ≤ 400) (hok : CdOk c 19) (hc : CdR rb ob w (.agg #[cv, sv]) c) (h : Rdr W0 w rb ob inV p most out t) :
    Calls Tryd.prog 71 #[.pointer (some ⟨rb, 0, none⟩), .agg #[cv, sv], .int .i64 n] w fun e w' => e = .returned (.tuple #[.slice none 0 0, .int .i64 er.v]) ∧ Below W0.heap.size W0 w' ∧ Fr rb ob w w' := by
  have := lengths_any n hn hok hc h
  rw [hq] at this
  exact this
theorem countsF_ok {a b k : Int} {t' : Nat} (hq : countsF p t = .ok (a, b, k) t') : 0 ≤ a ∧ a ≤ 29 ∧ 0 ≤ b ∧ b ≤ 29 ∧ 0 ≤ k ∧ k ≤ 15 ∧ t < t' ∧ t' ≤ 8 * p.length := by
  unfold countsF at hq
  rcases h1 : numF p 5 t with ⟨a1, t1⟩ | er
  · rw [h1] at hq
    dsimp only at hq
    rcases h2 : numF p 5 t1 with ⟨b1, t2⟩ | er
    · rw [h2] at hq
      dsimp only at hq
      rcases h3 : numF p 4 t2 with ⟨k1, t3⟩ | er
      · rw [h3] at hq
        dsimp only at hq
        obtain ⟨x1, x2, x3, x4⟩ := numF_ok h1
        obtain ⟨y1, y2, y3, y4⟩ := numF_ok h2
        obtain ⟨z1, z2, z3, z4⟩ := numF_ok h3
        simp only [Int.reducePow] at x2 y2 z2
        split at hq
        · cases hq
        · cases hq
          omega
      · rw [h3] at hq; cases hq
    · rw [h2] at hq; cases hq
  · rw [h1] at hq; cases hq
theorem lcGo_ok (p : List Int) : ∀ (os acc : List Int) (t : Nat) (L : List Int) (t' : Nat), lcGo p os acc t = .ok L t' → acc.length = 19 → AllIn 0 8 acc → L.length = 19 ∧ AllIn 0 8 L ∧ t ≤ t' ∧ (t' ≤ 8 * p.length ∨ t' = t)
  | [], acc, t, L, t', h, hl, ha => by
    rw [lcGo] at h
    cases h
    exact ⟨hl, ha, by omega, by omega⟩
  | o :: os, acc, t, L, t', h, hl, ha => by
    rw [lcGo] at h
    rcases h3 : numF p 3 t with ⟨v, t3⟩ | er
    · rw [h3] at h
      dsimp only at h
      obtain ⟨z1, z2, z3, z4⟩ := numF_ok h3
      simp only [Int.reducePow] at z2
      have := lcGo_ok p os _ _ _ _ h (by simpa using hl) (by
        intro x hx
        rcases List.mem_or_eq_of_mem_set hx with hx | rfl
        · exact ha x hx
        · exact ⟨z1, z2⟩)
      exact ⟨this.1, this.2.1, by omega, by omega⟩
    · rw [h3] at h; cases h
theorem lcF_ok {n : Nat} {y : Cd} {t' : Nat} (hq : lcF p n t = .ok y t') : CdOk y 19 ∧ t ≤ t' ∧ (t' ≤ 8 * p.length ∨ t' = t) := by
  unfold lcF at hq
  rcases h1 : lcGo p (orderL.take n) (List.replicate 19 0) t with ⟨L, t1⟩ | er
  · rw [h1] at hq
    dsimp only at hq
    obtain ⟨x1, x2, x3, x4⟩ := lcGo_ok p _ _ _ _ _ h1 (by simp) (by intro x hx; have := List.eq_of_mem_replicate hx; omega)
    have hm := mkCd_ok L (by omega) 19 (by omega)
    generalize mkCd L = C at hq hm
    split at hq
    · cases hq
      exact ⟨hm, x3, x4⟩
    · cases hq
  · rw [h1] at hq; cases hq
theorem lensGo_ok (hok : CdOk c 19) (n : Nat) : ∀ (f : Nat) (L : List Int) (t : Nat) (M : List Int) (t' : Nat), L.length ≤ n → n ≤ L.length + f → AllIn 0 16 L → lensGo p c n f L t = .ok M t' → M.length = n ∧ AllIn 0 16 M ∧ t ≤ t' ∧ (t' ≤ 8 * p.length ∨ t' = t)
  | 0, L, t, M, t', h1, h2, h3, h => by
    rw [lensGo] at h
    cases h
    exact ⟨by omega, h3, by omega, by omega⟩
  | f + 1, L, t, M, t', h1, h2, h3, h => by
    rw [lensGo] at h
    by_cases hl : L.length < n
    · rw [if_pos hl] at h
      rcases hs : symF p c t with ⟨s, t1⟩ | er
      · rw [hs] at h
        dsimp only at h
        obtain ⟨x1, x2, x3, x4⟩ := symF_ok hok (by omega) hs
        by_cases h15 : s ≤ 15
        · rw [if_pos h15] at h
          have := lensGo_ok hok n f _ _ _ _ (by simp; omega) (by simp; omega) (h3.append (AllIn.one x1 (by omega))) h
          exact ⟨this.1, this.2.1, by omega, by omega⟩
        · rw [if_neg h15] at h
          by_cases hn : s = 16 ∧ L = []
          · rw [if_pos hn] at h; cases h
          · rw [if_neg hn] at h
            rcases ht : timesF p s t1 with ⟨m, t2⟩ | er
            · rw [ht] at h
              dsimp only at h
              obtain ⟨y1, y2, y3, y4⟩ := timesF_ok ht (by omega) (by omega)
              by_cases hm : (n : Int) < L.length + m
              · rw [if_pos hm] at h; cases h
              · rw [if_neg hm] at h
                have hag : 0 ≤ (if s = 16 then L.getLastD 0 else 0) ∧ (if s = 16 then L.getLastD 0 else 0) < 16 := by
                  split
                  · rw [getLastD_eq]; exact h3.getD (by omega) _
                  · omega
                have := lensGo_ok hok n f _ _ _ _ (by simp; omega) (by simp; omega) (h3.append (fun x hx => by have := List.eq_of_mem_replicate hx; subst this; exact hag)) h
                exact ⟨this.1, this.2.1, by omega, by omega⟩
            · rw [ht] at h; cases h
      · rw [hs] at h; cases h
    · rw [if_neg hl] at h
      cases h
      exact ⟨by omega, h3, by omega, by omega⟩
theorem lensF_ok (hok : CdOk c 19) {n : Nat} {M : List Int} {t' : Nat} (h : lensF p c n t = .ok M t') : M.length = n ∧ AllIn 0 16 M ∧ t ≤ t' ∧ (t' ≤ 8 * p.length ∨ t' = t) :=
  lensGo_ok hok n n [] t M t' (by simp) (by simp) AllIn.nil h
end
end Go.Proofs.YtjijkcmbbccfmaaDoor
