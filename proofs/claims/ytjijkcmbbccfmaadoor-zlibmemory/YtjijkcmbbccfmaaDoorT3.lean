/-
  A law: a scope in which the run jumps to several labels.
-/
import Derived.ScopeJumps
import Derived.WalkMore
import Derived.Test.YtjijkcmbbccfmaaDoorT2
namespace Go.Proofs.YtjijkcmbbccfmaaDoor
open Go

/-- As Q; by a goto to a label: J of it. -/
def JumpsTo (J : Nat → Act → World → Prop) (Q : Exit → Act → World → Prop) : Exit → Act → World → Prop
  | .goto l, a, w => J l a w
  | e, a, w => Q e a w

theorem wp_scope_many {P : Program} {a : Act} {w : World} {Q : Exit → Act → World → Prop} {c : Code} (J : Nat → Nat → Act → World → Prop)
    (first : c.wp P (JumpsTo (fun l a' w' => ∃ n, J l n a' w') Q) a w)
    (pass : ∀ l n a w, J l n a w → ∃ rest, findLabel c l = some rest ∧ rest.wp P (JumpsTo (fun l' a' w' => ∃ n', n' < n ∧ J l' n' a' w') Q) a w) : (Code.scope c).wp P Q a w := by
  intro b k cs
  have key : ∀ n l a w, J l n a w → ∀ rest, findLabel c l = some rest → ∃ e a' w', Q e a' w' ∧ Arrives P (lone (b.at a (.code rest :: .inScope c :: k)) cs w) b k cs e a' w' := by
    intro n
    induction n using Nat.strongRecOn with
    | _ n ih =>
      intro l a w hJ rest hrest
      obtain ⟨rest', hf, hp⟩ := pass l n a w hJ
      rw [hrest] at hf
      cases hf
      obtain ⟨e, a₁, w₁, hq, harr⟩ := hp b (.inScope c :: k) cs
      cases e with
      | normal => exact ⟨.normal, a₁, w₁, hq, Steps.trans harr (.one step_inScope)⟩
      | exit id => exact ⟨.exit id, a₁, w₁, hq, fun k' hk => harr k' (by simp [exitTo, hk])⟩
      | goto l' =>
        obtain ⟨n', hlt, hJ'⟩ := hq
        obtain ⟨rest2, hf2, -⟩ := pass l' n' a₁ w₁ hJ'
        have hg : gotoIn l' (.inScope c :: k) = some (.code rest2 :: .inScope c :: k) := by simp [gotoIn, hf2]
        obtain ⟨e₂, a₂, w₂, hq₂, harr₂⟩ := ih n' hlt l' a₁ w₁ hJ' rest2 hf2
        exact ⟨e₂, a₂, w₂, hq₂, .of_steps (harr _ hg) harr₂⟩
      | ret => exact ⟨_, a₁, w₁, hq, harr⟩
      | panic ch => exact ⟨_, a₁, w₁, hq, harr⟩
      | outgrown => exact ⟨_, a₁, w₁, hq, harr⟩
  obtain ⟨e, a₁, w₁, hq, harr⟩ := first b (.inScope c :: k) cs
  cases e with
  | normal => exact ⟨.normal, a₁, w₁, hq, .head step_scope (Steps.trans harr (.one step_inScope))⟩
  | exit id => exact ⟨.exit id, a₁, w₁, hq, fun k' hk => .head step_scope (harr k' (by simp [exitTo, hk]))⟩
  | goto l' =>
    obtain ⟨n', hJ'⟩ := hq
    obtain ⟨rest2, hf2, -⟩ := pass l' n' a₁ w₁ hJ'
    have hg : gotoIn l' (.inScope c :: k) = some (.code rest2 :: .inScope c :: k) := by simp [gotoIn, hf2]
    obtain ⟨e₂, a₂, w₂, hq₂, harr₂⟩ := key n' l' a₁ w₁ hJ' rest2 hf2
    exact ⟨e₂, a₂, w₂, hq₂, .of_steps (.head step_scope (harr _ hg)) harr₂⟩
  | ret => exact ⟨_, a₁, w₁, hq, .of_steps (.one step_scope) harr⟩
  | panic ch => exact ⟨_, a₁, w₁, hq, .of_steps (.one step_scope) harr⟩
  | outgrown => exact ⟨_, a₁, w₁, hq, .of_steps (.one step_scope) harr⟩

open Go.RowKit

section
variable {W0 w : World} {rb : Nat} {ob : Option Nat} {inV : Value} {p out : List Int} {most t : Nat} {c d : Cd} {cv sv : Value}
theorem headF_ok {l y : Int} {t' : Nat} (h : headF p t = .ok (l, y) t') : 0 ≤ l ∧ l ≤ 1 ∧ 0 ≤ y ∧ y ≤ 3 ∧ t' = t + 3 ∧ t' ≤ 8 * p.length := by
  unfold headF at h
  rcases h1 : numF p 1 t with ⟨a, t1⟩ | er
  · rw [h1] at h
    dsimp only at h
    rcases h2 : numF p 2 t1 with ⟨b, t2⟩ | er
    · rw [h2] at h
      dsimp only at h
      obtain ⟨x1, x2, x3, x4⟩ := numF_ok h1
      obtain ⟨y1, y2, y3, y4⟩ := numF_ok h2
      simp only [Int.reducePow] at x2 y2
      cases h
      omega
    · rw [h2] at h; cases h
  · rw [h1] at h; cases h
theorem head_ok {l y : Int} {t' : Nat} (hq : headF p t = .ok (l, y) t') (h : Rdr W0 w rb ob inV p most out t) :
    Calls Tryd.prog 47 #[.pointer (some ⟨rb, 0, none⟩)] w fun e w' => e = .returned (.tuple #[.int .i64 l, .int .i64 y, .int .i64 0]) ∧ Rdr W0 w' rb ob inV p most out t' ∧ Fr rb ob w w' := by
  have := head_any h
  rw [hq] at this
  exact this
theorem head_bad {er : Er} (hq : headF p t = .bad er) (h : Rdr W0 w rb ob inV p most out t) :
    Calls Tryd.prog 47 #[.pointer (some ⟨rb, 0, none⟩)] w fun e w' => e = .returned (.tuple #[.int .i64 0, .int .i64 0, .int .i64 er.v]) ∧ Below W0.heap.size W0 w' ∧ Fr rb ob w w' := by
  have := head_any h
  rw [hq] at this
  exact this
theorem stored_ok {o : List Int} {t' : Nat} (hq : storedF p most out t = .ok o t') (h : Rdr W0 w rb ob inV p most out t) :
    Calls Tryd.prog 48 #[.pointer (some ⟨rb, 0, none⟩)] w fun e w' => e = .returned (.int .i64 0) ∧ ∃ ob', Rdr W0 w' rb ob' inV p most o t' ∧ Mv rb ob ob' w w' := by
  have := stored_any h
  rw [hq] at this
  exact this
theorem stored_bad {er : Er} (hq : storedF p most out t = .bad er) (h : Rdr W0 w rb ob inV p most out t) :
    Calls Tryd.prog 48 #[.pointer (some ⟨rb, 0, none⟩)] w fun e w' => e = .returned (.int .i64 er.v) ∧ Below W0.heap.size W0 w' := by
  have := stored_any h
  rw [hq] at this
  exact this
theorem match_ok {s : Int} {o : List Int} {t' : Nat} (hq : matchF p most c s out t = .ok o t') (h0 : 257 ≤ s) (h1 : s < 288) (hok : CdOk c 32) (hc : CdR rb ob w (.agg #[cv, sv]) c) (h : Rdr W0 w rb ob inV p most out t) :
    Calls Tryd.prog 52 #[.pointer (some ⟨rb, 0, none⟩), .int .i64 s, .agg #[cv, sv]] w fun e w' => e = .returned (.int .i64 0) ∧ ∃ ob', Rdr W0 w' rb ob' inV p most o t' ∧ Mv rb ob ob' w w' := by
  have := match_any s h0 h1 hok hc h
  rw [hq] at this
  exact this
theorem match_bad {s : Int} {er : Er} (hq : matchF p most c s out t = .bad er) (h0 : 257 ≤ s) (h1 : s < 288) (hok : CdOk c 32) (hc : CdR rb ob w (.agg #[cv, sv]) c) (h : Rdr W0 w rb ob inV p most out t) :
    Calls Tryd.prog 52 #[.pointer (some ⟨rb, 0, none⟩), .int .i64 s, .agg #[cv, sv]] w fun e w' => e = .returned (.int .i64 er.v) ∧ Below W0.heap.size W0 w' := by
  have := match_any s h0 h1 hok hc h
  rw [hq] at this
  exact this
theorem toldCodes_ok (hT : Tab W0) {t' : Nat} (hq : toldF p t = .ok (c, d) t') (h : Rdr W0 w rb ob inV p most out t) :
    Calls Tryd.prog 49 #[.pointer (some ⟨rb, 0, none⟩)] w fun e w' => ∃ cv sv dv tv, e = .returned (.tuple #[.agg #[cv, sv, dv, tv], .int .i64 0]) ∧ Rd .i64 (fun g => w.heap.size ≤ g) w' cv c.counts ∧ Rd .i64 (fun g => w.heap.size ≤ g) w' sv c.symbols ∧ Rd .i64 (fun g => w.heap.size ≤ g) w' dv d.counts ∧ Rd .i64 (fun g => w.heap.size ≤ g) w' tv d.symbols ∧ Rdr W0 w' rb ob inV p most out t' ∧ Fr rb ob w w' := by
  have := toldCodes_any hT h
  rw [hq] at this
  exact this
theorem toldCodes_bad (hT : Tab W0) {er : Er} (hq : toldF p t = .bad er) (h : Rdr W0 w rb ob inV p most out t) :
    Calls Tryd.prog 49 #[.pointer (some ⟨rb, 0, none⟩)] w fun e w' => e = .returned (.tuple #[.agg #[.slice none 0 0, .slice none 0 0, .slice none 0 0, .slice none 0 0], .int .i64 er.v]) ∧ Below W0.heap.size W0 w' ∧ Fr rb ob w w' := by
  have := toldCodes_any hT h
  rw [hq] at this
  exact this
theorem storedGo_ok (p : List Int) (most : Nat) : ∀ (n : Nat) (out : List Int) (t : Nat) (o : List Int) (t' : Nat), storedGo p most n out t = .ok o t' → t ≤ t'
  | 0, out, t, o, t', h => by rw [storedGo] at h; cases h; omega
  | n + 1, out, t, o, t', h => by
    rw [storedGo] at h
    rcases h1 : numF p 8 t with ⟨a, t1⟩ | er
    · rw [h1] at h
      dsimp only at h
      obtain ⟨-, -, x3, -⟩ := numF_ok h1
      split at h
      · cases h
      · have := storedGo_ok p most n _ _ _ _ h
        omega
    · rw [h1] at h; cases h
theorem storedF_ok {o : List Int} {t' : Nat} (h : storedF p most out t = .ok o t') : t ≤ t' := by
  unfold storedF at h
  rcases h1 : numF p 16 ((t + 7) / 8 * 8) with ⟨a, t1⟩ | er
  · rw [h1] at h
    dsimp only at h
    rcases h2 : numF p 16 t1 with ⟨b, t2⟩ | er
    · rw [h2] at h
      dsimp only at h
      obtain ⟨-, -, x3, -⟩ := numF_ok h1
      obtain ⟨-, -, y3, -⟩ := numF_ok h2
      split at h
      · have := storedGo_ok p most _ _ _ _ _ h
        omega
      · cases h
    · rw [h2] at h; cases h
  · rw [h1] at h; cases h
theorem matchF_ok {s : Int} {o : List Int} {t' : Nat} (hok : CdOk c 32) (h0 : 257 ≤ s) (h : matchF p most c s out t = .ok o t') : t < t' ∧ t' ≤ 8 * p.length := by
  unfold matchF at h
  rcases h1 : lengthF p s t with ⟨a, t1⟩ | er
  · rw [h1] at h
    dsimp only at h
    rcases h2 : distF p c t1 with ⟨b, t2⟩ | er
    · rw [h2] at h
      dsimp only at h
      obtain ⟨-, -, x3, -⟩ := lengthF_ok h1 h0
      obtain ⟨-, -, y3, y4⟩ := distF_ok hok h2
      split at h
      · cases h
      · split at h
        · cases h
        · cases h
          omega
    · rw [h2] at h; cases h
  · rw [h1] at h; cases h
theorem toldF_ok {t' : Nat} (h : toldF p t = .ok (c, d) t') : CdOk c 288 ∧ CdOk d 32 ∧ t < t' ∧ t' ≤ 8 * p.length := by
  unfold toldF at h
  rcases h1 : countsF p t with ⟨⟨a, b, k⟩, t3⟩ | er
  · rw [h1] at h
    dsimp only at h
    obtain ⟨a0, a1, b0, b1, k0, k1, x1, x2⟩ := countsF_ok h1
    rcases h2 : lcF p (k + 4).toNat t3 with ⟨y, t4⟩ | er
    · rw [h2] at h
      dsimp only at h
      obtain ⟨hy, y1, y2⟩ := lcF_ok h2
      rcases h3 : lensF p y (a + 257 + b + 1).toNat t4 with ⟨L, t5⟩ | er
      · rw [h3] at h
        dsimp only at h
        obtain ⟨l1, l2, l3, l4⟩ := lensF_ok hy h3
        have m1 := mkCd_ok (L.take (a + 257).toNat) (by simp; omega) 288 (by simp; omega)
        have m2 := mkCd_ok (L.drop (a + 257).toNat) (by simp; omega) 32 (by simp; omega)
        generalize mkCd (L.take (a + 257).toNat) = A at *
        generalize mkCd (L.drop (a + 257).toNat) = D at *
        split at h
        · cases h
        · split at h
          · cases h
          · cases h
            exact ⟨m1, m2, by omega, by omega⟩
      · rw [h3] at h; cases h
    · rw [h2] at h; cases h
  · rw [h1] at h; cases h
end

/-- The tables that are read by, behind the variable 'use'. -/
structure TB (w : World) (ub : Nat) (ob : Option Nat) (c d : Cd) (x0 x1 x2 x3 : Value) : Prop where
  r0 : Rd .i64 (fun g => ub < g ∧ some g ≠ ob) w x0 c.counts
  r1 : Rd .i64 (fun g => ub < g ∧ some g ≠ ob) w x1 c.symbols
  r2 : Rd .i64 (fun g => ub < g ∧ some g ≠ ob) w x2 d.counts
  r3 : Rd .i64 (fun g => ub < g ∧ some g ≠ ob) w x3 d.symbols
theorem TB.mv {w w' : World} {rb ub : Nat} {ob ob' : Option Nat} {c d : Cd} {x0 x1 x2 x3 : Value} (h : TB w ub ob c d x0 x1 x2 x3) (hr : rb < ub) (m : Mv rb ob ob' w w') : TB w' ub ob' c d x0 x1 x2 x3 := by
  have far : ∀ {v : Value} {xs : List Int}, Rd .i64 (fun g => ub < g ∧ some g ≠ ob) w v xs → Rd .i64 (fun g => ub < g ∧ some g ≠ ob') w' v xs := fun h =>
    h.far m.fr.size fun b hb hs => ⟨⟨hs.1, by
      rcases m.at_ with e | ⟨g, e, hg⟩
      · rw [e]; exact hs.2
      · rw [e]; intro e'; simp at e'; omega⟩, m.fr.block b hb (by omega) hs.2⟩
  exact ⟨far h.r0, far h.r1, far h.r2, far h.r3⟩
theorem TB.set4 {w : World} {ub : Nat} {ob : Option Nat} {c d : Cd} {x0 x1 x2 x3 : Value} (h : TB w ub ob c d x0 x1 x2 x3) (y0 y1 y2 y3 : Value) : TB ((((w.setCell ⟨ub, 0, none⟩ y0).setCell ⟨ub, 1, none⟩ y1).setCell ⟨ub, 2, none⟩ y2).setCell ⟨ub, 3, none⟩ y3) ub ob c d x0 x1 x2 x3 := by
  have far : ∀ {v : Value} {xs : List Int}, Rd .i64 (fun g => ub < g ∧ some g ≠ ob) w v xs → Rd .i64 (fun g => ub < g ∧ some g ≠ ob) ((((w.setCell ⟨ub, 0, none⟩ y0).setCell ⟨ub, 1, none⟩ y1).setCell ⟨ub, 2, none⟩ y2).setCell ⟨ub, 3, none⟩ y3) v xs := fun h =>
    h.far (by simp [World.setCell]) fun b' _ hS => ⟨hS, by
      rw [Below.heap_setCell _ _ _ _ (show b' ≠ ub by omega), Below.heap_setCell _ _ _ _ (show b' ≠ ub by omega), Below.heap_setCell _ _ _ _ (show b' ≠ ub by omega), Below.heap_setCell _ _ _ _ (show b' ≠ ub by omega)]⟩
  exact ⟨far h.r0, far h.r1, far h.r2, far h.r3⟩
theorem TB.cdr0 {w : World} {rb ub : Nat} {ob : Option Nat} {c d : Cd} {x0 x1 x2 x3 : Value} (h : TB w ub ob c d x0 x1 x2 x3) (hr : rb < ub) : CdR rb ob w (.agg #[x0, x1]) c :=
  ⟨_, _, rfl, h.r0.weak fun g _ hs => ⟨by omega, hs.2⟩, h.r1.weak fun g _ hs => ⟨by omega, hs.2⟩⟩
theorem TB.cdr1 {w : World} {rb ub : Nat} {ob : Option Nat} {c d : Cd} {x0 x1 x2 x3 : Value} (h : TB w ub ob c d x0 x1 x2 x3) (hr : rb < ub) : CdR rb ob w (.agg #[x2, x3]) d :=
  ⟨_, _, rfl, h.r2.weak fun g _ hs => ⟨by omega, hs.2⟩, h.r3.weak fun g _ hs => ⟨by omega, hs.2⟩⟩

/-- What holds between blocks. -/
structure StC (W0 w : World) (rb ub fb : Nat) (ob : Option Nat) (inV : Value) (p : List Int) (most : Nat) (f0 f1 f2 f3 : Value) (out : List Int) (t : Nat) : Prop where
  r : Rdr W0 w rb ob inV p most out t
  h1 : rb < ub
  h2 : ub < fb
  h3 : some ub ≠ ob
  h4 : some fb ≠ ob
  bu : ∃ x0 x1 x2 x3, B4 w ub x0 x1 x2 x3
  bf : B4 w fb f0 f1 f2 f3
  tf : TB w ub ob (mkCd fixedL) (mkCd fixedD) f0 f1 f2 f3
section
variable {W0 w w' : World} {rb ub fb : Nat} {ob ob' : Option Nat} {inV : Value} {p out out' : List Int} {most t t' : Nat} {f0 f1 f2 f3 : Value}
theorem StC.mv (h : StC W0 w rb ub fb ob inV p most f0 f1 f2 f3 out t) (hr : Rdr W0 w' rb ob' inV p most out' t') (m : Mv rb ob ob' w w') : StC W0 w' rb ub fb ob' inV p most f0 f1 f2 f3 out' t' := by
  have ne : ∀ k, k < w.heap.size → some k ≠ ob → some k ≠ ob' := fun k hk h0 => by
    rcases m.at_ with e | ⟨g, e, hg⟩
    · rw [e]; exact h0
    · rw [e]; intro e'; simp at e'; omega
  have a1 := h.h1
  have a2 := h.h2
  obtain ⟨x0, x1, x2, x3, hu⟩ := h.bu
  exact ⟨hr, h.h1, h.h2, ne _ hu.lt h.h3, ne _ h.bf.lt h.h4, ⟨x0, x1, x2, x3, hu.far (m.fr.block _ hu.lt (by omega) h.h3)⟩, h.bf.far (m.fr.block _ h.bf.lt (by omega) h.h4), h.tf.mv h.h1 m⟩
theorem StC.set4 (h : StC W0 w rb ub fb ob inV p most f0 f1 f2 f3 out t) (y0 y1 y2 y3 : Value) : StC W0 ((((w.setCell ⟨ub, 0, none⟩ y0).setCell ⟨ub, 1, none⟩ y1).setCell ⟨ub, 2, none⟩ y2).setCell ⟨ub, 3, none⟩ y3) rb ub fb ob inV p most f0 f1 f2 f3 out t := by
  have a0 := h.r.hb
  have a1 := h.h1
  have a2 := h.h2
  obtain ⟨x0, x1, x2, x3, hu⟩ := h.bu
  exact ⟨h.r.set4 (by omega) (by omega) h.h3 _ _ _ _, h.h1, h.h2, h.h3, h.h4, ⟨y0, y1, y2, y3, hu.all _ _ _ _⟩, h.bf.far (by rw [Below.heap_setCell _ _ _ _ (show fb ≠ ub by omega), Below.heap_setCell _ _ _ _ (show fb ≠ ub by omega), Below.heap_setCell _ _ _ _ (show fb ≠ ub by omega), Below.heap_setCell _ _ _ _ (show fb ≠ ub by omega)]), h.tf.set4 _ _ _ _⟩
end

theorem start_st {W0 w w1 : World} {rb : Nat} {ob : Option Nat} {inV : Value} {p out : List Int} {most t : Nat} {f0 f1 f2 f3 : Value} (h : Rdr W0 w rb ob inV p most out t)
    (hb : Below (w.alloc (.cells #[.slice none 0 0, .slice none 0 0, .slice none 0 0, .slice none 0 0] 71)).heap.size (w.alloc (.cells #[.slice none 0 0, .slice none 0 0, .slice none 0 0, .slice none 0 0] 71)) w1)
    (g0 : Rd .i64 (fun b => (w.alloc (.cells #[.slice none 0 0, .slice none 0 0, .slice none 0 0, .slice none 0 0] 71)).heap.size ≤ b) w1 f0 (mkCd fixedL).counts)
    (g1 : Rd .i64 (fun b => (w.alloc (.cells #[.slice none 0 0, .slice none 0 0, .slice none 0 0, .slice none 0 0] 71)).heap.size ≤ b) w1 f1 (mkCd fixedL).symbols)
    (g2 : Rd .i64 (fun b => (w.alloc (.cells #[.slice none 0 0, .slice none 0 0, .slice none 0 0, .slice none 0 0] 71)).heap.size ≤ b) w1 f2 (mkCd fixedD).counts)
    (g3 : Rd .i64 (fun b => (w.alloc (.cells #[.slice none 0 0, .slice none 0 0, .slice none 0 0, .slice none 0 0] 71)).heap.size ≤ b) w1 f3 (mkCd fixedD).symbols) :
    StC W0 (w1.alloc (.cells #[f0, f1, f2, f3] 71)) rb w.heap.size w1.heap.size ob inV p most f0 f1 f2 f3 out t := by
  have hrb := h.rb_lt
  have hob := h.ob_ge
  have hz := hb.size
  simp at hz
  have ne : ∀ k, w.heap.size ≤ k → some k ≠ ob := fun k hk e => by have := (hob k e.symm).2; omega
  have hbw : Below w.heap.size w w1 := ((Below.refl _ w).alloc (Nat.le_refl _) _).trans (hb.mono (by simp))
  have hal := (Below.refl w1.heap.size w1).alloc (Nat.le_refl _) (.cells #[f0, f1, f2, f3] 71)
  have far : ∀ {v : Value} {xs : List Int}, Rd .i64 (fun b => (w.alloc (.cells #[.slice none 0 0, .slice none 0 0, .slice none 0 0, .slice none 0 0] 71)).heap.size ≤ b) w1 v xs → Rd .i64 (fun g => w.heap.size < g ∧ some g ≠ ob) (w1.alloc (.cells #[f0, f1, f2, f3] 71)) v xs := fun h =>
    (h.weak fun g _ hg => by simp at hg; exact ⟨by omega, ne g (by omega)⟩).later hal (Nat.le_refl _)
  have hu : B4 w1 w.heap.size (.slice none 0 0) (.slice none 0 0) (.slice none 0 0) (.slice none 0 0) := (show B4 _ _ _ _ _ _ from heap_alloc_new w _).far (hb.block _ (by simp))
  exact ⟨(h.far hbw).far hal, hrb, by omega, ne _ (Nat.le_refl _), ne _ (by omega), ⟨_, _, _, _, hu.far (hal.block _ (by omega))⟩, heap_alloc_new w1 _, far g0, far g1, far g2, far g3⟩
theorem told_tb {W0 w w' : World} {rb ub fb : Nat} {ob : Option Nat} {inV : Value} {p out : List Int} {most t : Nat} {f0 f1 f2 f3 x0 x1 x2 x3 : Value} {c d : Cd} (h : StC W0 w rb ub fb ob inV p most f0 f1 f2 f3 out t) (hu : ub < w.heap.size)
    (r0 : Rd .i64 (fun g => w.heap.size ≤ g) w' x0 c.counts) (r1 : Rd .i64 (fun g => w.heap.size ≤ g) w' x1 c.symbols) (r2 : Rd .i64 (fun g => w.heap.size ≤ g) w' x2 d.counts) (r3 : Rd .i64 (fun g => w.heap.size ≤ g) w' x3 d.symbols) : TB w' ub ob c d x0 x1 x2 x3 := by
  have far : ∀ {v : Value} {xs : List Int}, Rd .i64 (fun g => w.heap.size ≤ g) w' v xs → Rd .i64 (fun g => ub < g ∧ some g ≠ ob) w' v xs := fun hr =>
    hr.weak fun g _ hg => ⟨by omega, fun e => by have := (h.r.ob_ge g e.symm).2; omega⟩
  exact ⟨far r0, far r1, far r2, far r3⟩

/-- What follows on a block. -/
def finF (p : List Int) (most : Nat) (last : Int) (f : Nat) (r : Rs (List Int)) : Rs (List Int) :=
  match r with
  | .bad e => .bad e
  | .ok o t2 => if last = 0 then streamF p most f o t2 else .ok o t2
/-- What holds at label l, with a count that each jump lowers. -/
def CoreJ (W0 w : World) (rb ub fb : Nat) (inV : Value) (p : List Int) (most : Nat) (f0 f1 f2 f3 : Value) (R : Rs (List Int)) (last : Int) (n : Nat) : Nat → Prop
  | 0 => ∃ ob out t f, StC W0 w rb ub fb ob inV p most f0 f1 f2 f3 out t ∧ 8 * p.length - t < f ∧ streamF p most f out t = R ∧ n = 10 * (8 * p.length - t)
  | 1 => ∃ ob out t f, StC W0 w rb ub fb ob inV p most f0 f1 f2 f3 out t ∧ 8 * p.length - t < f ∧ finF p most last f (storedF p most out t) = R ∧ n = 10 * (8 * p.length - t) + 2
  | 2 => ∃ ob out t f g c d x0 x1 x2 x3, StC W0 w rb ub fb ob inV p most f0 f1 f2 f3 out t ∧ B4 w ub x0 x1 x2 x3 ∧ TB w ub ob c d x0 x1 x2 x3 ∧ CdOk c 288 ∧ CdOk d 32 ∧ 8 * p.length - t < f ∧ 8 * p.length - t < g ∧ finF p most last f (blockF p most c d g out t) = R ∧ n = 10 * (8 * p.length - t) + 2
  | 3 => ∃ ob out t f, StC W0 w rb ub fb ob inV p most f0 f1 f2 f3 out t ∧ 8 * p.length - t < f ∧ finF p most last f (wayF p most 2 out t) = R ∧ n = 10 * (8 * p.length - t) + 2
  | 4 => ∃ ob out t f, StC W0 w rb ub fb ob inV p most f0 f1 f2 f3 out t ∧ 8 * p.length - t < f ∧ (if last = 0 then streamF p most f out t else .ok out t) = R ∧ n = 10 * (8 * p.length - t) + 1
  | _ => False

def AfterS (W0 w' : World) (rb : Nat) (inV : Value) (p : List Int) (most : Nat) (r : Rs (List Int)) (e : Ending) : Prop :=
  match r with
  | .ok out' t' => e = .returned (.int .i64 0) ∧ ∃ ob', Rdr W0 w' rb ob' inV p most out' t'
  | .bad er => e = .returned (.int .i64 er.v) ∧ Below W0.heap.size W0 w'
end Go.Proofs.YtjijkcmbbccfmaaDoor
