/-
  What is pending: a change more.
-/
import Derived.Test.YtegdadkejheagaaDoorFF
namespace Go.Proofs.YtegdadkejheagaaDoor
open Go.RowKit Go.WideMaps

theorem rwV_upd (C : ByteArray → Option (Value × List Chg)) (p : ByteArray) (x : Option (Value × List Chg)) : upd (rwV C) p (x.map Prod.fst) = rwV (upd C p x) := (upd_map C _ p x).symm
/-- A block of cells is none of another type, and no map. -/
theorem type_ne {w : World} {g h : Nat} {cs ds : Array Value} {e k : TypeId} {q r : Nat × Nat} (hg : w.heap[g]? = some (.cells cs e q)) (hh : w.heap[h]? = some (.cells ds k r)) (hne : e ≠ k) : g ≠ h := fun e' => by
  subst e'
  rw [hg] at hh
  injection hh with hh
  injection hh with _ hh
  exact hne hh
theorem Bd.setC {w w2 w3 : World} {B : Nat → Prop} {S : St} {n b : Nat} (h : Bd w B S n) (hb : S.bp = some b) {p : ByteArray} (hp : p.size ≤ 200) {v v' : Value} {l : List Chg} {c : Chg} (hv : S.C p = some (v, l) ∨ (S.C p = none ∧ v = .slice none 0 0 ∧ l = [])) (hc : c.Ok) (hex : ∀ f, c.file = some f → ∃ e, S.F f = some e)
    (hsz : w.heap.size ≤ w2.heap.size) (hk : ∀ i, i < w.heap.size → v.ownBlock ≠ some i → w2.heap[i]? = w.heap[i]?) (hrow : w2.ownsRow 0 70 3 v' (l ++ [c]).length ((l ++ [c]).flatMap Chg.cs)) (hvb : v'.ownBlock = v.ownBlock ∨ ∃ g, v'.ownBlock = some g ∧ w.heap.size ≤ g)
    (hM : MapAt w3 (some b) (n + 1) (upd (rwV S.C) p (some v'))) (hF : Fx (fun i => i = b) w2 w3) : Bd w3 (Gr B w) { S with C := upd S.C p (some (v', l ++ [c])), m := S.m + 1 } (n + 1) := by
  have s := h.sp b
  have hbp := h.mC.at hb
  -- the row that was there
  have hvr : ∀ g, v.ownBlock = some g → ∃ cur, w.heap[g]? = some (.cells cur 70 (0, 0)) := fun g hg => by
    rcases hv with hv | ⟨-, hv, -⟩
    · exact ownsRow_blk (h.rw p v l hv).1.own hg
    · subst hv; cases hg
  have hl : ∀ x ∈ l, x.Ok := fun x hx => by
    rcases hv with hv | ⟨-, -, hv⟩
    · exact (h.rw p v l hv).1.ok x hx
    · subst hv; cases hx
  have hlen : l.length ≤ S.m := by
    rcases hv with hv | ⟨-, -, hv⟩
    · exact (h.rw p v l hv).2
    · subst hv; exact Nat.zero_le _
  have hlf : ∀ x ∈ l, ∀ f, x.file = some f → ∃ e, S.F f = some e := fun x hx f hf => by
    rcases hv with hv | ⟨-, -, hv⟩
    · exact h.cF p v l x f hv hx hf
    · subst hv; cases hx
  have hB : ∀ i, i < w.heap.size → B i → Gr B w i := fun _ _ h => .inl h
  -- blocks that stay
  have hst : ∀ i, i < w.heap.size → v.ownBlock ≠ some i → i ≠ b → w3.heap[i]? = w.heap[i]? := fun i hi h1 h2 => by
    rw [hF.block i (by omega) h2]
    exact hk i hi h1
  have hcell : ∀ {g : Nat} {cs : Array Value} {e : TypeId} {q : Nat × Nat}, w.heap[g]? = some (.cells cs e q) → v.ownBlock ≠ some g → w3.heap[g]? = w.heap[g]? := fun {g cs e q} hg h1 => hst g (Array.getElem?_eq_some_iff.1 hg).1 h1 (fun e' => by subst e'; exact absurd hg hbp.notBk)
  have hother : ∀ {g : Nat} {cs : Array Value} {e : TypeId} {q : Nat × Nat}, w.heap[g]? = some (.cells cs e q) → e ≠ 70 → w3.heap[g]? = w.heap[g]? := fun {g cs e q} hg he => hcell hg (fun h1 => by
    obtain ⟨cur, hcur⟩ := hvr g h1
    exact type_ne hg hcur he rfl)
  have hmap : ∀ {mb f}, MapAt w mb n f → mb ≠ some b → MapAt w3 mb (n + 1) f := fun {mb f} hM0 hne => hM0.far (fun x e => by
    subst e
    refine hst x hM0.lt (fun h1 => ?_) (fun e' => hne (by rw [e']))
    obtain ⟨cur, hcur⟩ := hvr x h1
    exact hM0.notBk hcur) (Nat.le_succ n)
  have hnew : RowC w3 (Gr B w) v' (l ++ [c]) := by
    refine ⟨ownsRow_far hrow (fun g hg => ?_), fun g hg => ?_, fun x hx => ?_, by simp⟩
    · obtain ⟨cur, hcur⟩ := ownsRow_blk hrow hg
      refine hF.block g (ownsRow_lt hrow hg) (fun e' => ?_)
      subst e'
      obtain ⟨es, k, hm⟩ := hbp.isMap
      rcases hvb with e | ⟨g', hg', hle⟩
      · rw [hg] at e
        obtain ⟨cur', hcur'⟩ := hvr g e.symm
        rw [hm] at hcur'
        injection hcur' with hcur'
        cases hcur'
      · rw [hg] at hg'
        injection hg' with hg'
        subst hg'
        have := hbp.lt
        omega
    · rcases hvb with e | ⟨g', hg', hle⟩
      · rw [hg] at e
        rcases hv with hv | ⟨-, hv, -⟩
        · exact .inl ((h.rw p v l hv).1.ownB g e.symm)
        · subst hv; cases e
      · rw [hg] at hg'
        injection hg' with hg'
        subst hg'
        exact .inr hle
    · rcases List.mem_append.1 hx with hx | hx
      · exact hl x hx
      · simp at hx; subst hx; exact hc
  have hother_rows : ∀ q u m, q ≠ p → S.C q = some (u, m) → ∀ g, u.ownBlock = some g → v.ownBlock ≠ some g := fun q u m hq hqm g hg h1 => by
    rcases hv with hv | ⟨-, hv, -⟩
    · exact h.rA q p u v m l g hq hqm hv hg h1
    · subst hv; cases h1
  exact {
    mN := hmap h.mN (fun e => (s.1 e).2.1 hb)
    mL := hmap h.mL (fun e => (s.2.1 e).1 hb)
    mC := by show MapAt w3 S.bp (n + 1) (rwV _); rw [hb, ← rwV_upd]; exact hM
    mR := h.mR.far (fun x e => by
      have hR := h.mR
      rw [e] at hR
      refine hst x hR.lt (fun h1 => ?_) (fun e' => s.2.2 hb (by rw [e, e']))
      obtain ⟨cur, hcur⟩ := hvr x h1
      exact hR.notBk hcur) (Nat.le_succ n)
    bB := fun x hx => .inl (h.bB x hx)
    sp := h.sp, nl := h.nl
    fl := fun f e hf => (h.fl f e hf).far (hother (h.fl f e hf).blk (by decide)) (fun g hg => by
      obtain ⟨cur, hcur⟩ := ownsRow_blk (h.fl f e hf).own hg
      exact hother hcur (by decide)) hB
    fA := h.fA, nF := h.nF, lF := h.lF
    cF := fun q u m x f hq hx hf => by
      by_cases e : q = p
      · subst e
        simp only [upd_same, Option.some.injEq, Prod.mk.injEq] at hq
        obtain ⟨rfl, rfl⟩ := hq
        rcases List.mem_append.1 hx with hx | hx
        · exact hlf x hx f hf
        · simp at hx; subst hx; exact hex f hf
      · simp only [upd_other _ _ e] at hq
        exact h.cF q u m x f hq hx hf
    rw := fun q u m hq => by
      by_cases e : q = p
      · subst e
        simp only [upd_same, Option.some.injEq, Prod.mk.injEq] at hq
        obtain ⟨rfl, rfl⟩ := hq
        exact ⟨hnew, by rw [List.length_append, List.length_singleton]; show l.length + 1 ≤ S.m + 1; omega⟩
      · simp only [upd_other _ _ e] at hq
        refine ⟨(h.rw q u m hq).1.far (fun g hg => ?_) hB, Nat.le_trans (h.rw q u m hq).2 (Nat.le_succ S.m)⟩
        obtain ⟨cur, hcur⟩ := ownsRow_blk (h.rw q u m hq).1.own hg
        exact hcell hcur (hother_rows q u m e hq g hg)
    rA := fun q q' u u' m m' r hne hq hq' hr hr' => by
      by_cases e : q = p
      · subst e
        have e2 : q' ≠ q := fun h => hne h.symm
        simp only [upd_same, Option.some.injEq, Prod.mk.injEq] at hq
        obtain ⟨rfl, rfl⟩ := hq
        simp only [upd_other _ _ e2] at hq'
        rcases hvb with e3 | ⟨g', hg', hle⟩
        · rw [hr] at e3
          exact hother_rows q' u' m' e2 hq' r hr' e3.symm
        · rw [hr] at hg'
          injection hg' with hg'
          subst hg'
          have := ownsRow_lt (h.rw q' u' m' hq').1.own hr'
          omega
      · simp only [upd_other _ _ e] at hq
        by_cases e2 : q' = p
        · subst e2
          simp only [upd_same, Option.some.injEq, Prod.mk.injEq] at hq'
          obtain ⟨rfl, rfl⟩ := hq'
          rcases hvb with e3 | ⟨g', hg', hle⟩
          · rw [hr'] at e3
            exact hother_rows q u m e hq r hr e3.symm
          · rw [hr'] at hg'
            injection hg' with hg'
            subst hg'
            have := ownsRow_lt (h.rw q u m hq).1.own hr
            omega
        · simp only [upd_other _ _ e2] at hq'
          exact h.rA q q' u u' m m' r hne hq hq' hr hr'
    kz := fun q hq => by
      by_cases e : q = p
      · subst e; exact hp
      · simp only [upd_other _ _ e] at hq
        exact h.kz q hq }
end Go.Proofs.YtegdadkejheagaaDoor
