/-
  Pieces of a disk that are turned: names, what lasts, what is pending, files.
-/
import Derived.Test.YtegdadkejheagaaDoorFE
namespace Go.Proofs.YtegdadkejheagaaDoor
open Go.RowKit Go.WideMaps

/-- What is not a map stays where only a map is turned. -/
theorem cells_far {w w' : World} {B : Nat → Prop} {b : Nat} (hb : ∃ es k, w.heap[b]? = some (.map es k)) (hF : ∀ i, i < w.heap.size → B i → i ≠ b → w'.heap[i]? = w.heap[i]?) {g : Nat} {cs : Array Value} {e : TypeId} {q : Nat × Nat} (hg : w.heap[g]? = some (.cells cs e q)) (hBg : B g) : w'.heap[g]? = w.heap[g]? := by
  refine hF g (Array.getElem?_eq_some_iff.1 hg).1 hBg (fun e' => ?_)
  obtain ⟨es, k, hm⟩ := hb
  subst e'
  rw [hm] at hg
  injection hg with hg
  cases hg
theorem MapAt.isMap {w : World} {b n : Nat} {f : ByteArray → Option Value} (h : MapAt w (some b) n f) : ∃ es k, w.heap[b]? = some (.map es k) := by
  obtain ⟨D, ⟨es, k, h1, -⟩, -⟩ := h
  exact ⟨es, k, h1⟩
/-- The files and rows of a disk stay where only a map is turned. -/
theorem Bd.kept {w w' : World} {B : Nat → Prop} {S : St} {n b : Nat} (h : Bd w B S n) (hb : ∃ es k, w.heap[b]? = some (.map es k)) (hF : ∀ i, i < w.heap.size → B i → i ≠ b → w'.heap[i]? = w.heap[i]?) :
    (∀ f c, S.F f = some c → FileAt w' B f c) ∧ (∀ p v l, S.C p = some (v, l) → RowC w' B v l ∧ l.length ≤ S.m) := by
  refine ⟨fun f c hf => ?_, fun p v l hp => ?_⟩
  · have hx := h.fl f c hf
    refine hx.far (cells_far hb hF hx.blk hx.inB) (fun g hg => ?_) (fun _ _ h => h)
    obtain ⟨cur, hcur⟩ := ownsRow_blk hx.own hg
    exact cells_far hb hF hcur (hx.ownB g hg)
  · have hx := h.rw p v l hp
    refine ⟨hx.1.far (fun g hg => ?_) (fun _ _ h => h), hx.2⟩
    obtain ⟨cur, hcur⟩ := ownsRow_blk hx.1.own hg
    exact cells_far hb hF hcur (hx.1.ownB g hg)
theorem MapAt.at {w : World} {mb : Option Nat} {b n : Nat} {f : ByteArray → Option Value} (h : MapAt w mb n f) (e : mb = some b) : MapAt w (some b) n f := e ▸ h
/-- Another map stays. -/
theorem MapAt.past {w w' : World} {B : Nat → Prop} {mb : Option Nat} {b n m : Nat} {f : ByteArray → Option Value} (h : MapAt w mb n f) (hne : mb ≠ some b) (hB : ∀ x, mb = some x → B x) (hF : ∀ i, i < w.heap.size → B i → i ≠ b → w'.heap[i]? = w.heap[i]?) (hn : n ≤ m) : MapAt w' mb m f :=
  h.far (fun x e => hF x (by subst e; exact h.lt) (hB x e) (fun e' => hne (by rw [e, e']))) hn
theorem RefAt.past {w w' : World} {B : Nat → Prop} {mb : Option Nat} {b n m : Nat} {f : Int → Bool} (h : RefAt w mb n f) (hne : mb ≠ some b) (hB : ∀ x, mb = some x → B x) (hF : ∀ i, i < w.heap.size → B i → i ≠ b → w'.heap[i]? = w.heap[i]?) (hn : n ≤ m) : RefAt w' mb m f :=
  h.far (fun x e => hF x (by subst e; exact h.lt) (hB x e) (fun e' => hne (by rw [e, e']))) hn
theorem Fx.one {w w' : World} {b : Nat} {B : Nat → Prop} (h : Fx (fun i => i = b) w w') : ∀ i, i < w.heap.size → B i → i ≠ b → w'.heap[i]? = w.heap[i]? := fun i hi _ hne => h.block i hi hne
theorem Bd.setN {w w' : World} {B : Nat → Prop} {S : St} {n b : Nat} (h : Bd w B S n) (hb : S.bn = some b) (N' : ByteArray → Option Nat) (hM : MapAt w' (some b) (n + 1) (nmV N')) (hF : Fx (fun i => i = b) w w') (hex : ∀ p f, N' p = some f → ∃ c, S.F f = some c) (hk : ∀ p, N' p ≠ none → p.size ≤ 200) : Bd w' B { S with N := N' } (n + 1) := by
  have hk1 := h.kept (h.mN.at hb).isMap hF.one
  have s := h.sp b
  exact {
    mN := by show MapAt w' S.bn (n + 1) (nmV N'); rw [hb]; exact hM
    mL := h.mL.past (s.1 hb).1 (fun x e => h.bB x (.inr (.inl e))) hF.one (Nat.le_succ n)
    mC := h.mC.past (s.1 hb).2.1 (fun x e => h.bB x (.inr (.inr (.inl e)))) hF.one (Nat.le_succ n)
    mR := h.mR.past (s.1 hb).2.2 (fun x e => h.bB x (.inr (.inr (.inr e)))) hF.one (Nat.le_succ n)
    bB := h.bB, sp := h.sp, nl := h.nl, fl := hk1.1, fA := h.fA, nF := hex, lF := h.lF, cF := h.cF, rw := hk1.2, rA := h.rA
    kz := fun p hp => by
      rcases hp with h' | h' | h'
      · exact hk p h'
      · exact h.kz p (.inr (.inl h'))
      · exact h.kz p (.inr (.inr h')) }
theorem Bd.setL {w w' : World} {B : Nat → Prop} {S : St} {n b : Nat} (h : Bd w B S n) (hb : S.bl = some b) (N' : ByteArray → Option Nat) (hM : MapAt w' (some b) (n + 1) (nmV N')) (hF : Fx (fun i => i = b) w w') (hex : ∀ p f, N' p = some f → ∃ c, S.F f = some c) (hk : ∀ p, N' p ≠ none → p.size ≤ 200) : Bd w' B { S with L := N' } (n + 1) := by
  have hk1 := h.kept (h.mL.at hb).isMap hF.one
  have s := h.sp b
  exact {
    mL := by show MapAt w' S.bl (n + 1) (nmV N'); rw [hb]; exact hM
    mN := h.mN.past (fun e => (s.1 e).1 hb) (fun x e => h.bB x (.inl e)) hF.one (Nat.le_succ n)
    mC := h.mC.past (s.2.1 hb).1 (fun x e => h.bB x (.inr (.inr (.inl e)))) hF.one (Nat.le_succ n)
    mR := h.mR.past (s.2.1 hb).2 (fun x e => h.bB x (.inr (.inr (.inr e)))) hF.one (Nat.le_succ n)
    bB := h.bB, sp := h.sp, nl := h.nl, fl := hk1.1, fA := h.fA, nF := h.nF, lF := hex, cF := h.cF, rw := hk1.2, rA := h.rA
    kz := fun p hp => by
      rcases hp with h' | h' | h'
      · exact h.kz p (.inl h')
      · exact hk p h'
      · exact h.kz p (.inr (.inr h')) }
/-- A disk's own block lies where no map is. -/
theorem Dk.past {w w' : World} {B : Nat → Prop} {S S' : St} {d n m b : Nat} (h : Dk w B d S n) (hb : ∃ es k, w.heap[b]? = some (.map es k)) (hF : Fx (fun i => i = b) w w') (hcs : S.cs = S'.cs) (hbd : Bd w' B S' m) : Dk w' B d S' m :=
  ⟨by rw [← hcs]; exact h.blk.far (cells_far (B := B) hb hF.one h.blk h.inB), h.inB, hbd⟩
theorem apl_some {N : ByteArray → Option Nat} {c : Chg} {p : ByteArray} {f : Nat} (h : apl N c p = some f) : N p = some f ∨ c.nw = some (p, f) := by
  unfold apl at h
  cases hc : c.nw with
  | none =>
    rw [hc] at h
    simp only [upd] at h
    split at h
    · cases h
    · exact .inl h
  | some q =>
    obtain ⟨p', f'⟩ := q
    rw [hc] at h
    simp only [upd] at h
    split at h
    · rename_i e
      subst e
      injection h with h
      subst h
      exact .inr rfl
    · split at h
      · cases h
      · exact .inl h
theorem apl_size {N : ByteArray → Option Nat} {c : Chg} (hN : ∀ p, N p ≠ none → p.size ≤ 200) (hc : c.Ok) : ∀ p, apl N c p ≠ none → p.size ≤ 200 := by
  intro p hp
  cases h : apl N c p with
  | none => exact absurd h hp
  | some f =>
    rcases apl_some h with h' | h'
    · exact hN p (by rw [h']; exact fun h => nomatch h)
    · exact (hc.nw p f h').2
theorem apl_ex {N : ByteArray → Option Nat} {c : Chg} {F : Nat → Option FileC} (hN : ∀ p f, N p = some f → ∃ e, F f = some e) (hc : ∀ f, c.file = some f → ∃ e, F f = some e) : ∀ p f, apl N c p = some f → ∃ e, F f = some e := by
  intro p f h
  rcases apl_some h with h' | h'
  · exact hN p f h'
  · exact hc f (by unfold Chg.file; rw [h']; rfl)
/-- The names of a disk behind a change. -/
theorem Dk.applied {w w' : World} {B : Nat → Prop} {S : St} {d n b : Nat} (h : Dk w B d S n) (hb : S.bn = some b) {c : Chg} (hc : c.Ok) (hex : ∀ f, c.file = some f → ∃ e, S.F f = some e) (hM : MapAt w' (some b) (n + 1) (nmV (apl S.N c))) (hF : Fx (fun i => i = b) w w') : Dk w' B d { S with N := apl S.N c } (n + 1) :=
  h.past (h.bd.mN.at hb).isMap hF rfl (h.bd.setN hb _ hM hF (apl_ex h.bd.nF hex) (apl_size (fun p hp => h.bd.kz p (.inl hp)) hc))
theorem Dk.lasted {w w' : World} {B : Nat → Prop} {S : St} {d n b : Nat} (h : Dk w B d S n) (hb : S.bl = some b) {c : Chg} (hc : c.Ok) (hex : ∀ f, c.file = some f → ∃ e, S.F f = some e) (hM : MapAt w' (some b) (n + 1) (nmV (apl S.L c))) (hF : Fx (fun i => i = b) w w') : Dk w' B d { S with L := apl S.L c } (n + 1) :=
  h.past (h.bd.mL.at hb).isMap hF rfl (h.bd.setL hb _ hM hF (apl_ex h.bd.lF hex) (apl_size (fun p hp => h.bd.kz p (.inr (.inl hp))) hc))
end Go.Proofs.YtegdadkejheagaaDoor
