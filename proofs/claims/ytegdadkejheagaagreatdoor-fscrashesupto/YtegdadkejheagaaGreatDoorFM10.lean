/-
  Pure: how both disks begin; what two crashes tell.
-/
import Derived.Test.YtegdadkejheagaaGreatDoorG18
namespace Go.Proofs.YtegdadkejheagaaGreatDoor
open Go.RowKit Go.WideMaps Go.Maps

def dd0 (q o : Int) : DD := ⟨[], [], [], [], q, o, 0, false⟩
theorem cor_new (q o : Int) : Cor (fun _ => 0) (plP (newS q).ps [] o) (dd0 q o) := {
  N := ⟨List.Pairwise.nil, fun _ => rfl, fun _ hx => absurd hx (by show ¬ _ ∈ ([] : NL); simp)⟩
  L := ⟨List.Pairwise.nil, fun _ => rfl, fun _ hx => absurd hx (by show ¬ _ ∈ ([] : NL); simp)⟩
  C := fun _ => rfl
  P := fun _ hx => absurd hx (by show ¬ _ ∈ ([] : List PnC); simp)
  F := fun f h1 h2 => by
    have h2 : f ≤ 0 := h2
    omega
  inj := fun i j h1 h2 => by
    have h2 : i ≤ 0 := h2
    omega
  quota := rfl
  last := rfl
  count := rfl
  dark := rfl
  used := rfl
  R := fun i => by
    show decide (i ∈ ([] : List Int)) = false
    simp }
theorem inv_plan {s : Ps} (h : Inv s) (L : List Int) (o : Int) : Inv (plP s L o) := ⟨h.nL, h.cq, h.inj, h.nF, h.e0⟩
theorem dl_new (q o : Int) : DL (dd0 q o) 0 := ⟨Nat.le_refl _, Nat.le_refl _, Nat.le_refl _, fun _ hx => absurd hx (by show ¬ _ ∈ ([] : List (List Int × Nat)); simp), Int.le_refl _, Int.le_refl _, fun _ hx => absurd hx (by show ¬ _ ∈ ([] : List PnC); simp)⟩
theorem dm_new (G : Nat → Prop) (w : World) (q o : Int) : DM G w (dd0 q o) ⟨.slice none 0 0, .slice none 0 0, .slice none 0 0, .slice none 0 0⟩ := ⟨RdK.nil _ _ _, RdK.nil _ _ _, RdK.nil _ _ _, [], rfl, RdK.nil _ _ _, by simp⟩
theorem crash_sub {N : ByteArray → Option Nat} {F : Nat → Option (List Int × Nat)} {cs : List Int} : ∀ (ks : List ByteArray) (s : List (ByteArray × List Int) × Nat), ∃ qs, qs.Sublist ks ∧ (ks.foldl (crO N F cs) s).1.map Prod.fst = s.1.map Prod.fst ++ qs
  | [], s => ⟨[], List.Sublist.refl _, by simp⟩
  | p :: ks, s => by
    rw [List.foldl_cons]
    obtain ⟨qs, h1, h2⟩ := crash_sub (N := N) (F := F) (cs := cs) ks (crO N F cs s p)
    rw [h2]
    cases hx : (N p).bind F with
    | none =>
      have e : crO N F cs s p = s := by unfold crO; rw [hx]
      exact ⟨qs, h1.cons p, by rw [e]⟩
    | some x =>
      have e : (crO N F cs s p).1.map Prod.fst = s.1.map Prod.fst ++ [p] := by unfold crO; rw [hx]; simp
      exact ⟨p :: qs, h1.cons_cons p, by rw [e]; simp⟩
theorem Cor.toldD {φ : Nat → Nat} {s : Ps} {D : DD} (h : Cor φ s D) : Told s D := fun _ hk => h.told hk
/-- What a disk tells behind two crashes. -/
theorem told_twice {φ : Nat → Nat} {s s' s'' : Ps} {D : DD} (h : Cor φ s D) {cs cs2 : List Int} {ks ps ks2 ps2 : List ByteArray} (hc : CrD s cs s' ks ps) (hc2 : CrD s' cs2 s'' ks2 ps2) : Told s'' (crashF D cs ks) ∧ s''.dark = false ∧ s''.count = 0 := by
  obtain ⟨φ', h'⟩ := h.crash hc
  refine ⟨fun ps' hk => ?_, hc2.cri.dark, hc2.cri.count⟩
  have hl : ((crG (svF s.C cs s.L 0 ks) s.F cs ks.length ps).1.map Prod.fst).Pairwise ltA := by
    obtain ⟨qs, h1, h2⟩ := crash_sub (N := svF s.C cs s.L 0 ks) (F := s.F) (cs := cs) ps ([], ks.length)
    unfold crG
    rw [h2]
    simpa using (keys_rise hc.hps).sublist h1
  have hN : svF s'.C cs2 s'.L 0 ks2 = s'.N := funext fun p => by
    rw [svF_off (fun q c hq => by rw [hc.cri.C] at hq; exact absurd hq (by simp)), hc.cri.NL]
  have hk2 : KeysOk (nmV s'.N) ps2 := by
    have := hc2.hps
    rwa [hN] at this
  rw [crash_twice hc.cri hl hc2 hk, ← hc.cri.told hk2 hl]
  exact h'.told hk2
theorem Cor.nrng {φ : Nat → Nat} {s : Ps} {D : DD} (h : Cor φ s D) : ∀ x ∈ D.names, 1 ≤ x.2 ∧ x.2 ≤ D.files.length := fun x hx => ⟨(h.N.rng x hx).1, (h.N.rng x hx).2.1⟩
theorem Cor.crng {φ : Nat → Nat} {s : Ps} {D : DD} (h : Cor φ s D) (cs : List Int) (ks : List ByteArray) : ∀ x ∈ (nmsG D cs ks).1, 1 ≤ x.2 ∧ x.2 ≤ D.files.length := fun x hx => by
  have hn := h.crashNames cs ks (s.L, 0) (D.lasting, 0) h.L rfl
  exact ⟨(hn.rng x hx).1, (hn.rng x hx).2.1⟩
/-- How much is used. -/
theorem Cor.small {φ : Nat → Nat} {s : Ps} {D : DD} (h : Cor φ s D) {k : Nat} (hD : DL D k) (hk : k ≤ 1000) : 0 ≤ s.count ∧ s.count < 1000000 ∧ -4398046511104 ≤ s.used ∧ s.used ≤ 4398046511104 := by
  have h1 := sumF_le (fs := D.files) (fun x hx => by have := (hD.x x hx).1; omega) D.names
  have h2 := hD.n
  have h3 := hD.c0
  have h4 := hD.c1
  rw [h.count, h.used]
  unfold usedF
  omega
theorem Dg.sub {G G' : Nat → Prop} {lo : Nat} {w : World} {d n m : Nat} {s : Ps} (h : Dg G lo w d s n m) (hG : ∀ i, G' i → G i) : Dg G' lo w d s n m := by
  obtain ⟨h1, B, S, h2, h3, h4, h5⟩ := h
  exact ⟨fun i hi => h1 i (hG i hi), B, S, h2, h3, h4, fun i hi => ⟨(h5 i hi).1, fun hg => (h5 i hi).2 (hG i hg)⟩⟩
theorem Rx.sub {G G' : Nat → Prop} {lo : Nat} {w : World} {d : Nat} {s : Ps} {k : Nat} (h : Rx G lo w d s k) (hG : ∀ i, G' i → G i) : Rx G' lo w d s k := by
  obtain ⟨a, b, h1, h2⟩ := h
  exact ⟨a, b, h1.sub hG, h2⟩
/-- A block that is none of the disk's turned. -/
theorem Dg.turned {G : Nat → Prop} {lo : Nat} {w w' : World} {d n m : Nat} {s : Ps} (h : Dg G lo w d s n m) (hs : w'.heap.size = w.heap.size) {g : Nat} (hg : G g) (hb : ∀ i, i ≠ g → w'.heap[i]? = w.heap[i]?) : Dg G lo w' d s n m := by
  obtain ⟨h1, B, S, h2, h3, h4, h5⟩ := h
  exact ⟨fun i hi => by rw [hs]; exact h1 i hi, B, S, h2.far (fun i _ hi => hb i (fun e => (h5 i hi).2 (e ▸ hg))) (fun _ _ h => h) (Nat.le_refl _), h3, h4, fun i hi => ⟨⟨(h5 i hi).1.1, by rw [hs]; exact (h5 i hi).1.2⟩, (h5 i hi).2⟩⟩
theorem Rx.row {G : Nat → Prop} {lo : Nat} {w : World} {d : Nat} {s : Ps} {k : Nat} (h : Rx G lo w d s k) {g : Nat} (hg : G g) (cs : Array Value) : Rx G lo (w.setRow g cs) d s k := by
  obtain ⟨a, b, h1, h2⟩ := h
  exact ⟨a, b, h1.turned (by simp [World.setRow]) hg (fun i hi => setRow_other w g i cs hi), h2⟩
end Go.Proofs.YtegdadkejheagaaGreatDoor
