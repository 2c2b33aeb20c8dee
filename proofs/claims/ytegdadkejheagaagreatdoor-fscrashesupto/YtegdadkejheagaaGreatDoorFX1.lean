/-
  Pure: one file, synced; what a crash leaves of it.
-/
import Derived.Test.YtegdadkejheagaaGreatDoorFX0
namespace Go.Proofs.YtegdadkejheagaaGreatDoor
open Go.RowKit Go.WideMaps Go.Maps

def pA : ByteArray := ⟨#[97]⟩
theorem pA_path : pathF pA = true := by kernel_rfl
def pE : ByteArray := ⟨#[]⟩
theorem pA_fol : folF pA = pE := by kernel_rfl
/-- A disk's blocks behind a call: one that is not among them stays out. -/
theorem Dk.gr {w w' : World} {B : Nat → Prop} {d n : Nat} {S : St} (h : Dk w' (Gr B w) d S n) {lo : Nat} {G : Nat → Prop} (hB : (∀ i, B i → ¬ G i) ∧ ∀ i, B i → lo ≤ i) (hg : ∀ i, G i → i < w.heap.size) (hlo : lo ≤ w.heap.size) : ∃ B', Dk w' B' d S n ∧ (∀ i, B' i → ¬ G i) ∧ ∀ i, B' i → lo ≤ i ∧ i < w'.heap.size :=
  ⟨_, h.cut, fun i hi hG => by
    rcases hi.1 with h | h
    · exact hB.1 i h hG
    · have := hg i hG; omega, fun i hi => ⟨by
    rcases hi.1 with h | h
    · exact hB.2 i h
    · omega, hi.2⟩⟩
theorem OwnF.fx {w w' : World} {base : Nat} {v : Value} {l : List FlC} (h : OwnF w base v l) {S : Nat → Prop} (hF : Fx S w w') (hS : ∀ i, S i → i < base) : OwnF w' base v l :=
  ⟨ownsRow_far h.own (fun g hg => hF.block _ (ownsRow_lt h.own hg) (fun e => by
    have h1 := hS g e
    rcases h.own.2 with ⟨h2, -⟩ | ⟨g', cap, cur, h2, h3, -⟩
    · subst h2; cases hg
    · subst h2
      simp only [Value.ownBlock, Option.some.injEq] at hg
      omega)), fun c hc => (h.dat c hc).far (fun g hg => hF.block _ ((h.dat c hc).lt g hg).2 (fun e => by
    have h1 := hS g e
    have h2 := ((h.dat c hc).lt g hg).1
    omega))⟩
/-- The cells of a file that is told alone. -/
theorem OwnF.one {w : World} {base : Nat} {v : Value} {c : FlC} (h : OwnF w base v [c]) : ∃ g cap, v = .slice (some ⟨g, 0, none⟩) 1 cap ∧ w.cell? ⟨g, 0, none⟩ = some (.string c.p) ∧ w.cell? ⟨g, 1, none⟩ = some c.v ∧ ∃ cur, w.heap[g]? = some (.cells cur 52 (0, 0)) := by
  rcases h.own.2 with ⟨h1, h2⟩ | ⟨g, cap, cur, h1, -, h5, -⟩
  · simp at h2
  · refine ⟨g, cap, h1, ?_, ?_, cur, h5⟩
    · have h3 := h.own
      rw [h1] at h3
      have := World.ownsRow.cells h3 (g := g) rfl 0 (.string c.p) rfl
      rw [add_plain, Nat.zero_add] at this
      exact this
    · have h3 := h.own
      rw [h1] at h3
      have := World.ownsRow.cells h3 (g := g) rfl 1 c.v rfl
      rw [add_plain, Nat.zero_add] at this
      exact this
/-- A new file, alone. -/
theorem one_file {q : Int} {p : ByteArray} (hp : pathF p = true) {s1 : Ps} (h : CrP (newS q).ps p s1) : Calm s1 ∧ s1.quota = q ∧ s1.used = 0 ∧ s1.count = 1 ∧ ∃ f, (∀ r, s1.N r = if r = p then some f else none) ∧ (∀ r, s1.L r = none) ∧ (∀ r, s1.C r = if r = folF p then [crC p f] else []) ∧ s1.F f = some ([], 0) := by
  have hc := (calm_new q).cr h
  have hn := (calm_new q).cr_count h
  obtain ⟨f, -, rfl⟩ := (calm_new q).created hp rfl h
  refine ⟨hc, by show (bgP (newS q).ps).quota = q; rw [(calm_new q).bgP_eq]; rfl, by show (bgP (newS q).ps).used = 0; rw [bgP_used]; rfl, hn, f, fun r => ?_, fun r => ?_, fun r => ?_, ?_⟩
  · show apl (bgP (newS q).ps).N (crC p f) r = _
    rw [bgP_N]
    show upd (upd (fun _ => none) ByteArray.empty none) p (some f) r = _
    unfold upd
    split
    · rfl
    · split <;> rfl
  · show (bgP (newS q).ps).L r = none
    rw [bgP_L]
    rfl
  · show upd (bgP (newS q).ps).C (folF p) ((bgP (newS q).ps).C (folF p) ++ [crC p f]) r = _
    rw [bgP_C]
    show upd (fun _ => []) (folF p) ([] ++ [crC p f]) r = _
    unfold upd
    split <;> rfl
  · show upd (newS q).ps.F f (some ([], 0)) f = _
    rw [upd_same]
/-- One file, perhaps with bytes, perhaps synced. -/
structure One (s : Ps) (q : Int) (p : ByteArray) (f : Nat) (xs : List Int) (k : Nat) : Prop where
  calm : Calm s
  quota : s.quota = q
  used : s.used = (xs.length : Nat)
  N : ∀ r, s.N r = if r = p then some f else none
  F : s.F f = some (xs, k)
theorem One.file {s : Ps} {q : Int} {p : ByteArray} {f : Nat} {xs : List Int} {k : Nat} (h : One s q p f xs k) : fileP s p = some (f, xs, k) := by
  unfold fileP
  rw [h.N, if_pos rfl]
  show (s.F f).map _ = _
  rw [h.F]
  rfl
theorem One.ap {s : Ps} {q : Int} {p : ByteArray} {f : Nat} {xs : List Int} {k : Nat} (h : One s q p f xs k) (hp : pathF p = true) (ys : List Int) (h1 : xs.length + ys.length ≤ 2097152) (h2 : (xs.length : Int) + ys.length ≤ q) :
    apE s p ys.length = 0 ∧ One (apP s p ys) q p f (xs ++ ys) k ∧ (apP s p ys).L = s.L ∧ (apP s p ys).C = s.C := by
  have hu : s.used + (ys.length : Int) ≤ s.quota := by rw [h.used, h.quota]; exact h2
  refine ⟨h.calm.apE hp h.file h1 hu, ⟨h.calm.ap _ _, ?_, ?_, fun r => ?_, ?_⟩, ?_, ?_⟩ <;> rw [h.calm.apP hp h.file h1 hu]
  · show (bgP s).quota = q
    rw [h.calm.bgP_eq]
    exact h.quota
  · show s.used + _ = _
    rw [h.used, List.length_append]
    push_cast
    rfl
  · show (bgP s).N r = _
    rw [bgP_N]
    exact h.N r
  · show upd s.F f _ f = _
    rw [upd_same]
  · exact bgP_L s
  · exact bgP_C s
theorem One.sy {s : Ps} {q : Int} {p : ByteArray} {f : Nat} {xs : List Int} {k : Nat} (h : One s q p f xs k) (hp : pathF p = true) : opEP s [p] p = 0 ∧ One (syP s p) q p f xs xs.length ∧ (syP s p).L = s.L ∧ (syP s p).C = s.C := by
  have h0 := h.calm.opE hp (fileP_inv h.file).1
  have e : syP s p = { bgP s with F := upd s.F f (some (xs, xs.length)) } := by
    unfold syP
    rw [if_pos h0, h.file]
  refine ⟨h0, ⟨h.calm.sy _, ?_, ?_, fun r => ?_, ?_⟩, ?_, ?_⟩ <;> rw [e]
  · show (bgP s).quota = q
    rw [h.calm.bgP_eq]
    exact h.quota
  · show (bgP s).used = _
    rw [bgP_used]
    exact h.used
  · show (bgP s).N r = _
    rw [bgP_N]
    exact h.N r
  · show upd s.F f _ f = _
    rw [upd_same]
  · exact bgP_L s
  · exact bgP_C s
theorem oneF_nil : oneF [] = true := rfl
theorem One.sd {s : Ps} {q : Int} {p : ByteArray} {f : Nat} {xs : List Int} {k : Nat} (h : One s q p f xs k) (hL : ∀ r, s.L r = none) (hC : ∀ r, s.C r = if r = folF p then [crC p f] else []) : bgEP s false [] = 0 ∧ One (sdP s (folF p)) q p f xs k ∧ (∀ r, (sdP s (folF p)).L r = if r = p then some f else none) ∧ ∀ r, (sdP s (folF p)).C r = [] := by
  have h0 := h.calm.bgE oneF_nil false
  have e : sdP s (folF p) = { bgP s with L := (s.C (folF p)).foldl apl s.L, C := upd s.C (folF p) [] } := by
    unfold sdP
    rw [if_pos h0]
  refine ⟨h0, ⟨h.calm.sd _, ?_, ?_, fun r => ?_, ?_⟩, fun r => ?_, fun r => ?_⟩ <;> rw [e]
  · show (bgP s).quota = q
    rw [h.calm.bgP_eq]
    exact h.quota
  · show (bgP s).used = _
    rw [bgP_used]
    exact h.used
  · show (bgP s).N r = _
    rw [bgP_N]
    exact h.N r
  · show (bgP s).F f = _
    rw [bgP_F]
    exact h.F
  · show (s.C (folF p)).foldl apl s.L r = _
    rw [hC, if_pos rfl]
    show upd (upd s.L ByteArray.empty none) p (some f) r = _
    unfold upd
    split
    · rfl
    · split
      · rfl
      · exact hL r
  · show upd s.C (folF p) [] r = []
    unfold upd
    split
    · rfl
    · rw [hC, if_neg (by assumption)]
/-- What a crash leaves of one file that lasts. -/
theorem One.crash {s s' : Ps} {q : Int} {p : ByteArray} {f : Nat} {xs : List Int} (h : One s q p f xs xs.length) (hL : ∀ r, s.L r = if r = p then some f else none) (hC : ∀ r, s.C r = []) {cs : List Int} {ks ps : List ByteArray} (hc : CrD s cs s' ks ps) : ∃ f', One s' q p f' xs xs.length := by
  have hks : ks = [] := keys_none hc.hks (fun r => by rw [hC]; rfl)
  have hsv : svF s.C cs s.L 0 ks = s.L := by rw [hks]; rfl
  have hps : ps = [p] := keys_one hc.hps p (fun r => by
    rw [hsv]
    unfold nmV
    rw [hL]
    by_cases e : r = p <;> simp [e])
  have hi := hc.cri
  have hg : (crG (svF s.C cs s.L 0 ks) s.F cs ks.length ps).1 = [(p, xs)] := by
    rw [hsv, hps, hks]
    show (crO _ _ _ ([], 0) p).1 = _
    unfold crO
    rw [hL, if_pos rfl]
    show (match s.F f with | none => _ | some x => _ : List (ByteArray × List Int) × Nat).1 = _
    rw [h.F]
    show [] ++ [(p, rmL xs xs.length cs 0)] = _
    unfold rmL
    rw [if_pos rfl]
    rfl
  rw [hg] at hi
  obtain ⟨g, hN, hF⟩ := hi.yes p xs (by simp)
  refine ⟨g, hi.calm, by rw [hi.quota]; exact h.quota, by rw [hi.used]; simp [sumL], fun r => ?_, hF⟩
  by_cases e : r = p
  · rw [e, hN, if_pos rfl]
  · rw [if_neg e, hi.no r (by simp [e])]
theorem One.files {s : Ps} {q : Int} {p : ByteArray} {f : Nat} {xs : List Int} {k : Nat} (h : One s q p f xs k) {l : List FlC} (hl : FlL s l) : ∃ c, l = [c] ∧ c.p = p ∧ c.xs = xs := by
  unfold FlL at hl
  rw [if_neg (by rw [h.calm.dark]; decide)] at hl
  obtain ⟨ps, hk, hm⟩ := hl
  have hps : ps = [p] := keys_one hk p (fun r => by
    unfold nmV
    rw [h.N]
    by_cases e : r = p <;> simp [e])
  rw [hps] at hm
  have hm : l.map (fun c : FlC => (c.p, c.xs)) = [(p, match fileP s p with | none => [] | some (_, xs, _) => xs)] := hm
  rw [h.file] at hm
  cases l with
  | nil => cases hm
  | cons c l =>
    cases l with
    | nil =>
      simp only [List.map_cons, List.map_nil, List.cons.injEq, Prod.mk.injEq, and_true] at hm
      exact ⟨c, rfl, hm.1, hm.2⟩
    | cons c2 l => simp at hm
end Go.Proofs.YtegdadkejheagaaGreatDoor
