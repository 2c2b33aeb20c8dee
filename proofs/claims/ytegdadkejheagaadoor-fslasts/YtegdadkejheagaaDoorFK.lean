/-
  Walks: Sync, Remove.
-/
import Derived.Test.YtegdadkejheagaaDoorFJ
namespace Go.Proofs.YtegdadkejheagaaDoor
open Go.RowKit Go.WideMaps

def syP (s : Ps) (p : ByteArray) : Ps := if opEP s [p] p = 0 then (match fileP s p with | none => bgP s | some (f, xs, _) => { bgP s with F := upd s.F f (some (xs, xs.length)) }) else bgP s
theorem bgP_F (s : Ps) : (bgP s).F = s.F := by unfold bgP; split <;> rfl
theorem bgP_N (s : Ps) : (bgP s).N = s.N := by unfold bgP; split <;> rfl
theorem bgP_C (s : Ps) : (bgP s).C = s.C := by unfold bgP; split <;> rfl
theorem bgP_L (s : Ps) : (bgP s).L = s.L := by unfold bgP; split <;> rfl
theorem bgP_used (s : Ps) : (bgP s).used = s.used := by unfold bgP; split <;> rfl
/-- What open found. -/
theorem open_found {S : St} {p : ByteArray} {L : List ByteArray} (h : opE S L p = 0) : ∃ f, opF S L p = some f ∧ S.N p = some f := by
  unfold opE at h
  unfold opF
  split at h
  · rename_i h0
    rw [if_pos h0]
    cases hN : S.N p with
    | none => rw [hN] at h; exact absurd h (by decide)
    | some f => exact ⟨f, rfl, rfl⟩
  · rename_i h0
    exact absurd h h0
theorem fileP_some {S : St} {p : ByteArray} {f : Nat} {c : FileC} (hN : S.N p = some f) (hc : S.F f = some c) : fileP S.ps p = some (f, c.xs, c.s) := by
  unfold fileP
  show (S.N p).bind (fun f => ((S.F f).map fun c => (c.xs, c.s)).map fun c => (f, c.1, c.2)) = _
  rw [hN]
  show ((S.F f).map fun c => (c.xs, c.s)).map (fun c => (f, c.1, c.2)) = _
  rw [hc]
  rfl
set_option maxRecDepth 100000 in
set_option maxHeartbeats 2000000 in
theorem sync_any (p : ByteArray) {w : World} {B : Nat → Prop} {d n : Nat} {S : St} (h : Dk w B d S n) (hg : Gl w) (hc0 : 0 ≤ S.count) (hc1 : S.count < 1000000) (hgd : 3 ≤ d) :
    Calls Tryd.prog 12 #[.pointer (some ⟨d, 0, none⟩), .string p] w fun e w' => e = .returned (.int .i64 (opEP S.ps [p] p)) ∧ ∃ S', Dk w' (Gr B w) d S' n ∧ S'.ps = syP S.ps p ∧ Fx B w w' ∧ S'.m = S.m := by
  obtain ⟨w1, hw1⟩ : ∃ w1, w.alloc (.cells #[.string p] 9) = w1 := ⟨_, rfl⟩
  have hb1 : Below w.heap.size w w1 := by rw [← hw1]; exact (Below.refl _ _).alloc (Nat.le_refl _) _
  have hr1 : RdS w1 (.slice (some ⟨w.heap.size, 0, none⟩) 1 1) [p] := by rw [← hw1]; exact rdS_made w p
  have hdlt := h.blk.lt
  have KOp := Kept.mk (open_any _ p [] (h.later hb1) (hg.later hb1) hr1 (by simp) (fun b off k c e => by injection e with e; injection e with e; injection e with e; omega) hc0 hc1 hgd)
  have KD := Kept.mk h
  have KB1 := Kept.mk hb1
  have KE : Kept (opEP S.ps [p] p = opE S [p] p) := ⟨rfl⟩
  have KP : Kept (syP S.ps p = if opE S [p] p = 0 then (match fileP S.ps p with | none => bgP S.ps | some (f, xs, _) => { bgP S.ps with F := upd S.ps.F f (some (xs, xs.length)) }) else bgP S.ps) := ⟨rfl⟩
  have KOF : Kept (opE S [p] p = 0 → ∃ f, opF S [p] p = some f ∧ S.N p = some f) := ⟨open_found⟩
  obtain ⟨E, hE⟩ : ∃ E, opE S [p] p = E := ⟨_, rfl⟩
  obtain ⟨Fo, hFo⟩ : ∃ Fo, opF S [p] p = Fo := ⟨_, rfl⟩
  rw [hE, hFo] at KOp KOF
  rw [hE] at KE KP
  clear h hg hb1 hr1 hE hFo
  go_enter Tryd.func12, Tryd.ntmps12
  go_wp2_with fail
  refine Calls.mono KOp.out (fun x w2 hq => ?_)
  obtain ⟨rfl, hd2, hf2⟩ := hq
  have KD2 := Kept.mk hd2
  have KF2 : Kept (Fx B w w2) := ⟨(Fx.ofBelow (S := B) KB1.out (Nat.le_refl _)).trans hf2 (fun i _ e => by subst e; exact KD.out.inB)⟩
  clear hw1 hd2 hf2 KOp
  by_cases h0 : E = 0
  · subst h0
    obtain ⟨f, rfl, hN⟩ := KOF.out rfl
    obtain ⟨c, hc⟩ := KD.out.bd.nF p f hN
    have hcF : (bgS S).F f = some c := by rw [bgS_F]; exact hc
    have hfl := KD2.out.bd.fl f c hcF
    have KFP := Kept.mk (fileP_some hN hc)
    have KP2 : Kept (syP S.ps p = { bgP S.ps with F := upd S.ps.F f (some (c.xs, c.xs.length)) }) := ⟨by rw [KP.out, if_pos rfl, KFP.out]⟩
    have hset : Bk (w2.setCell ⟨f, 1, none⟩ (.int .i64 (c.xs.length : Nat))) f 64 [c.v, .int .i64 (c.xs.length : Nat)] := hfl.blk.set 1 _
    have hnf : ∀ g, c.v.ownBlock = some g → g ≠ f := fun g hg e => by
      subst e
      obtain ⟨cur, hcur⟩ := ownsRow_blk hfl.own hg
      exact type_ne hfl.blk hcur (by decide) rfl
    have KD3 := Kept.mk (KD2.out.setFile (w3 := w2.setCell ⟨f, 1, none⟩ (.int .i64 (c.xs.length : Nat))) (c' := ⟨c.v, c.xs, c.xs.length⟩) hcF (fun i _ h1 _ => Below.heap_setCell _ _ _ _ h1)
      ⟨hset, .inl hfl.inB, hfl.own.far (fun g hg => Below.heap_setCell _ _ _ _ (hnf g hg)), fun g hg => .inl (hfl.ownB g hg), hfl.all, Nat.le_refl _, hfl.big⟩ (.inl rfl))
    have KF3 : Kept (Fx B w (w2.setCell ⟨f, 1, none⟩ (.int .i64 (c.xs.length : Nat)))) := ⟨KF2.out.trans (Fx.setCell w2 f 1 _) (fun i _ e => by subst e; exact hfl.inB)⟩
    obtain ⟨av, cv, hv⟩ := own_form hfl.own
    have k0 := hfl.blk.cell 0 _ rfl
    have k1 := hfl.blk.cell 1 _ rfl
    have f1 := hfl.blk.frozen 1
    rw [hv] at k0
    have KS' : Kept (St.ps { bgS S with F := upd (bgS S).F f (some ⟨c.v, c.xs, c.xs.length⟩) } = syP S.ps p) := ⟨by rw [ps_setF, bgS_ps, KP2.out, bgP_F]⟩
    obtain ⟨w3, hw3⟩ : ∃ w3, w2.setCell ⟨f, 1, none⟩ (.int .i64 (c.xs.length : Nat)) = w3 := ⟨_, rfl⟩
    rw [hw3] at KD3 KF3
    clear hc hcF hN hfl hv hset hnf
    unfold ptrV
    go_wp2
    go_ret
    exact ⟨by rw [KE.out]; rfl, _, KD3.out.weak (B' := Gr B w) (fun i _ h => Or.elim h Or.inl (fun h => Or.inr (Nat.le_trans KF2.out.size h))) (Nat.le_refl _), KS'.out, KF3.out, bgS_m S⟩
  · have hb : (E == 0) = false := by simpa using h0
    have KP2 : Kept (syP S.ps p = bgP S.ps) := ⟨by rw [KP.out, if_neg h0]⟩
    go_wp2
    go_ret
    exact ⟨by rw [KE.out]; rfl, bgS S, KD2.out.weak (fun i _ h => .inl h) (Nat.le_refl _), by rw [KP2.out]; exact bgS_ps S, KF2.out, bgS_m S⟩
end Go.Proofs.YtegdadkejheagaaDoor
