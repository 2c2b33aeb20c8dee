/-
  Walks: Remove.
-/
import Derived.Test.YtegdadkejheagaaDoorFK
namespace Go.Proofs.YtegdadkejheagaaDoor
open Go.RowKit Go.WideMaps

def rmC (p : ByteArray) : Chg := ⟨p, none⟩
def rmP (s : Ps) (p : ByteArray) : Ps := if opEP s [p] p = 0 then (match fileP s p with | none => bgP s | some (_, xs, _) => noteP { bgP s with used := s.used - xs.length } p (rmC p)) else bgP s
set_option maxRecDepth 100000 in
set_option maxHeartbeats 2000000 in
theorem remove_any (p : ByteArray) {w : World} {B : Nat → Prop} {d n : Nat} {S : St} (h : Dk w B d S n) (hg : Gl w) (hc0 : 0 ≤ S.count) (hc1 : S.count < 1000000) (hgd : 3 ≤ d) (hn : n < 900000) (hm : S.m < 1000) (hu0 : -4398046511104 ≤ S.used) (hu1 : S.used ≤ 4398046511104) :
    Calls Tryd.prog 19 #[.pointer (some ⟨d, 0, none⟩), .string p] w fun e w' => e = .returned (.int .i64 (opEP S.ps [p] p)) ∧ ∃ S', Dk w' (Gr B w) d S' (n + 2) ∧ S'.ps = rmP S.ps p ∧ Fx B w w' ∧ S'.m ≤ S.m + 1 := by
  obtain ⟨w1, hw1⟩ : ∃ w1, w.alloc (.cells #[.string p] 9) = w1 := ⟨_, rfl⟩
  have hb1 : Below w.heap.size w w1 := by rw [← hw1]; exact (Below.refl _ _).alloc (Nat.le_refl _) _
  have hr1 : RdS w1 (.slice (some ⟨w.heap.size, 0, none⟩) 1 1) [p] := by rw [← hw1]; exact rdS_made w p
  have hdlt := h.blk.lt
  have KOp := Kept.mk (open_any _ p [] (h.later hb1) (hg.later hb1) hr1 (by simp) (fun b off k c e => by injection e with e; injection e with e; injection e with e; omega) hc0 hc1 hgd)
  have KD := Kept.mk h
  have KB1 := Kept.mk hb1
  have KE : Kept (opEP S.ps [p] p = opE S [p] p) := ⟨rfl⟩
  have KP : Kept (rmP S.ps p = if opE S [p] p = 0 then (match fileP S.ps p with | none => bgP S.ps | some (_, xs, _) => noteP { bgP S.ps with used := S.used - xs.length } p (rmC p)) else bgP S.ps) := ⟨rfl⟩
  have KOF : Kept (opE S [p] p = 0 → ∃ f, opF S [p] p = some f ∧ S.N p = some f) := ⟨open_found⟩
  have KOs : Kept (opE S [p] p = 0 → p.size ≤ 200) := ⟨fun h => by
    unfold opE at h
    split at h
    · rename_i h0; exact oneF_size (bg_ok h0) p (by simp)
    · rename_i h0; exact absurd h h0⟩
  obtain ⟨E, hE⟩ : ∃ E, opE S [p] p = E := ⟨_, rfl⟩
  obtain ⟨Fo, hFo⟩ : ∃ Fo, opF S [p] p = Fo := ⟨_, rfl⟩
  rw [hE, hFo] at KOp KOF
  rw [hE] at KE KP KOs
  clear h hg hb1 hr1 hE hFo
  go_enter Tryd.func19, Tryd.ntmps19
  go_wp2_with fail
  refine Calls.mono KOp.out (fun x w2 hq => ?_)
  obtain ⟨rfl, hd2, hf2⟩ := hq
  have KD2 := Kept.mk hd2
  have KF2 : Kept (Fx B w w2) := ⟨(Fx.ofBelow (S := B) KB1.out (Nat.le_refl _)).trans hf2 (fun i _ e => by subst e; exact KD.out.inB)⟩
  clear hw1 hd2 hf2 KOp
  by_cases h0 : E = 0
  · subst h0
    obtain ⟨f, rfl, hN⟩ := KOF.out rfl
    obtain ⟨c, hc⟩ := KD.out.bd.nF p f hN
    have hcF : (bgS S).F f = some c := by rw [bgS_F]; exact hc
    have hfl := KD2.out.bd.fl f c hcF
    have KFP := Kept.mk (fileP_some hN hc)
    have KP2 : Kept (rmP S.ps p = noteP { bgP S.ps with used := S.used - c.xs.length } p (rmC p)) := ⟨by rw [KP.out, if_pos rfl, KFP.out]⟩
    obtain ⟨av, cv, hv⟩ := own_form hfl.own
    have hbig := hfl.big
    have eu : (bgS S).used = S.used := by unfold bgS; split <;> rfl
    have Kps := Kept.mk (KOs.out rfl)
    have hl : IntKind.i64.wrap (S.used - (c.xs.length : Int)) = S.used - (c.xs.length : Int) := wr64 (by omega) (by omega)
    have KFl := Kept.mk hfl
    have KV := Kept.mk hv
    have KU := Kept.mk eu
    clear hc hcF hN hfl hv eu
    unfold ptrV
    go_upto_region 4 with fail
    refine wp_region_last _ 12 (by kernel_rfl) (by kernel_rfl) rfl rfl ?_
    simp only [List.take_succ_cons, List.take_zero]
    have k0 := KFl.out.blk.cell 0 _ rfl
    rw [KV.out] at k0
    have q1 := KD2.out.used
    rw [KU.out] at q1
    repeat (go_big_quiet_step ((intro _; rfl)))
    refine wpQuiet_nil ?_
    intro k
    obtain ⟨w3, hw3⟩ : ∃ w3, w2.drewN k = w3 := ⟨_, rfl⟩
    rw [hw3]
    have hb3 : Below w2.heap.size w2 w3 := hw3 ▸ below_drewN (Below.refl _ _) k
    have KD3 := Kept.mk (KD2.out.later hb3)
    have KF3 : Kept (Fx B w w3) := ⟨KF2.out.trans (Fx.ofBelow (S := fun _ => False) hb3 (Nat.le_refl _)) (fun _ _ h => h.elim)⟩
    clear hw3 hb3 k0 q1
    have q1 := KD3.out.used
    rw [KU.out] at q1
    have f1 := KD3.out.blk.frozen 1
    have KD4 : Kept (Dk (w3.setCell ⟨d, 1, none⟩ (.int .i64 (S.used - (c.xs.length : Int)))) B d { bgS S with used := S.used - (c.xs.length : Int) } n) := ⟨KD3.out.setCell 1 _ rfl (fun h => h.fields (bgS S).quota (S.used - (c.xs.length : Int)) (bgS S).last (bgS S).count (bgS S).dark)⟩
    have KF4 : Kept (Fx B w (w3.setCell ⟨d, 1, none⟩ (.int .i64 (S.used - (c.xs.length : Int))))) := ⟨KF3.out.trans (Fx.setCell w3 d 1 _) (fun i _ e => by subst e; exact KD.out.inB)⟩
    obtain ⟨w4, hw4⟩ : ∃ w4, w3.setCell ⟨d, 1, none⟩ (.int .i64 (S.used - (c.xs.length : Int))) = w4 := ⟨_, rfl⟩
    rw [hw4] at KD4 KF4
    go_simp
    clear q1 f1
    have KCl := Kept.mk (sclone_any p w4 (by have := Kps.out; omega))
    go_wp2_with fail
    refine Calls.mono KCl.out (fun x w5 hq => ?_)
    obtain ⟨rfl, hb5⟩ := hq
    have KD5 := Kept.mk (KD4.out.later hb5)
    have KF5 : Kept (Fx B w w5) := ⟨KF4.out.trans (Fx.ofBelow (S := fun _ => False) hb5 (Nat.le_refl _)) (fun _ _ h => h.elim)⟩
    have KNo := Kept.mk (note_any p (rmC p) KD5.out Kps.out ⟨Kps.out, fun _ _ h => nomatch h⟩ (fun _ h => nomatch h) hn (by show (bgS S).m < 1000; rw [bgS_m]; exact hm))
    have KNo : Kept (Calls Tryd.prog 38 #[.pointer (some ⟨d, 0, none⟩), .string p, .agg #[.string p, .string ⟨#[]⟩, .pointer none]] w5 _) := KNo
    clear hb5 KCl hw4
    go_wp2_with fail
    refine Calls.mono KNo.out (fun x w6 hq => ?_)
    obtain ⟨rfl, S6, hd6, hps6, -, hf6, hm6⟩ := hq
    have KM6 : Kept (S6.m ≤ S.m + 1) := ⟨by rw [hm6]; show (bgS S).m + 1 ≤ S.m + 1; rw [bgS_m]; omega⟩
    have KD6 := Kept.mk hd6
    have KP6 := Kept.mk hps6
    have KF6 : Kept (Fx B w w6) := ⟨KF5.out.trans hf6 (fun i _ h => h)⟩
    clear hd6 hps6 hf6 hm6 KNo
    go_wp2
    go_ret
    refine ⟨by rw [KE.out]; rfl, S6, KD6.out.weak (fun i _ h => Or.elim h Or.inl (fun h => Or.inr (Nat.le_trans KF5.out.size h))) (Nat.le_refl _), ?_, KF6.out, KM6.out⟩
    rw [KP6.out, KP2.out]
    have e3 : St.ps { bgS S with used := S.used - (c.xs.length : Int) } = { St.ps (bgS S) with used := S.used - (c.xs.length : Int) } := rfl
    rw [e3, bgS_ps]
  · have hb : (E == 0) = false := by simpa using h0
    have KP2 : Kept (rmP S.ps p = bgP S.ps) := ⟨by rw [KP.out, if_neg h0]⟩
    go_wp2
    go_ret
    exact ⟨by rw [KE.out]; rfl, bgS S, KD2.out.weak (fun i _ h => .inl h) (by omega), by rw [KP2.out]; exact bgS_ps S, KF2.out, by rw [bgS_m]; omega⟩
end Go.Proofs.YtegdadkejheagaaDoor
