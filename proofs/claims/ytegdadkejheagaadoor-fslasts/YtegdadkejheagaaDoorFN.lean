/-
  Walks: Rename.
-/
import Derived.Test.YtegdadkejheagaaDoorFL
namespace Go.Proofs.YtegdadkejheagaaDoor
open Go.RowKit Go.WideMaps

def rnC (p q : ByteArray) (f : Nat) : Chg := ⟨p, some (q, f)⟩
def lenAt (s : Ps) (q : ByteArray) : Int := match fileP s q with | none => 0 | some (_, xs, _) => (xs.length : Int)
def rnP (s : Ps) (p q : ByteArray) : Ps := if opEP s [p, q] p = 0 ∧ p ≠ q then (match s.N p with | none => bgP s | some f => noteP { bgP s with used := s.used - lenAt s q } p (rnC p q f)) else bgP s
theorem rdS_made2 (w : World) (p q : ByteArray) : RdS (w.alloc (.cells #[.string p, .string q] 9)) (.slice (some ⟨w.heap.size, 0, none⟩) 2 2) [p, q] :=
  ⟨some ⟨w.heap.size, 0, none⟩, 2, rfl, Nat.le_refl _, fun _ => ⟨w.heap.size, 0, rfl, by simp, (Bk.new w 9 [.string p, .string q]).range⟩⟩
theorem str_of_list {p q : ByteArray} (h : (p.toList == q.toList) = true) : p = q := by
  have h1 : p.toList = q.toList := by simpa using h
  rw [Lib.toList_data, Lib.toList_data] at h1
  apply ByteArray.ext
  exact Array.ext' h1
theorem str_ne_list {p q : ByteArray} (h : p ≠ q) : (p.toList == q.toList) = false := by
  cases hx : (p.toList == q.toList) with
  | false => rfl
  | true => exact absurd (str_of_list hx) h
set_option maxRecDepth 100000 in
set_option maxHeartbeats 4000000 in
theorem rename_any (p q : ByteArray) {w : World} {B : Nat → Prop} {d n : Nat} {S : St} (h : Dk w B d S n) (hg : Gl w) (hc0 : 0 ≤ S.count) (hc1 : S.count < 1000000) (hgd : 3 ≤ d) (hn : n < 900000) (hm : S.m < 1000) (hu0 : -4398046511104 ≤ S.used) (hu1 : S.used ≤ 4398046511104) :
    Calls Tryd.prog 18 #[.pointer (some ⟨d, 0, none⟩), .string p, .string q] w fun e w' => e = .returned (.int .i64 (opEP S.ps [p, q] p)) ∧ ∃ S', Dk w' (Gr B w) d S' (n + 2) ∧ S'.ps = rnP S.ps p q ∧ Fx B w w' ∧ S'.m ≤ S.m + 1 := by
  obtain ⟨w1, hw1⟩ : ∃ w1, w.alloc (.cells #[.string p, .string q] 9) = w1 := ⟨_, rfl⟩
  have hb1 : Below w.heap.size w w1 := by rw [← hw1]; exact (Below.refl _ _).alloc (Nat.le_refl _) _
  have hr1 : RdS w1 (.slice (some ⟨w.heap.size, 0, none⟩) 2 2) [p, q] := by rw [← hw1]; exact rdS_made2 w p q
  have hdlt := h.blk.lt
  have KOp := Kept.mk (open_any _ p [q] (h.later hb1) (hg.later hb1) hr1 (by simp) (fun b off k c e => by injection e with e; injection e with e; injection e with e; omega) hc0 hc1 hgd)
  have KD := Kept.mk h
  have KB1 := Kept.mk hb1
  have KE : Kept (opEP S.ps [p, q] p = opE S [p, q] p) := ⟨rfl⟩
  have KP : Kept (rnP S.ps p q = if opE S [p, q] p = 0 ∧ p ≠ q then (match S.N p with | none => bgP S.ps | some f => noteP { bgP S.ps with used := S.used - lenAt S.ps q } p (rnC p q f)) else bgP S.ps) := ⟨rfl⟩
  have KOF : Kept (opE S [p, q] p = 0 → ∃ f, opF S [p, q] p = some f ∧ S.N p = some f) := ⟨open_found⟩
  have KOs : Kept (opE S [p, q] p = 0 → p.size ≤ 200 ∧ q.size ≤ 200 ∧ 1 ≤ q.size) := ⟨fun h => by
    unfold opE at h
    split at h
    · rename_i h0; exact ⟨oneF_size (bg_ok h0) p (by simp), oneF_size (bg_ok h0) q (by simp), oneF_pos (bg_ok h0) q (by simp)⟩
    · rename_i h0; exact absurd h h0⟩
  obtain ⟨E, hE⟩ : ∃ E, opE S [p, q] p = E := ⟨_, rfl⟩
  obtain ⟨Fo, hFo⟩ : ∃ Fo, opF S [p, q] p = Fo := ⟨_, rfl⟩
  rw [hE, hFo] at KOp KOF
  rw [hE] at KE KP KOs
  clear h hg hb1 hr1 hE hFo
  go_enter Tryd.func18, Tryd.ntmps18
  go_wp2_with fail
  refine Calls.mono KOp.out (fun x w2 hq => ?_)
  obtain ⟨rfl, hd2, hf2⟩ := hq
  have KD2 := Kept.mk hd2
  have KF2 : Kept (Fx B w w2) := ⟨(Fx.ofBelow (S := B) KB1.out (Nat.le_refl _)).trans hf2 (fun i _ e => by subst e; exact KD.out.inB)⟩
  clear hw1 hd2 hf2 KOp
  by_cases h0 : E = 0
  · subst h0
    by_cases hpq : p = q
    · have KP2 : Kept (rnP S.ps p q = bgP S.ps) := ⟨by rw [KP.out, if_neg (fun h => h.2 hpq)]⟩
      have hb : (p.toList == q.toList) = true := by rw [hpq]; simp
      clear hpq
      go_wp2
      go_ret
      exact ⟨by rw [KE.out]; rfl, bgS S, KD2.out.weak (fun i _ h => .inl h) (by omega), by rw [KP2.out]; exact bgS_ps S, KF2.out, by rw [bgS_m]; omega⟩
    · have hb := str_ne_list hpq
      obtain ⟨f, rfl, hN⟩ := KOF.out rfl
      obtain ⟨c, hc⟩ := KD.out.bd.nF p f hN
      have Khc := Kept.mk hc
      have KP2 : Kept (rnP S.ps p q = noteP { bgP S.ps with used := S.used - lenAt S.ps q } p (rnC p q f)) := ⟨by rw [KP.out, if_pos ⟨rfl, hpq⟩, hN]⟩
      obtain ⟨hps, hqs, hqp⟩ := KOs.out rfl
      have hlk := KD2.out.bd.mN.look Tryd.underlying53 (zero_ptr w2) (s := q) (by unfold maxLen; omega)
      rw [bgS_N, nmV_get, bgS_bn] at hlk
      have g2 := KD2.out.names
      rw [bgS_bn] at g2
      have Ks := Kept.mk (And.intro hps (And.intro hqs hqp))
      have eu : (bgS S).used = S.used := by unfold bgS; split <;> rfl
      have KU := Kept.mk eu
      have KTail : Kept (∀ W (u : Int), Dk W B d { bgS S with used := u } n → Fx B w W → S.used - lenAt S.ps q = u → Calls Tryd.prog 38 #[.pointer (some ⟨d, 0, none⟩), .string p, .agg #[.string p, .string q, .pointer (some ⟨f, 0, none⟩)]] W fun e w' => e = .returned (.tuple #[]) ∧ ∃ S', Dk w' (Gr B w) d S' (n + 2) ∧ S'.ps = rnP S.ps p q ∧ Fx B w w' ∧ S'.m ≤ S.m + 1) := ⟨fun W u hW hF hu => by
        have hx : ∃ e, (bgS S).F f = some e := ⟨c, by rw [bgS_F]; exact Khc.out⟩
        refine Calls.mono (note_any p (rnC p q f) hW Ks.out.1 ⟨Ks.out.1, fun a b e => by injection e with e; injection e with e1 e2; subst e1; exact ⟨Ks.out.2.2, Ks.out.2.1⟩⟩ (fun g e => by injection e with e; subst e; exact hx) hn (by show (bgS S).m < 1000; rw [bgS_m]; exact hm)) (fun e w' hq => ?_)
        obtain ⟨h1, S', h2, h3, -, h5, h6⟩ := hq
        refine ⟨h1, S', h2.weak (fun i _ h => Or.elim h Or.inl (fun h => Or.inr (Nat.le_trans hF.size h))) (Nat.le_refl _), ?_, hF.trans h5 (fun _ _ h => h), by rw [h6]; show (bgS S).m + 1 ≤ S.m + 1; rw [bgS_m]; omega⟩
        rw [h3, KP2.out, hu]
        have e3 : St.ps { bgS S with used := u } = { St.ps (bgS S) with used := u } := rfl
        rw [e3, bgS_ps]⟩
      clear hpq hN hc hps hqs hqp eu
      cases hNq : S.N q with
      | none =>
        rw [hNq] at hlk
        have Kl : Kept (S.used - lenAt S.ps q = S.used) := ⟨by
          unfold lenAt fileP
          show S.used - (match ((S.N q).bind fun f => _ : Option (Nat × List Int × Nat)) with | none => 0 | some (_, xs, _) => (xs.length : Int)) = _
          rw [hNq]
          simp⟩
        have KDu : Kept (Dk w2 B d { bgS S with used := S.used } n) := ⟨by have := KD2.out; rw [← KU.out]; exact this⟩
        clear hNq
        unfold ptrV at hlk ⊢
        have KCl := Kept.mk (sclone_any p w2 (by have := Ks.out.1; omega))
        go_wp2_with fail
        refine Calls.mono KCl.out (fun x w5 hq => ?_)
        obtain ⟨rfl, hb5⟩ := hq
        have KD5 := Kept.mk (KDu.out.later hb5)
        have KF5 : Kept (Fx B w w5) := ⟨KF2.out.trans (Fx.ofBelow (S := fun _ => False) hb5 (Nat.le_refl _)) (fun _ _ h => h.elim)⟩
        have KCl2 := Kept.mk (sclone_any q w5 (by have := Ks.out.2.1; omega))
        clear hb5 KCl
        go_wp2_with fail
        refine Calls.mono KCl2.out (fun x w6 hq => ?_)
        obtain ⟨rfl, hb6⟩ := hq
        have KD6 := Kept.mk (KD5.out.later hb6)
        have KF6 : Kept (Fx B w w6) := ⟨KF5.out.trans (Fx.ofBelow (S := fun _ => False) hb6 (Nat.le_refl _)) (fun _ _ h => h.elim)⟩
        have KNo := Kept.mk (KTail.out w6 _ KD6.out KF6.out Kl.out)
        clear hb6 KCl2 KTail
        go_wp2_with fail
        refine Calls.mono KNo.out (fun x w7 hq => ?_)
        obtain ⟨rfl, hres⟩ := hq
        have KRes := Kept.mk hres
        clear hres KNo
        go_wp2
        go_ret
        exact ⟨by rw [KE.out]; rfl, KRes.out⟩
      | some fq =>
        rw [hNq] at hlk
        obtain ⟨cq, hcq⟩ := KD.out.bd.nF q fq hNq
        have hfl := KD2.out.bd.fl fq cq (by rw [bgS_F]; exact hcq)
        have KFP := Kept.mk (fileP_some hNq hcq)
        have Kl : Kept (S.used - lenAt S.ps q = S.used - (cq.xs.length : Int)) := ⟨by unfold lenAt; rw [KFP.out]⟩
        obtain ⟨av, cv, hv⟩ := own_form hfl.own
        have hbig := hfl.big
        have hl : IntKind.i64.wrap (S.used - (cq.xs.length : Int)) = S.used - (cq.xs.length : Int) := wr64 (by omega) (by omega)
        have KFl := Kept.mk hfl
        have KV := Kept.mk hv
        clear hNq hcq hfl hv
        unfold ptrV at hlk ⊢
        go_upto_region 6 with fail
        clear g2
        refine wp_region_last _ 12 (by kernel_rfl) (by kernel_rfl) rfl rfl ?_
        simp only [List.take_succ_cons, List.take_zero]
        have k0 := KFl.out.blk.cell 0 _ rfl
        rw [KV.out] at k0
        have q1 := KD2.out.used
        rw [KU.out] at q1
        repeat (go_big_quiet_step ((intro _; rfl)))
        refine wpQuiet_nil ?_
        intro k
        obtain ⟨w3, hw3⟩ : ∃ w3, w2.drewN k = w3 := ⟨_, rfl⟩
        rw [hw3]
        have hb3 : Below w2.heap.size w2 w3 := hw3 ▸ below_drewN (Below.refl _ _) k
        have KD3 := Kept.mk (KD2.out.later hb3)
        have KF3 : Kept (Fx B w w3) := ⟨KF2.out.trans (Fx.ofBelow (S := fun _ => False) hb3 (Nat.le_refl _)) (fun _ _ h => h.elim)⟩
        clear hw3 hb3 k0 q1
        have q1 := KD3.out.used
        rw [KU.out] at q1
        have f1 := KD3.out.blk.frozen 1
        have KD4 : Kept (Dk (w3.setCell ⟨d, 1, none⟩ (.int .i64 (S.used - (cq.xs.length : Int)))) B d { bgS S with used := S.used - (cq.xs.length : Int) } n) := ⟨KD3.out.setCell 1 _ rfl (fun h => h.fields (bgS S).quota (S.used - (cq.xs.length : Int)) (bgS S).last (bgS S).count (bgS S).dark)⟩
        have KF4 : Kept (Fx B w (w3.setCell ⟨d, 1, none⟩ (.int .i64 (S.used - (cq.xs.length : Int))))) := ⟨KF3.out.trans (Fx.setCell w3 d 1 _) (fun i _ e => by subst e; exact KD.out.inB)⟩
        obtain ⟨w4, hw4⟩ : ∃ w4, w3.setCell ⟨d, 1, none⟩ (.int .i64 (S.used - (cq.xs.length : Int))) = w4 := ⟨_, rfl⟩
        rw [hw4] at KD4 KF4
        go_simp
        clear q1 f1
        have KCl := Kept.mk (sclone_any p w4 (by have := Ks.out.1; omega))
        go_wp2_with fail
        refine Calls.mono KCl.out (fun x w5 hq => ?_)
        obtain ⟨rfl, hb5⟩ := hq
        have KD5 := Kept.mk (KD4.out.later hb5)
        have KF5 : Kept (Fx B w w5) := ⟨KF4.out.trans (Fx.ofBelow (S := fun _ => False) hb5 (Nat.le_refl _)) (fun _ _ h => h.elim)⟩
        have KCl2 := Kept.mk (sclone_any q w5 (by have := Ks.out.2.1; omega))
        clear hb5 KCl
        go_wp2_with fail
        refine Calls.mono KCl2.out (fun x w6 hq => ?_)
        obtain ⟨rfl, hb6⟩ := hq
        have KD6 := Kept.mk (KD5.out.later hb6)
        have KF6 : Kept (Fx B w w6) := ⟨KF5.out.trans (Fx.ofBelow (S := fun _ => False) hb6 (Nat.le_refl _)) (fun _ _ h => h.elim)⟩
        have KNo := Kept.mk (KTail.out w6 _ KD6.out KF6.out Kl.out)
        clear hb6 KCl2 KTail
        go_wp2_with fail
        refine Calls.mono KNo.out (fun x w7 hq => ?_)
        obtain ⟨rfl, hres⟩ := hq
        have KRes := Kept.mk hres
        clear hres KNo
        go_wp2
        go_ret
        exact ⟨by rw [KE.out]; rfl, KRes.out⟩
  · have hb : (E == 0) = false := by simpa using h0
    have KP2 : Kept (rnP S.ps p q = bgP S.ps) := ⟨by rw [KP.out, if_neg (fun h => h0 h.1)]⟩
    go_wp2
    go_ret
    exact ⟨by rw [KE.out]; rfl, bgS S, KD2.out.weak (fun i _ h => .inl h) (by omega), by rw [KP2.out]; exact bgS_ps S, KF2.out, by rw [bgS_m]; omega⟩
end Go.Proofs.YtegdadkejheagaaDoor
