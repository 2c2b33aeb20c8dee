/-
  The document's reader: put.
-/
import Derived.Test.YthbcloplhjmkkaaDoorD2
namespace Go.Proofs.YthbcloplhjmkkaaDoor
open Go.RowKit

/-- A byte put out: what is out, what was met. -/
def dput (most : Nat) (b : Int) (out : List Int) (E : Int) : List Int × Int :=
  if E ≠ 0 then (out, E) else if most ≤ out.length then (out, 10) else (out ++ [b], 0)

set_option maxHeartbeats 1000000 in
set_option maxRecDepth 100000 in
theorem dput_any {W0 w : World} {rb : Nat} {ob : Option Nat} {inV : Value} {p out : List Int} {most t : Nat} {E : Int} (b : Int) (hb0 : 0 ≤ b) (hb1 : b < 256) (h : Bts W0 w rb ob inV p most out t E) :
    Calls Tryd.prog 31 #[.pointer (some ⟨rb, 0, none⟩), .int .u8 b] w fun e w' => e = .returned (.tuple #[]) ∧ ∃ ob', Bts W0 w' rb ob' inV p most (dput most b out E).1 t (dput most b out E).2 ∧ Mv rb ob ob' w w' := by
  obtain ⟨i0, z0, hi, hz, hs, hb, hc⟩ := info8
  obtain ⟨outV, hB, own, hob⟩ := h.blk
  obtain ⟨oa, oc, rfl, -, hlc, hcm⟩ := own.rd.form
  have c2 := hB.c2
  have c3 := hB.c3
  have c4 := hB.c4
  have f2 := hB.fz 2
  have f4 := hB.fz 4
  have hm := h.hm
  have hlo := h.lo
  have hlt := hB.lt
  have hrb := h.hb
  have hwz := h.bel.size
  have KH := Kept.mk h
  have KO := Kept.mk own
  have KB := Kept.mk hob
  have KR := Kept.mk hB
  clear h own hob hB hcm
  by_cases hE : E = 0
  · subst hE
    by_cases hfull : most ≤ out.length
    · have KE : Kept (dput most b out 0 = (out, 10)) := ⟨by simp [dput, hfull]⟩
      have hge : most = out.length := by omega
      subst hge
      clear hfull
      go_enter Tryd.func31, Tryd.ntmps31
      go_wp2
      go_quiet (fail)
      go_wp2
      refine bodyPost_ret (results_none rfl _ _ _) rfl ?_
      rw [KE.out]
      exact ⟨rfl, ob, (KH.out.drewN _).met 10, (((Fr.refl rb ob w).drewN _).set 4 _).mv⟩
    · have KE : Kept (dput most b out 0 = (out ++ [b], 0)) := ⟨by simp [dput, hfull]⟩
      have hge : ¬ (out.length : Int) = (most : Int) := by omega
      have hge2 : ((out.length : Int) == (most : Int)) = false := by simp only [beq_eq_false_iff_ne]; exact hge
      go_enter Tryd.func31, Tryd.ntmps31
      go_wp2
      go_quiet (fail)
      have hrd := Kept.mk (Rd.one .u8 (w.drewN nq) b 5)
      have how : Kept (Own .u8 5 ((w.drewN nq).alloc (.cells #[.int .u8 b] 5)) W0.heap.size (.slice oa out.length oc) out) := ⟨Own.alloc (w := w.drewN nq) KO.out _⟩
      have hgo : ∀ (w1 : World), ((w.drewN nq).alloc (.cells #[.int .u8 b] 5)).grownBy w1 (Value.slice oa out.length oc).ownBlock → DB w1 rb inV t (.slice oa out.length oc) most 0 ∧ Fr rb ob w w1 := by
        intro w1 hg
        constructor
        · refine KR.out.far ?_
          rw [hg.block rb (by simp; omega) (fun e => KH.out.ho (by rw [← KB.out, ← e]))]
          exact Below.heap_alloc (w.drewN nq) _ rb hlt
        · refine (((Fr.refl rb ob w).drewN nq).alloc (.cells #[.int .u8 b] 5)).trans ⟨hg.os, hg.tape, hg.output, hg.size, fun k hk _ h2 => hg.block k hk (by rw [KB.out]; exact h2)⟩
      have KG := Kept.mk hgo
      clear hgo
      go_wp2_with (at_builtin; refine wpList_append_rd _ rfl _ _ 22 rfl .u8 anyB 1 W0.heap.size 5 i0 z0 Tryd.underlying22 hi hz hs hb hc (by omega) (.slice oa out.length oc) out rfl how.out _ [b] rfl hrd.out (by simp; omega) (by simp; omega) ?_; intro v' w1 hown hgrow hat; obtain ⟨na, nc, rfl, -, hl2, hcm2⟩ := hown.rd.form; obtain ⟨hR1, hF1⟩ := KG.out w1 hgrow; have c41 := hR1.c2; have f41 := hR1.fz 2; have KR1 := Kept.mk hR1; have KF1 := Kept.mk hF1; have KO1 := Kept.mk hown; have KA := Kept.mk hat; clear hR1 hF1 hown hgrow hat hl2 hcm2)
      refine bodyPost_end (results_none rfl _ _ _) rfl ?_
      rw [KE.out]
      simp only [List.length_append, List.length_singleton] at KA KO1
      have ho2 : (Value.slice na (out.length + 1) nc).ownBlock ≠ some rb := by
        rcases KA.out with e | e
        · rw [e, KB.out]; exact KH.out.ho
        · rw [e]; simp; omega
      refine ⟨rfl, (Value.slice na (out.length + 1) nc).ownBlock, ⟨⟨.slice na (out.length + 1) nc, KR1.out.s2 _, ?_, rfl⟩, KH.out.tle, ?_, KH.out.hb, ho2, KH.out.rd, KH.out.ap, KH.out.ao.append (AllIn.one hb0 hb1), KH.out.lp, KH.out.hm, by simp; omega⟩, (KF1.out.set 2 _), ?_⟩
      · exact KO1.out.far fun g hg => Below.heap_setCell _ _ _ _ (fun e => ho2 (by rw [hg, e]))
      · exact (KF1.out.set 2 _).below KH.out.bel KH.out.hb (fun k hk => (KH.out.ob_ge k hk).1) KH.out.bel.size
      · rcases KA.out with e | e
        · exact Or.inl (by rw [e, KB.out])
        · exact Or.inr ⟨_, e, by simp⟩
  · have KE : Kept (dput most b out E = (out, E)) := ⟨by simp [dput, hE]⟩
    go_enter Tryd.func31, Tryd.ntmps31
    go_wp2
    refine bodyPost_ret (results_none rfl _ _ _) rfl ?_
    rw [KE.out]
    exact ⟨rfl, ob, KH.out, Mv.refl _ _ _⟩
end Go.Proofs.YthbcloplhjmkkaaDoor
