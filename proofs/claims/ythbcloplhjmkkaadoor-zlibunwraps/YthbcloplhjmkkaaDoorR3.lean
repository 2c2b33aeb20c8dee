/-
  Walks: put.
-/
import Derived.Test.YthbcloplhjmkkaaDoorR2
namespace Go.Proofs.YthbcloplhjmkkaaDoor
open Go.RowKit

/-- What calls that put out leave of memory: the reader's block and that of what has been put out may have turned; the latter may be a new one. -/
structure Mv (rb : Nat) (ob ob' : Option Nat) (w w' : World) : Prop where
  fr : Fr rb ob w w'
  at_ : ob' = ob ∨ ∃ k, ob' = some k ∧ w.heap.size ≤ k
theorem Mv.refl (rb : Nat) (ob : Option Nat) (w : World) : Mv rb ob ob w w := ⟨Fr.refl _ _ _, Or.inl rfl⟩
theorem Fr.mv {rb : Nat} {ob : Option Nat} {w w' : World} (h : Fr rb ob w w') : Mv rb ob ob w w' := ⟨h, Or.inl rfl⟩
theorem Mv.trans {rb : Nat} {ob ob1 ob2 : Option Nat} {w w1 w2 : World} (h : Mv rb ob ob1 w w1) (k : Mv rb ob1 ob2 w1 w2) : Mv rb ob ob2 w w2 := by
  have hz := h.fr.size
  refine ⟨⟨k.fr.os.trans h.fr.os, k.fr.tape.trans h.fr.tape, k.fr.output.trans h.fr.output, Nat.le_trans h.fr.size k.fr.size, fun i hi h1 h2 => ?_⟩, ?_⟩
  · refine (k.fr.block i (by omega) h1 ?_).trans (h.fr.block i hi h1 h2)
    rcases h.at_ with e | ⟨g, e, hg⟩
    · rw [e]; exact h2
    · rw [e]; intro e'; simp at e'; omega
  · rcases k.at_ with e | ⟨g, e, hg⟩
    · rw [e]; exact h.at_
    · exact Or.inr ⟨g, e, by omega⟩

def AfterO (W0 w w' : World) (rb : Nat) (ob : Option Nat) (inV : Value) (p : List Int) (most : Nat) (r : Rs (List Int)) (e : Ending) : Prop :=
  match r with
  | .ok out' t' => e = .returned (.int .i64 0) ∧ ∃ ob', Rdr W0 w' rb ob' inV p most out' t' ∧ Mv rb ob ob' w w'
  | .bad er => e = .returned (.int .i64 er.v) ∧ Below W0.heap.size W0 w'
def putF (most : Nat) (b : Int) (out : List Int) (t : Nat) : Rs (List Int) := if most ≤ out.length then .bad .limit else .ok (out ++ [b]) t

set_option maxHeartbeats 1000000 in
set_option maxRecDepth 100000 in
theorem put_any {W0 w : World} {rb : Nat} {ob : Option Nat} {inV : Value} {p out : List Int} {most t : Nat} (b : Int) (hb0 : 0 ≤ b) (hb1 : b < 256) (h : Rdr W0 w rb ob inV p most out t) :
    Calls Tryd.prog 29 #[.pointer (some ⟨rb, 0, none⟩), .int .u8 b] w fun e w' => AfterO W0 w w' rb ob inV p most (putF most b out t) e := by
  obtain ⟨i0, z0, hi, hz, hs, hb, hc⟩ := info8
  obtain ⟨at0, held0, outV, hB, ha, hh, hl, own, hob⟩ := h.blk
  obtain ⟨oa, oc, rfl, -, hlc, hcm⟩ := own.rd.form
  have c4 := hB.c4
  have c5 := hB.c5
  have f4 := hB.fz 4
  have hm := h.hm
  have hlo := h.lo
  have hlt := hB.lt
  have hrb := h.hb
  have hwz := h.bel.size
  have KH := Kept.mk h
  have KO := Kept.mk own
  have KB := Kept.mk hob
  have KR := Kept.mk hB
  clear h own hob hB hcm
  by_cases hfull : most ≤ out.length
  · have hge : (most : Int) ≤ (out.length : Int) := by omega
    go_enter Tryd.func29, Tryd.ntmps29
    go_wp2
    go_quiet (fail)
    go_wp2
    go_ret
    unfold AfterO
    unfold putF
    rw [if_pos hfull]
    exact ⟨rfl, below_drewN KH.out.bel _⟩
  · have hge : ¬ (most : Int) ≤ (out.length : Int) := by omega
    go_enter Tryd.func29, Tryd.ntmps29
    go_wp2
    go_quiet (fail)
    have hrd := Kept.mk (Rd.one .u8 (w.drewN nq) b 5)
    have how : Kept (Own .u8 5 ((w.drewN nq).alloc (.cells #[.int .u8 b] 5)) W0.heap.size (.slice oa out.length oc) out) := ⟨Own.alloc (w := w.drewN nq) KO.out _⟩
    have hgo : ∀ (w1 : World), ((w.drewN nq).alloc (.cells #[.int .u8 b] 5)).grownBy w1 (Value.slice oa out.length oc).ownBlock → RB w1 rb inV at0 (valF p t held0) held0 (.slice oa out.length oc) most ∧ Fr rb ob w w1 := by
      intro w1 hg
      constructor
      · refine KR.out.far ?_
        rw [hg.block rb (by simp; omega) (fun e => KH.out.ho (by rw [← KB.out, ← e]))]
        exact Below.heap_alloc (w.drewN nq) _ rb hlt
      · refine (((Fr.refl rb ob w).drewN nq).alloc (.cells #[.int .u8 b] 5)).trans ⟨hg.os, hg.tape, hg.output, hg.size, fun k hk _ h2 => hg.block k hk (by rw [KB.out]; exact h2)⟩
    have KG := Kept.mk hgo
    clear hgo
    go_wp2_with (at_builtin; refine wpList_append_rd _ rfl _ _ 22 rfl .u8 anyB 1 W0.heap.size 5 i0 z0 Tryd.underlying22 hi hz hs hb hc (by omega) (.slice oa out.length oc) out rfl how.out _ [b] rfl hrd.out (by simp; omega) (by simp; omega) ?_; intro v' w1 hown hgrow hat; obtain ⟨na, nc, rfl, -, hl2, hcm2⟩ := hown.rd.form; obtain ⟨hR1, hF1⟩ := KG.out w1 hgrow; have c41 := hR1.c4; have f41 := hR1.fz 4; have KR1 := Kept.mk hR1; have KF1 := Kept.mk hF1; have KO1 := Kept.mk hown; have KA := Kept.mk hat; clear hR1 hF1 hown hgrow hat hl2 hcm2)
    go_ret
    simp only [List.length_append, List.length_singleton] at KA KO1
    unfold AfterO
    unfold putF
    rw [if_neg hfull]
    have ho2 : (Value.slice na (out.length + 1) nc).ownBlock ≠ some rb := by
      rcases KA.out with e | e
      · rw [e, KB.out]; exact KH.out.ho
      · rw [e]; simp; omega
    refine ⟨rfl, (Value.slice na (out.length + 1) nc).ownBlock, ⟨⟨at0, held0, .slice na (out.length + 1) nc, KR1.out.s4 _, ha, hh, hl, ?_, rfl⟩, ?_, KH.out.hb, ho2, KH.out.rd, KH.out.ap, KH.out.ao.append (AllIn.one hb0 hb1), KH.out.lp, KH.out.hm, by simp; omega⟩, (KF1.out.set 4 _), ?_⟩
    · exact KO1.out.far fun g hg => Below.heap_setCell _ _ _ _ (fun e => ho2 (by rw [hg, e]))
    · exact (KF1.out.set 4 _).below KH.out.bel KH.out.hb (fun k hk => (KH.out.ob_ge k hk).1) KH.out.bel.size
    · rcases KA.out with e | e
      · exact Or.inl (by rw [e, KB.out])
      · exact Or.inr ⟨_, e, by simp⟩
end Go.Proofs.YthbcloplhjmkkaaDoor
