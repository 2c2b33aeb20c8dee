/-
  The writer and the finder side by side.
-/
import Derived.Test.YtjijkcmbbccfmaaF33
namespace Go.Proofs.Ytjijkcmbbccfmaa
open Go.RowKit Go.WideMaps

/-- The writer has the bits L, the finder has been told the places below t; their blocks lie apart. -/
def Bo (W0 w : World) (rb fb mb : Nat) (bb : Option Nat) (pv : Value) (p L : List Int) (t : Nat) : Prop :=
  ∃ (ob : Option Nat) (j : Nat), Wt W0 w rb ob L j ∧ L.length < 8 * j + 8 ∧ Fd W0 w fb mb bb pv p t ∧ rb ≠ fb ∧ rb ≠ mb ∧ bb ≠ some rb ∧ ob ≠ some fb ∧ ob ≠ some mb ∧ ∀ k, bb = some k → ob ≠ some k
section
variable {W0 w w' : World} {rb fb mb : Nat} {bb : Option Nat} {pv : Value} {p L L' : List Int} {t : Nat}
theorem Bo.bel (h : Bo W0 w rb fb mb bb pv p L t) : Below W0.heap.size W0 w := by
  obtain ⟨ob, j, h1, h2, h3, h4⟩ := h
  exact h1.bel
theorem Bo.later (h : Bo W0 w rb fb mb bb pv p L t) (hf : Below w.heap.size w w') : Bo W0 w' rb fb mb bb pv p L t := by
  obtain ⟨ob, j, h1, h2, h3, h4⟩ := h
  exact ⟨ob, j, h1.far hf, h2, h3.later hf, h4⟩
theorem Bo.write {f : FuncId} {args : Array Value} (h : Bo W0 w rb fb mb bb pv p L t) (hc : ∀ ob j, Wt W0 w rb ob L j → L.length < 8 * j + 8 → Calls Try.prog f args w fun e w' => AfterW W0 w w' rb ob L' e) :
    Calls Try.prog f args w fun e w' => e = .returned (.tuple #[]) ∧ Bo W0 w' rb fb mb bb pv p L' t := by
  obtain ⟨ob, j, h1, h2, h3, r1, r2, r3, r4, r5, r6⟩ := h
  refine (hc ob j h1 h2).mono fun e w' hp => ?_
  obtain ⟨rfl, ob', j', hW, hj, hM⟩ := hp
  have hlt := h3.lt
  refine ⟨rfl, ob', j', hW, hj, h3.far (hM.keep _ hlt.1 r1.symm (fun e => r4 e.symm)) (hM.keep _ hlt.2.1 r2.symm (fun e => r5 e.symm)) (fun k hk => hM.keep k (hlt.2.2 k hk).2 (fun e => r3 (by rw [hk, e])) (fun e => r6 k hk e.symm)) hW.bel, r1, r2, r3, ?_, ?_, ?_⟩
  · rcases hM.at_ with e | ⟨g, e, hg⟩
    · rw [e]; exact r4
    · rw [e]; intro e2; injection e2; omega
  · rcases hM.at_ with e | ⟨g, e, hg⟩
    · rw [e]; exact r5
    · rw [e]; intro e2; injection e2; omega
  · intro k hk
    rcases hM.at_ with e | ⟨g, e, hg⟩
    · rw [e]; exact r6 k hk
    · have := (hlt.2.2 k hk).2
      rw [e]; intro e2; injection e2; omega
theorem Bo.add (h : Bo W0 w rb fb mb bb pv p L t) (hp : Rd .u8 anyB W0 pv p) (ha : AllB p) (ht : t < p.length) (hl : p.length ≤ 1073741824) :
    Calls Try.prog 25 #[.pointer (some ⟨fb, 0, none⟩), .int .i64 t] w fun e w' => e = .returned (.tuple #[]) ∧ Bo W0 w' rb fb mb bb pv p L (t + 1) := by
  obtain ⟨ob, j, h1, h2, h3, r1, r2, r3, r4, r5, r6⟩ := h
  refine (add_any h3 hp ha ht hl).mono fun e w' hp => ?_
  obtain ⟨rfl, hF, hq⟩ := hp
  refine ⟨rfl, ob, j, ?_, h2, hF, r1, r2, r3, r4, r5, r6⟩
  obtain ⟨outV, hB, own, hob⟩ := h1.blk
  refine ⟨⟨outV, hB.far (hq.block _ hB.lt r2 (fun e => r3 e.symm)), own.far fun g hg => hq.block g (own.lt g hg).2 (fun e => r5 (by rw [← hob, hg, e])) (fun e => r6 g e.symm (by rw [← hob, hg])), hob⟩, h1.le, h1.ib, hF.bel, h1.hb, h1.ho, h1.lb⟩
theorem Bo.mat {i : Nat} (h : Bo W0 w rb fb mb bb pv p L i) (hp : Rd .u8 anyB W0 pv p) (ha : AllB p) (hi : i < p.length) (hl : p.length ≤ 1073741824) :
    Calls Try.prog 21 #[.pointer (some ⟨fb, 0, none⟩), .int .i64 i] w fun e w' => e = .returned (.tuple #[.int .i64 (mchF p i).1, .int .i64 (mchF p i).2]) ∧ Bo W0 w' rb fb mb bb pv p L i := by
  obtain ⟨ob, j, h1, h2, h3, h4⟩ := h
  exact (fmatch_any h3 (hp.later h3.bel (Nat.le_refl _)) ha hi hl).mono fun e w' hq => ⟨hq.1, ob, j, h1.far hq.2, h2, h3.later hq.2, h4⟩
theorem Bo.fin (h : Bo W0 w rb fb mb bb pv p L t) : Calls Try.prog 26 #[.pointer (some ⟨rb, 0, none⟩)] w fun e w' => ∃ v', e = .returned v' ∧ Own .u8 5 w' W0.heap.size v' (packF L) ∧ Below W0.heap.size W0 w' := by
  obtain ⟨ob, j, h1, h2, h3, h4⟩ := h
  exact end_any h1 h2
/-- The finder is made beside the writer. -/
theorem bo_new {ob : Option Nat} {j : Nat} (h : Wt W0 w rb ob L j) (hj : L.length < 8 * j + 8) (hp : Rd .u8 anyB W0 pv p) (hl : p.length ≤ 16777216) :
    Calls Try.prog 20 #[pv] w fun e w' => ∃ (fb mb : Nat) (bb : Option Nat), e = .returned (.pointer (some ⟨fb, 0, none⟩)) ∧ Bo W0 w' rb fb mb bb pv p L 0 := by
  refine (newFinder_any (W0 := W0) pv p w (hp.later h.bel (Nat.le_refl _)) hl h.bel).mono fun e w' hq => ?_
  obtain ⟨fb, mb, bb, rfl, hF, hb, h1, h2, h3⟩ := hq
  have hr := h.rb_lt
  have ho := h.ob_ge
  refine ⟨fb, mb, bb, rfl, ob, j, h.far hb, hj, hF, by omega, by omega, fun e => ?_, fun e => ?_, fun e => ?_, fun k hk e => ?_⟩
  · have := h3 _ e
    omega
  · have := ho _ e
    omega
  · have := ho _ e
    omega
  · have := ho _ e
    have := h3 _ hk
    omega
end
theorem wt_new (w : World) : Wt w (w.alloc (.cells #[.slice none 0 0, .int .u32 0, .int .i64 0] 36)) w.heap.size none [] 0 :=
  ⟨⟨.slice none 0 0, heap_alloc_new w _, Own.nil .u8 5 _ w.heap.size, rfl⟩, by simp, IsBits.nil, (Below.refl _ _).alloc (Nat.le_refl _) _, Nat.le_refl _, by simp, by simp⟩
end Go.Proofs.Ytjijkcmbbccfmaa
