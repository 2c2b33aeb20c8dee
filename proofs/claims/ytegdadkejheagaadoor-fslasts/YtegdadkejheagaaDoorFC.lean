/-
  Walks: begin.
-/
import Derived.Test.YtegdadkejheagaaDoorFB
namespace Go.Proofs.YtegdadkejheagaaDoor
open Go.RowKit Go.WideMaps

theorem RdV.fx {S : Nat → Prop} {w w' : World} {v : Value} {cs : List Value} (h : RdV w v cs) (hx : Fx S w w') (hS : ∀ b off k c, v = .slice (some ⟨b, off, none⟩) k c → ¬ S b) : RdV w' v cs := by
  obtain ⟨a, c, hv, hc, h1⟩ := h
  refine ⟨a, c, hv, hc, fun h0 => ?_⟩
  obtain ⟨b, off, ha, hlt, hr⟩ := h1 h0
  subst ha
  refine ⟨b, off, rfl, Nat.lt_of_lt_of_le hlt hx.size, fun j u hu => ?_⟩
  rw [World.cell?_of_block (w := w) (hx.block _ hlt (hS b off _ _ hv))]
  exact hr j u hu
theorem Gl.fx {S : Nat → Prop} {w w' : World} (h : Gl w) (hx : Fx S w w') (hS : ∀ i, i < 3 → ¬ S i) : Gl w' := by
  have hl := h.lo
  obtain ⟨m, hm⟩ := h.mx
  refine ⟨⟨m, ?_⟩, Nat.le_trans hl hx.size⟩
  rw [World.cell?_of_block (w := w) (hx.block _ (by simp only; omega) (hS _ (by simp only; omega)))]
  exact hm

/-- Looking a call's number up among those that a plan refuses. -/
theorem zero_unit (w : World) : (zeroValue 78).run Tryd.prog w = .ok (.agg #[]) w := by kernel_rfl
theorem RefAt.look {w : World} {rb : Option Nat} {n : Nat} {R : Int → Bool} (h : RefAt w rb n R) {i : Int} (h0 : 0 ≤ i) (h1 : i ≤ 1000000) :
    (Instr.lookup 55 (.map rb) (.int .i64 i) true).run Tryd.prog w = .ok (.tuple #[.agg #[], .bool (R i)]) w := by
  have wf : (Lit.int .i64 i).wf = true := by
    have e1 : IntKind.i64.min = -9223372036854775808 := rfl
    have e2 : IntKind.i64.max = 9223372036854775807 := rfl
    simp only [Lit.wf, e1, e2, Bool.and_eq_true, decide_eq_true_eq]
    omega
  have hk := Maps.keyOf_int_mk Tryd.underlying3 wf
  cases rb with
  | none => rw [Maps.look_nil true (Maps.int_keyed Tryd.underlying3) Tryd.underlying55 (zero_unit w) hk, h i]; rfl
  | some b =>
    obtain ⟨D, h1, h2, h3⟩ := h
    obtain ⟨v, ps, hr, hv⟩ := h1.look_ok (Maps.int_keyed Tryd.underlying3) Tryd.underlying55 (zero_unit w) unitElem_mk hk
    obtain ⟨rfl, -⟩ := unitElem_inv hv
    rw [hr, h3]
def bgS (S : St) : St := if S.dark = true then S else { S with count := S.count + 1, dark := decide (S.count + 1 = S.last) }
def bgE (S : St) (r : Bool) (L : List ByteArray) : Int := if S.dark = true then 13 else if S.count + 1 = S.last then 13 else if oneF L = false then 1 else if (S.R (S.count + 1) && r) = true then 11 else 0
set_option maxRecDepth 100000 in
set_option maxHeartbeats 2000000 in
theorem begin_any (r : Bool) (v : Value) (L : List ByteArray) {w : World} {B : Nat → Prop} {d n : Nat} {S : St} (h : Dk w B d S n) (hg : Gl w) (hr : RdS w v L) (hl : L.length ≤ 2) (hlr : ∀ b off k c, v = .slice (some ⟨b, off, none⟩) k c → b ≠ d) (hc0 : 0 ≤ S.count) (hc1 : S.count < 1000000) (hgd : 3 ≤ d) :
    Calls Tryd.prog 31 #[.pointer (some ⟨d, 0, none⟩), .bool r, v] w fun e w' => e = .returned (.int .i64 (bgE S r L)) ∧ Dk w' B d (bgS S) n ∧ Fx (fun i => i = d) w w' := by
  have KE : Kept (bgE S r L = if S.dark = true then 13 else if S.count + 1 = S.last then 13 else if oneF L = false then 1 else if (S.R (S.count + 1) && r) = true then 11 else 0) := ⟨rfl⟩
  have KS : Kept (bgS S = if S.dark = true then S else { S with count := S.count + 1, dark := decide (S.count + 1 = S.last) }) := ⟨rfl⟩
  have KD := Kept.mk h
  have KG := Kept.mk hg
  have KR := Kept.mk hr
  have KRy := Kept.mk (ready_any h)
  have h8 := h.dark
  have h7 := h.count
  have h6 := h.last
  have f7 := h.blk.frozen 7
  have f8 := h.blk.frozen 8
  have e1 : IntKind.i64.wrap (S.count + 1) = S.count + 1 := wr64 (by omega) (by omega)
  obtain ⟨a, c, rfl, -⟩ := hr
  have KR2 : Kept (∀ W, Fx (fun i => i = d) w W → RdS W (.slice a (L.map Value.string).length c) L) := ⟨fun W hW => KR.out.fx hW (fun b off k c' e e2 => hlr b off k c' e e2)⟩
  rw [List.length_map] at KR2 ⊢
  clear h hg hlr
  by_cases hk : S.dark = true
  · have KE2 : Kept (bgE S r L = 13) := ⟨by rw [KE.out, if_pos hk]⟩
    have KS2 : Kept (bgS S = S) := ⟨by rw [KS.out, if_pos hk]⟩
    have er : rdyE S.dark = 13 := by rw [hk]; rfl
    rw [er] at KRy
    clear er
    go_enter Tryd.func31, Tryd.ntmps31
    go_wp2_with fail
    refine Calls.mono KRy.out (fun x w1 hp => ?_)
    obtain ⟨rfl, hw⟩ := hp
    subst hw
    go_wp2
    go_ret
    exact ⟨by rw [KE2.out]; rfl, by rw [KS2.out]; exact KD.out, Fx.refl _ _⟩
  · have hkf : S.dark = false := by simpa using hk
    have er : rdyE S.dark = 0 := by rw [hkf]; rfl
    rw [er] at KRy
    rw [hkf] at h8
    have KD1 : Kept (Dk (w.setCell ⟨d, 7, none⟩ (.int .i64 (S.count + 1))) B d { S with count := S.count + 1 } n) := ⟨KD.out.setCell 7 _ rfl (fun h => h.fields S.quota S.used S.last (S.count + 1) S.dark)⟩
    have KF1 := Kept.mk (Fx.setCell w d 7 (.int .i64 (S.count + 1)))
    have KG1 : Kept (Gl (w.setCell ⟨d, 7, none⟩ (.int .i64 (S.count + 1)))) := ⟨KG.out.fx KF1.out (fun i hi e => by omega)⟩
    clear er hk
    go_enter Tryd.func31, Tryd.ntmps31
    go_wp2_with fail
    refine Calls.mono KRy.out (fun x w1 hp => ?_)
    obtain ⟨rfl, hw⟩ := hp
    subst hw
    obtain ⟨w2, hw2⟩ : ∃ w2, w1.setCell ⟨d, 7, none⟩ (.int .i64 (S.count + 1)) = w2 := ⟨_, rfl⟩
    rw [hw2] at KD1 KF1 KG1
    have g7 := KD1.out.count
    have g6 := KD1.out.last
    have g8 := KD1.out.blk.frozen 8
    go_upto_region 5 with fail
    clear hw2 h6 h7 h8 f7 f8 KRy e1
    by_cases he : S.count + 1 = S.last
    · have KE2 : Kept (bgE S r L = 13) := ⟨by rw [KE.out, if_neg (by rw [hkf]; decide), if_pos he]⟩
      have hb : (S.count + 1 == S.last) = true := by simpa using he
      have KHe := Kept.mk he
      clear he
      go_quiet (fail)
      obtain ⟨w3, hw3⟩ : ∃ w3, w2.drewN nq = w3 := ⟨_, rfl⟩
      rw [hw3]
      have hb3 : Below w2.heap.size w2 w3 := hw3 ▸ below_drewN (Below.refl _ _) nq
      have KD3 := Kept.mk (KD1.out.later hb3)
      have KF3 := Kept.mk (KF1.out.trans (Fx.ofBelow (S := fun _ => False) hb3 (Nat.le_refl _)) (fun _ _ h => h.elim))
      clear hw3 hb3 g6 g7 g8 KD1 KF1
      have KD2 : Kept (Dk (w3.setCell ⟨d, 8, none⟩ (.bool true)) B d (bgS S) n) := ⟨by
        rw [KS.out, if_neg (by rw [hkf]; decide)]
        refine KD3.out.setCell 8 _ ?_ (fun h => h.fields S.quota S.used S.last (S.count + 1) (decide (S.count + 1 = S.last)))
        simp [St.cs, KHe.out]⟩
      have KF2 := Kept.mk (KF3.out.trans (Fx.setCell w3 d 8 (.bool true)) (fun _ _ h => h))
      have g8 := KD3.out.blk.frozen 8
      have g8c := KD3.out.dark
      go_wp2
      go_ret
      exact ⟨by rw [KE2.out]; rfl, KD2.out, KF2.out⟩
    · have hne : (S.count + 1 == S.last) = false := by simpa using he
      have KS2 : Kept (bgS S = { S with count := S.count + 1 }) := ⟨by rw [KS.out, if_neg (by rw [hkf]; decide), decide_eq_false he, ← hkf]⟩
      rw [← KS2.out] at KD1
      have KRd : Kept (RdS w2 (.slice a L.length c) L) := ⟨KR2.out w2 KF1.out⟩
      have KEr : Kept (bgE S r L = if oneF L = false then 1 else if (S.R (S.count + 1) && r) = true then 11 else 0) := ⟨by rw [KE.out, if_neg (by rw [hkf]; decide), if_neg he]⟩
      clear he
      go_quiet (fail)
      obtain ⟨w2', hw2'⟩ : ∃ w2', w2.drewN nq = w2' := ⟨_, rfl⟩
      rw [hw2']
      have hb2 : Below w2.heap.size w2 w2' := hw2' ▸ below_drewN (Below.refl _ _) nq
      have KB2 := Kept.mk hb2
      have KOf := Kept.mk (oneFolder_any _ L w2' (KG1.out.later hb2) (KRd.out.later hb2 (Nat.le_refl _)) hl)
      clear hw2' hb2
      go_wp2_with fail
      refine Calls.mono KOf.out (fun x w3 hp => ?_)
      obtain ⟨rfl, hb3'⟩ := hp
      have hb3 := KB2.out.trans (hb3'.mono KB2.out.size)
      clear hb3'
      have KD3 := Kept.mk (KD1.out.later hb3)
      have KF3 := Kept.mk (KF1.out.trans (Fx.ofBelow (S := fun _ => False) hb3 (Nat.le_refl _)) (fun _ _ h => h.elim))
      clear hb3 KOf KD1 g6 g7 g8
      cases hO : oneF L with
      | false =>
        have KE2 : Kept (bgE S r L = 1) := ⟨by rw [KEr.out, if_pos hO]⟩
        go_wp2
        go_ret
        exact ⟨by rw [KE2.out]; rfl, KD3.out, KF3.out⟩
      | true =>
        have KE3 : Kept (bgE S r L = if (S.R (S.count + 1) && r) = true then 11 else 0) := ⟨by rw [KEr.out, if_neg (by rw [hO]; decide)]⟩
        have g5 := KD3.out.refuse
        have g7 := KD3.out.count
        rw [KS2.out] at g5 g7
        have glk := KD3.out.bd.mR.look (i := S.count + 1) (by omega) (by omega)
        rw [KS2.out] at glk
        go_upto_region 10 with fail
        have KSk : Kept (∀ W, CC w3 W → W.cell? ⟨d, 5, none⟩ = some (.map S.rb) ∧ W.cell? ⟨d, 7, none⟩ = some (.int .i64 (S.count + 1)) ∧ (Instr.lookup 55 (.map S.rb) (.int .i64 (S.count + 1)) true).run Tryd.prog W = .ok (.tuple #[.agg #[], .bool (S.R (S.count + 1))]) W) := ⟨fun W hW => by
          have hd := KD3.out.later hW
          have k5 := hd.refuse
          have k7 := hd.count
          have kl := hd.bd.mR.look (i := S.count + 1) (by omega) (by omega)
          rw [KS2.out] at k5 k7 kl
          exact ⟨k5, k7, kl⟩⟩
        go_region_held3 (fun W => W.cell? ⟨d, 5, none⟩ = some (.map S.rb) ∧ W.cell? ⟨d, 7, none⟩ = some (.int .i64 (S.count + 1)) ∧ (Instr.lookup 55 (.map S.rb) (.int .i64 (S.count + 1)) true).run Tryd.prog W = .ok (.tuple #[.agg #[], .bool (S.R (S.count + 1))]) W) (exact KSk.out _ (by first | exact Below.refl _ _ | exact (Below.refl _ _).alloc (Nat.le_refl _) _ | exact ((Below.refl _ _).alloc (Nat.le_refl _) _).drew | exact (Below.refl _ _).drew | exact (Below.refl _ _).drew.alloc (Nat.le_refl _) _)) (fail)
        all_goals
          obtain ⟨w4, hw4, hb4⟩ : ∃ w4, (w3.alloc (.cells #[] 78)).drew = w4 ∧ Below w3.heap.size w3 w4 := ⟨_, rfl, ((Below.refl _ _).alloc (Nat.le_refl _) _).drew⟩
          rw [hw4]
          have KD4 := Kept.mk (KD3.out.later hb4)
          have KF4 := Kept.mk (KF3.out.trans (Fx.ofBelow (S := fun _ => False) hb4 (Nat.le_refl _)) (fun _ _ h => h.elim))
          clear hw4 hb4 g5 g7 glk
          cases hR : S.R (S.count + 1) with
          | false =>
            have KE4 : Kept (bgE S r L = 0) := ⟨by rw [KE3.out, hR]; rfl⟩
            go_wp2
            go_ret
            exact ⟨by rw [KE4.out]; rfl, KD4.out, KF4.out⟩
          | true =>
            cases r with
            | false =>
              have KE4 : Kept (bgE S false L = 0) := ⟨by rw [KE3.out, hR]; rfl⟩
              go_wp2
              go_ret
              exact ⟨by rw [KE4.out]; rfl, KD4.out, KF4.out⟩
            | true =>
              have KE4 : Kept (bgE S true L = 11) := ⟨by rw [KE3.out, hR]; rfl⟩
              go_wp2
              go_ret
              exact ⟨by rw [KE4.out]; rfl, KD4.out, KF4.out⟩
end Go.Proofs.YtegdadkejheagaaDoor
