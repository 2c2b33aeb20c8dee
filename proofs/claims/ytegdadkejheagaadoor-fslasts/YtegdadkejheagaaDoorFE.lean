/-
  Walks: apply, lay.
-/
import Derived.Test.YtegdadkejheagaaDoorFD
namespace Go.Proofs.YtegdadkejheagaaDoor
open Go.RowKit Go.WideMaps

theorem nmV_upd (N : ByteArray → Option Nat) (p : ByteArray) (x : Option Nat) : upd (nmV N) p (x.map fun f => ptrV (some f)) = nmV (upd N p x) := (upd_map N _ p x).symm
set_option maxRecDepth 100000 in
set_option maxHeartbeats 1000000 in
theorem apply_any (c : Chg) (b n : Nat) (N : ByteArray → Option Nat) (w : World) (hc : c.Ok) (hM : MapAt w (some b) n (nmV N)) (hn : n < 1000000) :
    Calls Tryd.prog 32 #[c.v, .map (some b)] w fun e w' => e = .returned (.tuple #[]) ∧ MapAt w' (some b) (n + 1) (nmV (apl N c)) ∧ Fx (fun i => i = b) w w' := by
  have hg := hc.gone
  have hm := hc.made
  have KC := Kept.mk hc
  obtain ⟨w1, hw1⟩ : ∃ w1, w.alloc (.cells #[.string c.gone, .string c.made, ptrV c.file] 70) = w1 := ⟨_, rfl⟩
  have hB : Bk w1 w.heap.size 70 c.cs := by rw [← hw1]; exact Bk.new w _ _
  have hF1 : Fx (fun _ => False) w w1 := by rw [← hw1]; exact Fx.alloc _ _ _
  have hblt := hM.lt
  have KM1 : Kept (MapAt w1 (some b) n (nmV N)) := ⟨hM.far (fun b' e => by injection e with e; subst e; exact hF1.block _ hblt (fun h => h)) (Nat.le_refl _)⟩
  have KF1 := Kept.mk hF1
  have KB := Kept.mk hB
  have Kblt := Kept.mk hblt
  clear hc hM hF1 hB hblt
  unfold Chg.v
  obtain ⟨g, hgv⟩ : ∃ g, c.gone = g := ⟨_, rfl⟩
  obtain ⟨m, hmv⟩ : ∃ m, c.made = m := ⟨_, rfl⟩
  rw [hgv] at hg hw1 ⊢
  rw [hmv] at hm hw1 ⊢
  have KA : Kept (apl N c = if m.size = 0 then upd N g none else upd (upd N g none) m c.file) := ⟨by
    unfold apl
    rw [← hgv, ← hmv]
    unfold Chg.made Chg.file
    cases hto : c.nw with
    | none => rfl
    | some q =>
      obtain ⟨p, f⟩ := q
      have := (KC.out.nw p f hto).1
      rw [if_neg (by show ¬ p.size = 0; omega)]
      rfl⟩
  have KFi : Kept (m.size ≠ 0 → ∃ f, c.file = some f) := ⟨by
    rw [← hmv]
    unfold Chg.made Chg.file
    cases hto : c.nw with
    | none => intro h; exact absurd rfl h
    | some q => intro _; exact ⟨q.2, rfl⟩⟩
  have c0 : w1.cell? ⟨w.heap.size, 0, none⟩ = some (.string g) := by rw [← hgv]; exact KB.out.cell 0 _ rfl
  go_enter Tryd.func32, Tryd.ntmps32
  have hg2 : g.size ≤ maxLen := by unfold maxLen; omega
  go_upto_region 2 with (at_delete; refine wpList_del _ rfl _ _ 53 60 rfl Tryd.underlying53 (some b) n (nmV N) rfl KM1.out g hg2 rfl ?_; intro w2 hM2 hF2; have KM2 := Kept.mk hM2; have KF2 := Kept.mk hF2; clear hM2 hF2)
  have KF3 : Kept (Fx (fun i => i = b) w w2) := ⟨(KF1.out.weak (S' := fun i => i = b) (fun _ _ h => h.elim)).trans KF2.out (fun i _ e => by injection e with e; exact e.symm)⟩
  have hB2 : Bk w2 w.heap.size 70 c.cs := KB.out.far (KF2.out.block _ KB.out.lt (fun e => by injection e with e; have := Kblt.out; omega))
  have c1 : w2.cell? ⟨w.heap.size, 1, none⟩ = some (.string m) := by rw [← hmv]; exact hB2.cell 1 _ rfl
  have c2 : w2.cell? ⟨w.heap.size, 2, none⟩ = some (ptrV c.file) := hB2.cell 2 _ rfl
  have c0 : w2.cell? ⟨w.heap.size, 0, none⟩ = some (.string g) := by rw [← hgv]; exact hB2.cell 0 _ rfl
  have KM3 : Kept (MapAt w2 (some b) n (nmV (upd N g none))) := ⟨by rw [← nmV_upd]; exact KM2.out⟩
  clear hB2 KM2 KF2
  by_cases h0 : m.size = 0
  · have KA2 : Kept (apl N c = upd N g none) := ⟨by rw [KA.out, if_pos h0]⟩
    have hme : m = ByteArray.empty := by
      apply ByteArray.ext
      exact Array.eq_empty_of_size_eq_zero h0
    have hml : m.toList = [] := by rw [hme, Lib.toList_data]; rfl
    clear h0 hme
    simp only [Act.put]
    go_wp2
    refine bodyPost_end (results_none rfl _ _ _) rfl ?_
    exact ⟨rfl, by rw [KA2.out]; exact KM3.out.far (fun _ _ => rfl) (Nat.le_succ _), KF3.out⟩
  · obtain ⟨f, hf⟩ := KFi.out h0
    have KA2 : Kept (apl N c = upd (upd N g none) m (some f)) := ⟨by rw [KA.out, if_neg h0, hf]⟩
    rw [hf] at c2
    have hml : (m.toList == []) = false := by
      cases he : m.toList with
      | nil => 
        have : m.size = 0 := by rw [Lib.size_eq, ← Lib.toList_data, he]; rfl
        exact absurd this h0
      | cons a l => rfl
    have hm2 : m.size ≤ maxLen := by unfold maxLen; omega
    have hn2 : n < maxLen := by unfold maxLen; omega
    clear h0 hf
    simp only [Act.put]
    go_wp2_with (at_mapUpdate; refine wpList_put _ rfl _ _ _ 53 60 rfl Tryd.underlying53 b n _ rfl KM3.out hn2 m hm2 _ rfl rfl ?_; intro w3 hM3 hF3'; have KM4 := Kept.mk hM3; have KF4 := Kept.mk hF3'; clear hM3 hF3')
    refine bodyPost_end (results_none rfl _ _ _) rfl ?_
    exact ⟨rfl, by rw [KA2.out, ← nmV_upd]; exact KM4.out, KF3.out.trans KF4.out (fun _ _ h => h)⟩
/-- The blocks of a disk and the new ones. -/
def Gr (B : Nat → Prop) (w : World) : Nat → Prop := fun i => B i ∨ w.heap.size ≤ i
theorem Bd.setd {w : World} {B : Nat → Prop} {S : St} {n d : Nat} {cs : List Value} (h : Bd w B S n) (hb : Bk w d 59 cs) (j : Nat) (u : Value) : Bd (w.setCell ⟨d, j, none⟩ u) B S n :=
  h.far (fun i _ _ => by
    by_cases e : i = d
    · subst e; exact .inr ⟨_, hb⟩
    · exact .inl (Below.heap_setCell _ _ _ _ e)) (fun _ _ h => h) (Nat.le_refl _)
/-- A disk's state, but for where its pieces lie. -/
structure Ps where
  quota : Int
  used : Int
  last : Int
  count : Int
  dark : Bool
  N : ByteArray → Option Nat
  L : ByteArray → Option Nat
  C : ByteArray → List Chg
  R : Int → Bool
  F : Nat → Option (List Int × Nat)
def St.ps (S : St) : Ps := ⟨S.quota, S.used, S.last, S.count, S.dark, S.N, S.L, fun p => ((S.C p).map Prod.snd).getD [], S.R, fun f => (S.F f).map fun c => (c.xs, c.s)⟩
theorem map_none {N : ByteArray → Option Nat} (h : ∀ s, nmV N s = none) : nmV N = fun _ => none := funext h
/-- A disk whose maps are made. -/
theorem Bd.laid {w w1 : World} {B : Nat → Prop} {S : St} {n : Nat} (h : Bd w B S n) (hn : S.bn = none) {a b c : Nat} (hb : Below w.heap.size w w1) (ha : w.heap.size ≤ a) (hab : a ≠ b) (hac : a ≠ c) (hbc : b ≠ c) (hbb : w.heap.size ≤ b) (hcc : w.heap.size ≤ c)
    (ma : MapAt w1 (some a) n (fun _ => none)) (mb : MapAt w1 (some b) n (fun _ => none)) (mc : MapAt w1 (some c) n (fun _ => none)) : Bd w1 (Gr B w) { S with bn := some a, bl := some b, bp := some c } n := by
  have hl := h.nl.1.1 hn
  have hp := h.nl.2.1 hn
  have h1 : Bd w1 (Gr B w) S n := h.far (fun i hi _ => .inl (hb.block i hi)) (fun i _ h => .inl h) (Nat.le_refl _)
  have hrb : ∀ x, S.rb = some x → x < w.heap.size := fun x hx => by have := h.mR; rw [hx] at this; exact this.lt
  have kN : nmV S.N = fun _ => none := by have := h.mN; rw [hn] at this; exact funext this
  have kL : nmV S.L = fun _ => none := by have := h.mL; rw [hl] at this; exact funext this
  have kC : rwV S.C = fun _ => none := by have := h.mC; rw [hp] at this; exact funext this
  exact {
    mN := by show MapAt w1 (some a) n (nmV S.N); rw [kN]; exact ma
    mL := by show MapAt w1 (some b) n (nmV S.L); rw [kL]; exact mb
    mC := by show MapAt w1 (some c) n (rwV S.C); rw [kC]; exact mc
    mR := h1.mR
    bB := fun x hx => by
      rcases hx with e | e | e | e
      · injection e with e; exact .inr (by omega)
      · injection e with e; exact .inr (by omega)
      · injection e with e; exact .inr (by omega)
      · exact h1.bB x (.inr (.inr (.inr e)))
    sp := fun x => ⟨fun e => by
      injection e with e
      exact ⟨fun h => by injection h with h; omega, fun h => by injection h with h; omega, fun h => by have := hrb x h; omega⟩, fun e => by
      injection e with e
      exact ⟨fun h => by injection h with h; omega, fun h => by have := hrb x h; omega⟩, fun e h => by
      injection e with e
      have := hrb x h
      omega⟩
    nl := ⟨⟨fun h => (nomatch h), fun h => (nomatch h)⟩, ⟨fun h => (nomatch h), fun h => (nomatch h)⟩⟩
    fl := h1.fl, fA := h1.fA, nF := h1.nF, lF := h1.lF, cF := h1.cF, rw := h1.rw, rA := h1.rA, kz := h1.kz }
set_option maxRecDepth 100000 in
set_option maxHeartbeats 1000000 in
theorem lay_any {w : World} {B : Nat → Prop} {d n : Nat} {S : St} (h : Dk w B d S n) :
    Calls Tryd.prog 35 #[.pointer (some ⟨d, 0, none⟩)] w fun e w' => e = .returned (.tuple #[]) ∧ ∃ S', Dk w' (Gr B w) d S' n ∧ S'.ps = S.ps ∧ S'.bn ≠ none ∧ S'.F = S.F ∧ S'.C = S.C ∧ Fx (fun i => i = d) w w' ∧ S'.m = S.m := by
  have h2 := h.names
  have hmm := @run_makeMap Tryd.prog
  have hq := fun w p => run_eql_map_nil_sl (P := Tryd.prog) w 53 _ _ p Tryd.underlying53
  have f2 := h.blk.frozen 2
  have KD := Kept.mk h
  clear h
  cases hn : S.bn with
  | some b =>
    rw [hn] at h2
    have KN : Kept (S.bn ≠ none) := ⟨by rw [hn]; exact fun h => nomatch h⟩
    clear hn
    go_enter Tryd.func35, Tryd.ntmps35
    go_wp2
    refine bodyPost_end (results_none rfl _ _ _) rfl ?_
    exact ⟨rfl, S, KD.out.far (fun _ _ _ => rfl) (fun _ _ h => .inl h) (Nat.le_refl _), rfl, KN.out, rfl, rfl, Fx.refl _ _, rfl⟩
  | none =>
    rw [hn] at h2
    have KN := Kept.mk hn
    obtain ⟨w1, hw1⟩ : ∃ w1, ((w.alloc (.map #[] 0)).alloc (.map #[] 0)).alloc (.map #[] 0) = w1 := ⟨_, rfl⟩
    have hb1 : Below w.heap.size w w1 := by
      rw [← hw1]
      exact (((Below.refl _ _).alloc (Nat.le_refl _) _).alloc (by simp) _).alloc (by simp; omega) _
    have m1 : MapAt w1 (some w.heap.size) n (fun _ => none) := by
      rw [← hw1]
      refine (MapAt.made w n).far (fun b e => ?_) (Nat.le_refl _)
      injection e with e
      subst e
      exact ((((Below.refl _ (w.alloc (.map #[] 0))).alloc (Nat.le_refl _) _).alloc (by simp) _).block _ (by simp))
    have m2 : MapAt w1 (some (w.heap.size + 1)) n (fun _ => none) := by
      rw [← hw1]
      have hm := MapAt.made (w.alloc (.map #[] 0)) n
      have e1 : (w.alloc (.map #[] 0)).heap.size = w.heap.size + 1 := by simp
      rw [e1] at hm
      refine hm.far (fun b e => ?_) (Nat.le_refl _)
      injection e with e
      subst e
      exact ((Below.refl _ ((w.alloc (.map #[] 0)).alloc (.map #[] 0))).alloc (Nat.le_refl _) _).block _ (by simp)
    have m3 : MapAt w1 (some (w.heap.size + 1 + 1)) n (fun _ => none) := by
      rw [← hw1]
      have hm := MapAt.made ((w.alloc (.map #[] 0)).alloc (.map #[] 0)) n
      have e1 : ((w.alloc (.map #[] 0)).alloc (.map #[] 0)).heap.size = w.heap.size + 1 + 1 := by simp
      rw [e1] at hm
      exact hm
    have hbd := KD.out.bd.laid KN.out hb1 (Nat.le_refl _) (by omega) (by omega) (by omega) (by omega) (by omega) m1 m2 m3
    have hk1 : Bk w1 d 59 S.cs := KD.out.blk.far (hb1.block _ KD.out.blk.lt)
    have f2' := hk1.frozen 2
    have k2 := hk1.cell 2 _ rfl
    obtain ⟨w2, hw2⟩ : ∃ w2, w1.setCell ⟨d, 2, none⟩ (.map (some w.heap.size)) = w2 := ⟨_, rfl⟩
    have hk2 : Bk w2 d 59 (S.cs.set 2 (.map (some w.heap.size))) := by rw [← hw2]; exact hk1.set 2 _
    have hbd2 := hbd.setd hk1 2 (.map (some w.heap.size))
    rw [hw2] at hbd2
    have f3 := hk2.frozen 3
    have k3 := hk2.cell 3 _ rfl
    obtain ⟨w3, hw3⟩ : ∃ w3, w2.setCell ⟨d, 3, none⟩ (.map (some (w.heap.size + 1))) = w3 := ⟨_, rfl⟩
    have hk3 : Bk w3 d 59 ((S.cs.set 2 (.map (some w.heap.size))).set 3 (.map (some (w.heap.size + 1)))) := by rw [← hw3]; exact hk2.set 3 _
    have hbd3 := hbd2.setd hk2 3 (.map (some (w.heap.size + 1)))
    rw [hw3] at hbd3
    have f4 := hk3.frozen 4
    have k4 := hk3.cell 4 _ rfl
    obtain ⟨w4, hw4⟩ : ∃ w4, w3.setCell ⟨d, 4, none⟩ (.map (some (w.heap.size + 1 + 1))) = w4 := ⟨_, rfl⟩
    have hk4 : Bk w4 d 59 (((S.cs.set 2 (.map (some w.heap.size))).set 3 (.map (some (w.heap.size + 1)))).set 4 (.map (some (w.heap.size + 1 + 1)))) := by rw [← hw4]; exact hk3.set 4 _
    have hbd4 := hbd3.setd hk3 4 (.map (some (w.heap.size + 1 + 1)))
    rw [hw4] at hbd4
    have KDk : Kept (Dk w4 (Gr B w) d { S with bn := some w.heap.size, bl := some (w.heap.size + 1), bp := some (w.heap.size + 1 + 1) } n) := ⟨⟨hk4, .inl KD.out.inB, hbd4⟩⟩
    have KFx : Kept (Fx (fun i => i = d) w w4) := ⟨by
      rw [← hw4, ← hw3, ← hw2]
      exact (((Fx.ofBelow (S := fun i => i = d) hb1 (Nat.le_refl _)).trans (Fx.setCell w1 d 2 _) (fun _ _ h => h)).trans (Fx.setCell _ d 3 _) (fun _ _ h => h)).trans (Fx.setCell _ d 4 _) (fun _ _ h => h)⟩
    clear hn hb1 m1 m2 m3 hbd hk1 hk2 hbd2 hk3 hbd3 hk4 hbd4
    go_enter Tryd.func35, Tryd.ntmps35
    go_wp2
    refine bodyPost_end (results_none rfl _ _ _) rfl ?_
    exact ⟨rfl, _, KDk.out, rfl, (fun h => nomatch h), rfl, rfl, KFx.out, rfl⟩
end Go.Proofs.YtegdadkejheagaaDoor
