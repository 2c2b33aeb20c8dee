/-
  Walks: Plan.
-/
import Derived.Test.YtegdadkejheagaaDoorFNL
namespace Go.Proofs.YtegdadkejheagaaDoor
open Go.RowKit Go.WideMaps Go.Maps

def I64 (i : Int) : Prop := -9223372036854775808 ≤ i ∧ i ≤ 9223372036854775807
theorem wf_i64 {i : Int} (h : I64 i) : (Lit.int .i64 i).wf = true := by
  have e1 : IntKind.i64.min = -9223372036854775808 := rfl
  have e2 : IntKind.i64.max = 9223372036854775807 := rfl
  unfold I64 at h
  simp only [Lit.wf, e1, e2, Bool.and_eq_true, decide_eq_true_eq]
  exact h
theorem key_int {i : Int} (h : I64 i) : keyOf Tryd.prog 3 (.int .i64 i) = some (.int .i64 i) := Maps.keyOf_int_mk Tryd.underlying3 (wf_i64 h)
theorem keyed_int : Maps.Keyed Tryd.prog 3 := Maps.int_keyed Tryd.underlying3
theorem RefAt.made (w : World) (n : Nat) : RefAt (w.alloc (.map #[] 0)) (some w.heap.size) n (fun _ => false) :=
  ⟨.map [], (World.ownsMap_made w _ _ _).mono (Nat.zero_le _), Maps.tidy_empty, fun _ => rfl⟩
section
variable {ops : Array Oper} {rest : List Oper} {o : Oper} {a : Act} {Q : Exit → Act → World → Prop}
set_option maxRecDepth 100000 in
/-- A call's number more is refused, at the operation. -/
theorem wpList_putR (w : World) (hg : o.guard = none) (m x v : Operand) (hop : o.op = Op.mapUpdate 55 m x v) (b n : Nat) (R : Int → Bool)
    (hm : a.eval m = .map (some b)) (hown : RefAt w (some b) n R) (hn : n < maxLen) (i : Int) (hi : I64 i) (hx : a.eval x = .int .i64 i) (hv : a.eval v = .agg #[])
    (hK : ∀ w', RefAt w' (some b) (n + 1) (fun j => R j || decide (j = i)) → Fx (fun k => k = b) w w' → wpList Tryd.prog ops Q rest (a.put o.dst undef) w') :
    wpList Tryd.prog ops Q (o :: rest) a w := by
  obtain ⟨D, h1, h2, h3⟩ := hown
  have hk := keyed_int.key (key_int hi)
  refine wpList_mapUpdate_in w hg m x v _ hop 3 78 keyed_int Tryd.underlying55 unitElem b n D hm h1 hn (.int .i64 i) (.agg #[]) (.int .i64 i) hx hv (key_int hi) (.agg []) [] unitElem_mk (fun w' h4 h5 => hK w' ⟨_, h4, h2.put hk _, fun j => ?_⟩ ((Fx.grown h5.grown).weak (fun i _ h => by injection h with h; exact h.symm)))
  by_cases e : j = i
  · subst e
    rw [Maps.has_put_same h2.isMap hk]
    simp
  · rw [Maps.has_put_other (fun e2 => e (by injection e2)), h3 j]
    simp [e]
end
/-- A disk with a plan begun. -/
theorem Bd.planned {w w1 : World} {B : Nat → Prop} {S : St} {n b : Nat} (h : Bd w B S n) (hb : Below w.heap.size w w1) (hbb : w.heap.size ≤ b) (m : RefAt w1 (some b) n (fun _ => false)) : Bd w1 (Gr B w) { S with rb := some b, R := fun _ => false } n := by
  have h1 : Bd w1 (Gr B w) S n := h.far (fun i hi _ => .inl (hb.block i hi)) (fun i _ h => .inl h) (Nat.le_refl _)
  have ln : ∀ x, S.bn = some x → x < w.heap.size := fun x hx => by have := h.mN; rw [hx] at this; exact this.lt
  have ll : ∀ x, S.bl = some x → x < w.heap.size := fun x hx => by have := h.mL; rw [hx] at this; exact this.lt
  have lc : ∀ x, S.bp = some x → x < w.heap.size := fun x hx => by have := h.mC; rw [hx] at this; exact this.lt
  exact {
    mN := h1.mN, mL := h1.mL, mC := h1.mC, mR := m
    bB := fun x hx => by
      rcases hx with e | e | e | e
      · exact h1.bB x (.inl e)
      · exact h1.bB x (.inr (.inl e))
      · exact h1.bB x (.inr (.inr (.inl e)))
      · injection e with e; exact .inr (by omega)
    sp := fun x => ⟨fun e => ⟨(h.sp x).1 e |>.1, (h.sp x).1 e |>.2.1, fun h2 => by injection h2 with h2; have := ln x e; omega⟩, fun e => ⟨(h.sp x).2.1 e |>.1, fun h2 => by injection h2 with h2; have := ll x e; omega⟩, fun e h2 => by injection h2 with h2; have := lc x e; omega⟩
    nl := h.nl, fl := h1.fl, fA := h1.fA, nF := h1.nF, lF := h1.lF, cF := h1.cF, rw := h1.rw, rA := h1.rA, kz := h1.kz }
/-- The refused calls of a disk turned. -/
theorem Bd.setR {w w' : World} {B : Nat → Prop} {S : St} {n b : Nat} (h : Bd w B S n) (hb : S.rb = some b) (R' : Int → Bool) (hM : RefAt w' (some b) (n + 1) R') (hF : Fx (fun i => i = b) w w') : Bd w' B { S with R := R' } (n + 1) := by
  have hR := h.mR
  rw [hb] at hR
  have hmap : ∃ es k, w.heap[b]? = some (.map es k) := by
    obtain ⟨D, ⟨es, k, h1, -⟩, -⟩ := hR
    exact ⟨es, k, h1⟩
  have hk1 := h.kept hmap hF.one
  have s := h.sp
  exact {
    mR := by show RefAt w' S.rb (n + 1) R'; rw [hb]; exact hM
    mN := h.mN.past (fun e => (s b).1 e |>.2.2 hb) (fun x e => h.bB x (.inl e)) hF.one (Nat.le_succ n)
    mL := h.mL.past (fun e => (s b).2.1 e |>.2 hb) (fun x e => h.bB x (.inr (.inl e))) hF.one (Nat.le_succ n)
    mC := h.mC.past (fun e => (s b).2.2 e hb) (fun x e => h.bB x (.inr (.inr (.inl e)))) hF.one (Nat.le_succ n)
    bB := h.bB, sp := h.sp, nl := h.nl, fl := hk1.1, fA := h.fA, nF := h.nF, lF := h.lF, cF := h.cF, rw := hk1.2, rA := h.rA, kz := h.kz }
def plP (s : Ps) (L : List Int) (o : Int) : Ps := { s with R := fun j => decide (j ∈ L), last := o, count := 0 }
set_option maxRecDepth 100000 in
set_option maxHeartbeats 4000000 in
theorem plan_any (v : Value) (L : List Int) (o : Int) {w : World} {B : Nat → Prop} {d n : Nat} {S : St} (h : Dk w B d S n) (hr : Rd .i64 (fun b => ¬ B b) w v L) (hL : ∀ i ∈ L, I64 i) (hn : n + L.length ≤ 900000) :
    Calls Tryd.prog 20 #[.pointer (some ⟨d, 0, none⟩), v, .int .i64 o] w fun e w' => e = .returned (.tuple #[]) ∧ ∃ S', Dk w' (Gr B w) d S' (n + L.length) ∧ S'.ps = plP S.ps L o ∧ Fx B w w' ∧ S'.m = S.m := by
  have KD := Kept.mk h
  have KR := Kept.mk hr
  have KL := Kept.mk hL
  obtain ⟨w1, hw1⟩ : ∃ w1, w.alloc (.map #[] 0) = w1 := ⟨_, rfl⟩
  have hb1 : Below w.heap.size w w1 := by rw [← hw1]; exact (Below.refl _ _).alloc (Nat.le_refl _) _
  have hm1 : RefAt w1 (some w.heap.size) n (fun _ => false) := by rw [← hw1]; exact RefAt.made w n
  have hbd1 := h.bd.planned hb1 (Nat.le_refl _) hm1
  have hk1 : Bk w1 d 59 S.cs := h.blk.far (hb1.block _ h.blk.lt)
  have f5 := hk1.frozen 5
  have g5 := hk1.cell 5 _ rfl
  obtain ⟨w2, hw2⟩ : ∃ w2, w1.setCell ⟨d, 5, none⟩ (.map (some w.heap.size)) = w2 := ⟨_, rfl⟩
  have hk2 : Bk w2 d 59 (S.cs.set 5 (.map (some w.heap.size))) := by rw [← hw2]; exact hk1.set 5 _
  have hbd2 := hbd1.setd hk1 5 (.map (some w.heap.size))
  rw [hw2] at hbd2
  have f6 := hk2.frozen 6
  have g6 := hk2.cell 6 _ rfl
  obtain ⟨w3, hw3⟩ : ∃ w3, w2.setCell ⟨d, 6, none⟩ (.int .i64 o) = w3 := ⟨_, rfl⟩
  have hk3 : Bk w3 d 59 ((S.cs.set 5 (.map (some w.heap.size))).set 6 (.int .i64 o)) := by rw [← hw3]; exact hk2.set 6 _
  have hbd3 := hbd2.setd hk2 6 (.int .i64 o)
  rw [hw3] at hbd3
  have f7 := hk3.frozen 7
  have g7 := hk3.cell 7 _ rfl
  obtain ⟨w4, hw4⟩ : ∃ w4, w3.setCell ⟨d, 7, none⟩ (.int .i64 0) = w4 := ⟨_, rfl⟩
  have hk4 : Bk w4 d 59 (((S.cs.set 5 (.map (some w.heap.size))).set 6 (.int .i64 o)).set 7 (.int .i64 0)) := by rw [← hw4]; exact hk3.set 7 _
  have hbd4 := hbd3.setd hk3 7 (.int .i64 0)
  rw [hw4] at hbd4
  have KD4 : Kept (Dk w4 (Gr B w) d { S with rb := some w.heap.size, R := fun j => decide (j ∈ L.take 0), last := o, count := 0 } (n + 0)) := ⟨⟨hk4, .inl h.inB, { mN := hbd4.mN, mL := hbd4.mL, mC := hbd4.mC, mR := (by have e : (fun j : Int => decide (j ∈ L.take 0)) = fun _ => false := (by funext j; simp); show RefAt w4 (some w.heap.size) n (fun j : Int => decide (j ∈ L.take 0)); rw [e]; exact hbd4.mR), bB := hbd4.bB, sp := hbd4.sp, nl := hbd4.nl, fl := hbd4.fl, fA := hbd4.fA, nF := hbd4.nF, lF := hbd4.lF, cF := hbd4.cF, rw := hbd4.rw, rA := hbd4.rA, kz := hbd4.kz }⟩⟩
  have KF4 : Kept (Fx B w w4) := ⟨by
    rw [← hw4, ← hw3, ← hw2]
    refine (((Fx.ofBelow (S := B) hb1 (Nat.le_refl _)).trans (Fx.setCell w1 d 5 _) ?_).trans (Fx.setCell _ d 6 _) ?_).trans (Fx.setCell _ d 7 _) ?_ <;> exact fun i _ e => by subst e; exact h.inB⟩
  have hmm := @run_makeMap Tryd.prog
  obtain ⟨a, c, rfl, hcn, hlc, hcm⟩ := hr.form
  have hli : (L.length : Int) ≤ 900000 := by omega
  clear h hr hL hb1 hm1 hbd1 hbd2 hbd3 hbd4 hk1 hk2 hk3 hk4 hcn hlc hcm
  go_enter Tryd.func20, Tryd.ntmps20
  go_wp2
  clear hw1 hw2 hw3 hw4 f5 g5 f6 g6 f7 g7
  go_loopw [7, 26] (fun _ kx wr => ∃ k : Nat, k ≤ L.length ∧ kx = .int .i64 k ∧ Dk wr (Gr B w) d { S with rb := some w.heap.size, R := fun j => decide (j ∈ L.take k), last := o, count := 0 } (n + k) ∧ Fx B w wr) (fun _ kx _ => L.length - (intOf kx).toNat)
  case atStart => exact ⟨0, Nat.zero_le _, rfl, KD4.out, KF4.out⟩
  case round =>
    obtain ⟨k, hk, rfl, hd, hf⟩ := hrel
    have KDr := Kept.mk hd
    have KFr := Kept.mk hf
    by_cases hlt : k < L.length
    · have hki : (k : Int) < (L.length : Int) := by omega
      obtain ⟨b, off, c', hv, -, -, -, -, hc⟩ := (KR.out.fx hf).open (by omega)
      injection hv with hv1 _ hv3
      subst hv1 hv3
      have hck := hc k hlt
      obtain ⟨x, hx⟩ : ∃ x, L.getD k 0 = x := ⟨_, rfl⟩
      rw [hx] at hck
      have hxL : L[k]? = some x := by rw [← hx]; simp [List.getD, List.getElem?_eq_getElem hlt]
      have Kx := Kept.mk hxL
      have KI : Kept (I64 x) := ⟨KL.out x (List.mem_of_getElem? hxL)⟩
      have g5 := hd.refuse
      have KT : Kept ((fun j : Int => decide (j ∈ L.take k) || decide (j = x)) = fun j => decide (j ∈ L.take (k + 1))) := ⟨by
        funext j
        rw [List.take_add_one, hxL]
        simp [List.mem_append]⟩
      clear hd hf hc hx hxL
      go_upto_region 6 with (at_mapUpdate; refine wpList_putR _ rfl _ _ _ rfl w.heap.size (n + k) _ rfl KDr.out.bd.mR (by unfold maxLen; omega) x KI.out rfl rfl ?_; intro w5 hM5 hF5; have KM5 := Kept.mk hM5; have KF5 := Kept.mk hF5; clear hM5 hF5)
      simp only [Act.put]
      have KD5 : Kept (Dk w5 (Gr B w) d { S with rb := some w.heap.size, R := fun j => decide (j ∈ L.take (k + 1)), last := o, count := 0 } (n + (k + 1))) := ⟨by
        have hR := KDr.out.bd.mR
        have hmap : ∃ es k', wr.heap[w.heap.size]? = some (.map es k') := by
          obtain ⟨D, ⟨es, k', h1, -⟩, -⟩ := (show RefAt wr (some w.heap.size) (n + k) _ from hR)
          exact ⟨es, k', h1⟩
        have hM : RefAt w5 (some w.heap.size) (n + k + 1) (fun j : Int => decide (j ∈ L.take (k + 1))) := by rw [← KT.out]; exact KM5.out
        exact KDr.out.past hmap KF5.out rfl (KDr.out.bd.setR rfl _ hM KF5.out)⟩
      have KF6 : Kept (Fx B w w5) := ⟨KFr.out.trans KF5.out (fun i hi e => by omega)⟩
      clear g5 hck
      go_wp2
      go_roundw
      case rel => exact ⟨k + 1, hlt, by go_num, KD5.out, KF6.out⟩
      case measure => simp [intOf]; omega
    · have hki : ¬ (k : Int) < (L.length : Int) := by omega
      obtain rfl : k = L.length := by omega
      rw [List.take_length] at KDr
      clear hd hf
      go_wp2
      refine bodyPost_end (results_none rfl _ _ _) rfl ?_
      exact ⟨rfl, _, KDr.out, rfl, KFr.out, rfl⟩
end Go.Proofs.YtegdadkejheagaaDoor
