/-
  Walks: calls of a nil disk.
-/
import Derived.Test.YtegdadkejheagaaGreatDoorFX1
namespace Go.Proofs.YtegdadkejheagaaGreatDoor
open Go.RowKit Go.WideMaps Go.Maps

set_option maxRecDepth 100000 in
theorem begin_nil (r : Bool) (v : Value) (w : World) (hv : ∃ a n c, v = .slice a n c) : Calls Tryz.prog 37 #[.pointer none, .bool r, v] w fun e w' => e = .returned (.int .i64 7) ∧ w' = w := by
  have KRy := Kept.mk (ready_nil w)
  obtain ⟨a, n, c, rfl⟩ := hv
  go_enter Tryz.func37, Tryz.ntmps37
  go_wp2_with fail
  refine Calls.mono KRy.out (fun x w1 hp => ?_)
  obtain ⟨rfl, rfl⟩ := hp
  go_wp2
  go_ret
  exact ⟨rfl, rfl⟩
set_option maxRecDepth 100000 in
theorem open_nil (v : Value) (w : World) (hv : ∃ a n c, v = .slice a n c) : Calls Tryz.prog 40 #[.pointer none, v] w fun e w' => e = .returned (.tuple #[.pointer none, .int .i64 7]) ∧ w' = w := by
  have KBg := Kept.mk (begin_nil true v w hv)
  obtain ⟨a, n, c, rfl⟩ := hv
  go_enter Tryz.func40, Tryz.ntmps40
  go_wp2_with fail
  refine Calls.mono KBg.out (fun x w1 hp => ?_)
  obtain ⟨rfl, rfl⟩ := hp
  go_wp2
  go_ret2
  exact ⟨rfl, rfl⟩
set_option maxRecDepth 100000 in
theorem create_nil (p : ByteArray) (w : World) : Calls Tryz.prog 13 #[.pointer none, .string p] w fun e w' => e = .returned (.int .i64 7) ∧ Below w.heap.size w w' := by
  have KBg := Kept.mk (begin_nil true (.slice (some ⟨w.heap.size, 0, none⟩) 1 1) (w.alloc (.cells #[.string p] 9)) ⟨_, _, _, rfl⟩)
  have KB : Kept (Below w.heap.size w (w.alloc (.cells #[.string p] 9))) := ⟨(Below.refl _ _).alloc (Nat.le_refl _) _⟩
  go_enter Tryz.func13, Tryz.ntmps13
  go_wp2_with fail
  refine Calls.mono KBg.out (fun x w1 hp => ?_)
  obtain ⟨rfl, rfl⟩ := hp
  go_wp2
  go_ret
  exact ⟨rfl, KB.out⟩
set_option maxRecDepth 100000 in
theorem append_nil (p : ByteArray) (v : Value) (w : World) (hv : ∃ a n c, v = .slice a n c) : Calls Tryz.prog 14 #[.pointer none, .string p, v] w fun e w' => e = .returned (.int .i64 7) ∧ Below w.heap.size w w' := by
  have KBg := Kept.mk (open_nil (.slice (some ⟨w.heap.size, 0, none⟩) 1 1) (w.alloc (.cells #[.string p] 9)) ⟨_, _, _, rfl⟩)
  have KB : Kept (Below w.heap.size w (w.alloc (.cells #[.string p] 9))) := ⟨(Below.refl _ _).alloc (Nat.le_refl _) _⟩
  obtain ⟨a, n, c, rfl⟩ := hv
  go_enter Tryz.func14, Tryz.ntmps14
  go_wp2_with fail
  refine Calls.mono KBg.out (fun x w1 hp => ?_)
  obtain ⟨rfl, rfl⟩ := hp
  go_wp2
  go_ret
  exact ⟨rfl, KB.out⟩
set_option maxRecDepth 100000 in
theorem sync_nil (p : ByteArray) (w : World) : Calls Tryz.prog 19 #[.pointer none, .string p] w fun e w' => e = .returned (.int .i64 7) ∧ Below w.heap.size w w' := by
  have KBg := Kept.mk (open_nil (.slice (some ⟨w.heap.size, 0, none⟩) 1 1) (w.alloc (.cells #[.string p] 9)) ⟨_, _, _, rfl⟩)
  have KB : Kept (Below w.heap.size w (w.alloc (.cells #[.string p] 9))) := ⟨(Below.refl _ _).alloc (Nat.le_refl _) _⟩
  go_enter Tryz.func19, Tryz.ntmps19
  go_wp2_with fail
  refine Calls.mono KBg.out (fun x w1 hp => ?_)
  obtain ⟨rfl, rfl⟩ := hp
  go_wp2
  go_ret
  exact ⟨rfl, KB.out⟩
set_option maxRecDepth 100000 in
theorem remove_nil (p : ByteArray) (w : World) : Calls Tryz.prog 21 #[.pointer none, .string p] w fun e w' => e = .returned (.int .i64 7) ∧ Below w.heap.size w w' := by
  have KBg := Kept.mk (open_nil (.slice (some ⟨w.heap.size, 0, none⟩) 1 1) (w.alloc (.cells #[.string p] 9)) ⟨_, _, _, rfl⟩)
  have KB : Kept (Below w.heap.size w (w.alloc (.cells #[.string p] 9))) := ⟨(Below.refl _ _).alloc (Nat.le_refl _) _⟩
  go_enter Tryz.func21, Tryz.ntmps21
  go_wp2_with fail
  refine Calls.mono KBg.out (fun x w1 hp => ?_)
  obtain ⟨rfl, rfl⟩ := hp
  go_wp2
  go_ret
  exact ⟨rfl, KB.out⟩
set_option maxRecDepth 100000 in
theorem rename_nil (p q : ByteArray) (w : World) : Calls Tryz.prog 20 #[.pointer none, .string p, .string q] w fun e w' => e = .returned (.int .i64 7) ∧ Below w.heap.size w w' := by
  have KBg := Kept.mk (open_nil (.slice (some ⟨w.heap.size, 0, none⟩) 2 2) (w.alloc (.cells #[.string p, .string q] 9)) ⟨_, _, _, rfl⟩)
  have KB : Kept (Below w.heap.size w (w.alloc (.cells #[.string p, .string q] 9))) := ⟨(Below.refl _ _).alloc (Nat.le_refl _) _⟩
  go_enter Tryz.func20, Tryz.ntmps20
  go_wp2_with fail
  refine Calls.mono KBg.out (fun x w1 hp => ?_)
  obtain ⟨rfl, rfl⟩ := hp
  go_wp2
  go_ret
  exact ⟨rfl, KB.out⟩
set_option maxRecDepth 100000 in
theorem syncDir_nil (p : ByteArray) (w : World) : Calls Tryz.prog 22 #[.pointer none, .string p] w fun e w' => e = .returned (.int .i64 7) ∧ w' = w := by
  have KBg := Kept.mk (begin_nil false (.slice none 0 0) w ⟨_, _, _, rfl⟩)
  go_enter Tryz.func22, Tryz.ntmps22
  go_wp2_with fail
  refine Calls.mono KBg.out (fun x w1 hp => ?_)
  obtain ⟨rfl, rfl⟩ := hp
  go_wp2
  go_ret
  exact ⟨rfl, rfl⟩
set_option maxRecDepth 100000 in
theorem plan_nil (v : Value) (o : Int) (w : World) (hv : ∃ a n c, v = .slice a n c) : Calls Tryz.prog 7 #[.pointer none, v, .int .i64 o] w fun e w' => e = .returned (.tuple #[]) ∧ w' = w := by
  obtain ⟨a, n, c, rfl⟩ := hv
  go_enter Tryz.func7, Tryz.ntmps7
  go_wp2
  refine bodyPost_ret (results_none rfl _ _ _) rfl ?_
  exact ⟨rfl, rfl⟩

open Go.RowKit Go.WideMaps Go.Maps

def I64 (i : Int) : Prop := -9223372036854775808 ≤ i ∧ i ≤ 9223372036854775807
theorem wf_i64 {i : Int} (h : I64 i) : (Lit.int .i64 i).wf = true := by
  have e1 : IntKind.i64.min = -9223372036854775808 := rfl
  have e2 : IntKind.i64.max = 9223372036854775807 := rfl
  unfold I64 at h
  simp only [Lit.wf, e1, e2, Bool.and_eq_true, decide_eq_true_eq]
  exact h
theorem key_int {i : Int} (h : I64 i) : keyOf Tryz.prog 3 (.int .i64 i) = some (.int .i64 i) := Maps.keyOf_int_mk Tryz.underlying3 (wf_i64 h)
theorem keyed_int : Maps.Keyed Tryz.prog 3 := Maps.int_keyed Tryz.underlying3
theorem RefAt.made (w : World) (n : Nat) : RefAt (w.alloc (.map #[] 0)) (some w.heap.size) n (fun _ => false) :=
  ⟨.map [], (World.ownsMap_made w _ _ _).mono (Nat.zero_le _), Maps.tidy_empty, fun _ => rfl⟩
section
variable {ops : Array Oper} {rest : List Oper} {o : Oper} {a : Act} {Q : Exit → Act → World → Prop}
set_option maxRecDepth 100000 in
/-- A call's number more is refused, at the operation. -/
theorem wpList_putR (w : World) (hg : o.guard = none) (m x v : Operand) (hop : o.op = Op.mapUpdate 55 m x v) (b n : Nat) (R : Int → Bool)
    (hm : a.eval m = .map (some b)) (hown : RefAt w (some b) n R) (hn : n < maxLen) (i : Int) (hi : I64 i) (hx : a.eval x = .int .i64 i) (hv : a.eval v = .agg #[])
    (hK : ∀ w', RefAt w' (some b) (n + 1) (fun j => R j || decide (j = i)) → Fx (fun k => k = b) w w' → wpList Tryz.prog ops Q rest (a.put o.dst undef) w') :
    wpList Tryz.prog ops Q (o :: rest) a w := by
  obtain ⟨D, h1, h2, h3⟩ := hown
  have hk := keyed_int.key (key_int hi)
  refine wpList_mapUpdate_in w hg m x v _ hop 3 60 keyed_int Tryz.underlying55 unitElem b n D hm h1 hn (.int .i64 i) (.agg #[]) (.int .i64 i) hx hv (key_int hi) (.agg []) [] unitElem_mk (fun w' h4 h5 => hK w' ⟨_, h4, h2.put hk _, fun j => ?_⟩ ((Fx.grown h5.grown).weak (fun i _ h => by injection h with h; exact h.symm)))
  by_cases e : j = i
  · subst e
    rw [Maps.has_put_same h2.isMap hk]
    simp
  · rw [Maps.has_put_other (fun e2 => e (by injection e2)), h3 j]
    simp [e]
end
/-- A disk with a plan begun. -/
theorem Bd.planned {w w1 : World} {B : Nat → Prop} {S : St} {n b : Nat} (h : Bd w B S n) (hb : Below w.heap.size w w1) (hbb : w.heap.size ≤ b) (m : RefAt w1 (some b) n (fun _ => false)) : Bd w1 (Gr B w) { S with rb := some b, R := fun _ => false } n := by
  have h1 : Bd w1 (Gr B w) S n := h.far (fun i hi _ => .inl (hb.block i hi)) (fun i _ h => .inl h) (Nat.le_refl _)
  have ln : ∀ x, S.bn = some x → x < w.heap.size := fun x hx => by have := h.mN; rw [hx] at this; exact this.lt
  have ll : ∀ x, S.bl = some x → x < w.heap.size := fun x hx => by have := h.mL; rw [hx] at this; exact this.lt
  have lc : ∀ x, S.bp = some x → x < w.heap.size := fun x hx => by have := h.mC; rw [hx] at this; exact this.lt
  exact {
    mN := h1.mN, mL := h1.mL, mC := h1.mC, mR := m
    bB := fun x hx => by
      rcases hx with e | e | e | e
      · exact h1.bB x (.inl e)
      · exact h1.bB x (.inr (.inl e))
      · exact h1.bB x (.inr (.inr (.inl e)))
      · injection e with e; exact .inr (by omega)
    sp := fun x => ⟨fun e => ⟨(h.sp x).1 e |>.1, (h.sp x).1 e |>.2.1, fun h2 => by injection h2 with h2; have := ln x e; omega⟩, fun e => ⟨(h.sp x).2.1 e |>.1, fun h2 => by injection h2 with h2; have := ll x e; omega⟩, fun e h2 => by injection h2 with h2; have := lc x e; omega⟩
    nl := h.nl, fl := h1.fl, fA := h1.fA, nF := h1.nF, lF := h1.lF, cF := h1.cF, rw := h1.rw, rA := h1.rA, kz := h1.kz }
/-- The refused calls of a disk turned. -/
theorem Bd.setR {w w' : World} {B : Nat → Prop} {S : St} {n b : Nat} (h : Bd w B S n) (hb : S.rb = some b) (R' : Int → Bool) (hM : RefAt w' (some b) (n + 1) R') (hF : Fx (fun i => i = b) w w') : Bd w' B { S with R := R' } (n + 1) := by
  have hR := h.mR
  rw [hb] at hR
  have hmap : ∃ es k, w.heap[b]? = some (.map es k) := by
    obtain ⟨D, ⟨es, k, h1, -⟩, -⟩ := hR
    exact ⟨es, k, h1⟩
  have hk1 := h.kept hmap hF.one
  have s := h.sp
  exact {
    mR := by show RefAt w' S.rb (n + 1) R'; rw [hb]; exact hM
    mN := h.mN.past (fun e => (s b).1 e |>.2.2 hb) (fun x e => h.bB x (.inl e)) hF.one (Nat.le_succ n)
    mL := h.mL.past (fun e => (s b).2.1 e |>.2 hb) (fun x e => h.bB x (.inr (.inl e))) hF.one (Nat.le_succ n)
    mC := h.mC.past (fun e => (s b).2.2 e hb) (fun x e => h.bB x (.inr (.inr (.inl e)))) hF.one (Nat.le_succ n)
    bB := h.bB, sp := h.sp, nl := h.nl, fl := hk1.1, fA := h.fA, nF := h.nF, lF := h.lF, cF := h.cF, rw := hk1.2, rA := h.rA, kz := h.kz }
def plP (s : Ps) (L : List Int) (o : Int) : Ps := { s with R := fun j => decide (j ∈ L), last := o, count := 0 }
set_option maxRecDepth 100000 in
set_option maxHeartbeats 4000000 in
theorem plan_any (v : Value) (L : List Int) (o : Int) {w : World} {B : Nat → Prop} {d n : Nat} {S : St} (h : Dk w B d S n) (hr : Rd .i64 (fun b => ¬ B b) w v L) (hL : ∀ i ∈ L, I64 i) (hn : n + L.length ≤ 900000) :
    Calls Tryz.prog 7 #[.pointer (some ⟨d, 0, none⟩), v, .int .i64 o] w fun e w' => e = .returned (.tuple #[]) ∧ ∃ S', Dk w' (Gr B w) d S' (n + L.length) ∧ S'.ps = plP S.ps L o ∧ Fx B w w' ∧ S'.m = S.m := by
  have KD := Kept.mk h
  have KR := Kept.mk hr
  have KL := Kept.mk hL
  obtain ⟨w1, hw1⟩ : ∃ w1, w.alloc (.map #[] 0) = w1 := ⟨_, rfl⟩
  have hb1 : Below w.heap.size w w1 := by rw [← hw1]; exact (Below.refl _ _).alloc (Nat.le_refl _) _
  have hm1 : RefAt w1 (some w.heap.size) n (fun _ => false) := by rw [← hw1]; exact RefAt.made w n
  have hbd1 := h.bd.planned hb1 (Nat.le_refl _) hm1
  have hk1 : Bk w1 d 59 S.cs := h.blk.far (hb1.block _ h.blk.lt)
  have f5 := hk1.frozen 5
  have g5 := hk1.cell 5 _ rfl
  obtain ⟨w2, hw2⟩ : ∃ w2, w1.setCell ⟨d, 5, none⟩ (.map (some w.heap.size)) = w2 := ⟨_, rfl⟩
  have hk2 : Bk w2 d 59 (S.cs.set 5 (.map (some w.heap.size))) := by rw [← hw2]; exact hk1.set 5 _
  have hbd2 := hbd1.setd hk1 5 (.map (some w.heap.size))
  rw [hw2] at hbd2
  have f6 := hk2.frozen 6
  have g6 := hk2.cell 6 _ rfl
  obtain ⟨w3, hw3⟩ : ∃ w3, w2.setCell ⟨d, 6, none⟩ (.int .i64 o) = w3 := ⟨_, rfl⟩
  have hk3 : Bk w3 d 59 ((S.cs.set 5 (.map (some w.heap.size))).set 6 (.int .i64 o)) := by rw [← hw3]; exact hk2.set 6 _
  have hbd3 := hbd2.setd hk2 6 (.int .i64 o)
  rw [hw3] at hbd3
  have f7 := hk3.frozen 7
  have g7 := hk3.cell 7 _ rfl
  obtain ⟨w4, hw4⟩ : ∃ w4, w3.setCell ⟨d, 7, none⟩ (.int .i64 0) = w4 := ⟨_, rfl⟩
  have hk4 : Bk w4 d 59 (((S.cs.set 5 (.map (some w.heap.size))).set 6 (.int .i64 o)).set 7 (.int .i64 0)) := by rw [← hw4]; exact hk3.set 7 _
  have hbd4 := hbd3.setd hk3 7 (.int .i64 0)
  rw [hw4] at hbd4
  have KD4 : Kept (Dk w4 (Gr B w) d { S with rb := some w.heap.size, R := fun j => decide (j ∈ L.take 0), last := o, count := 0 } (n + 0)) := ⟨⟨hk4, .inl h.inB, { mN := hbd4.mN, mL := hbd4.mL, mC := hbd4.mC, mR := (by have e : (fun j : Int => decide (j ∈ L.take 0)) = fun _ => false := (by funext j; simp); show RefAt w4 (some w.heap.size) n (fun j : Int => decide (j ∈ L.take 0)); rw [e]; exact hbd4.mR), bB := hbd4.bB, sp := hbd4.sp, nl := hbd4.nl, fl := hbd4.fl, fA := hbd4.fA, nF := hbd4.nF, lF := hbd4.lF, cF := hbd4.cF, rw := hbd4.rw, rA := hbd4.rA, kz := hbd4.kz }⟩⟩
  have KF4 : Kept (Fx B w w4) := ⟨by
    rw [← hw4, ← hw3, ← hw2]
    refine (((Fx.ofBelow (S := B) hb1 (Nat.le_refl _)).trans (Fx.setCell w1 d 5 _) ?_).trans (Fx.setCell _ d 6 _) ?_).trans (Fx.setCell _ d 7 _) ?_ <;> exact fun i _ e => by subst e; exact h.inB⟩
  have hmm := @run_makeMap Tryz.prog
  obtain ⟨a, c, rfl, hcn, hlc, hcm⟩ := hr.form
  have hli : (L.length : Int) ≤ 900000 := by omega
  clear h hr hL hb1 hm1 hbd1 hbd2 hbd3 hbd4 hk1 hk2 hk3 hk4 hcn hlc hcm
  go_enter Tryz.func7, Tryz.ntmps7
  go_wp2
  clear hw1 hw2 hw3 hw4 f5 g5 f6 g6 f7 g7
  go_loopw [7, 26] (fun _ kx wr => ∃ k : Nat, k ≤ L.length ∧ kx = .int .i64 k ∧ Dk wr (Gr B w) d { S with rb := some w.heap.size, R := fun j => decide (j ∈ L.take k), last := o, count := 0 } (n + k) ∧ Fx B w wr) (fun _ kx _ => L.length - (intOf kx).toNat)
  case atStart => exact ⟨0, Nat.zero_le _, rfl, KD4.out, KF4.out⟩
  case round =>
    obtain ⟨k, hk, rfl, hd, hf⟩ := hrel
    have KDr := Kept.mk hd
    have KFr := Kept.mk hf
    by_cases hlt : k < L.length
    · have hki : (k : Int) < (L.length : Int) := by omega
      obtain ⟨b, off, c', hv, -, -, -, -, hc⟩ := (KR.out.fx hf).open (by omega)
      injection hv with hv1 _ hv3
      subst hv1 hv3
      have hck := hc k hlt
      obtain ⟨x, hx⟩ : ∃ x, L.getD k 0 = x := ⟨_, rfl⟩
      rw [hx] at hck
      have hxL : L[k]? = some x := by rw [← hx]; simp [List.getD, List.getElem?_eq_getElem hlt]
      have Kx := Kept.mk hxL
      have KI : Kept (I64 x) := ⟨KL.out x (List.mem_of_getElem? hxL)⟩
      have g5 := hd.refuse
      have KT : Kept ((fun j : Int => decide (j ∈ L.take k) || decide (j = x)) = fun j => decide (j ∈ L.take (k + 1))) := ⟨by
        funext j
        rw [List.take_add_one, hxL]
        simp [List.mem_append]⟩
      clear hd hf hc hx hxL
      go_upto_region 6 with (at_mapUpdate; refine wpList_putR _ rfl _ _ _ rfl w.heap.size (n + k) _ rfl KDr.out.bd.mR (by unfold maxLen; omega) x KI.out rfl rfl ?_; intro w5 hM5 hF5; have KM5 := Kept.mk hM5; have KF5 := Kept.mk hF5; clear hM5 hF5)
      simp only [Act.put]
      have KD5 : Kept (Dk w5 (Gr B w) d { S with rb := some w.heap.size, R := fun j => decide (j ∈ L.take (k + 1)), last := o, count := 0 } (n + (k + 1))) := ⟨by
        have hR := KDr.out.bd.mR
        have hmap : ∃ es k', wr.heap[w.heap.size]? = some (.map es k') := by
          obtain ⟨D, ⟨es, k', h1, -⟩, -⟩ := (show RefAt wr (some w.heap.size) (n + k) _ from hR)
          exact ⟨es, k', h1⟩
        have hM : RefAt w5 (some w.heap.size) (n + k + 1) (fun j : Int => decide (j ∈ L.take (k + 1))) := by rw [← KT.out]; exact KM5.out
        exact KDr.out.past hmap KF5.out rfl (KDr.out.bd.setR rfl _ hM KF5.out)⟩
      have KF6 : Kept (Fx B w w5) := ⟨KFr.out.trans KF5.out (fun i hi e => by omega)⟩
      clear g5 hck
      go_wp2
      go_roundw
      case rel => exact ⟨k + 1, hlt, by go_num, KD5.out, KF6.out⟩
      case measure => simp [intOf]; omega
    · have hki : ¬ (k : Int) < (L.length : Int) := by omega
      obtain rfl : k = L.length := by omega
      rw [List.take_length] at KDr
      clear hd hf
      go_wp2
      refine bodyPost_end (results_none rfl _ _ _) rfl ?_
      exact ⟨rfl, _, KDr.out, rfl, KFr.out, rfl⟩

open Go.RowKit Go.WideMaps Go.Maps

theorem One.bg {s : Ps} {q : Int} {p : ByteArray} {f : Nat} {xs : List Int} {k : Nat} (h : One s q p f xs k) : One (bgP s) q p f xs k :=
  ⟨h.calm.bg, by rw [h.calm.bgP_eq]; exact h.quota, by rw [bgP_used]; exact h.used, fun r => by rw [bgP_N]; exact h.N r, by rw [bgP_F]; exact h.F⟩
theorem Calm.bg_count {s : Ps} (h : Calm s) : (bgP s).count = s.count + 1 := by rw [h.bgP_eq]
theorem crP_bad {s s' : Ps} {p : ByteArray} (h : crE s p ≠ 0) (hc : CrP s p s') : s' = bgP s := by
  unfold CrP at hc
  rwa [if_neg h] at hc
theorem apP_bad {s : Ps} {p : ByteArray} {ys : List Int} (h : apE s p ys.length ≠ 0) : apP s p ys = bgP s := by
  unfold apP
  rw [if_neg h]
theorem rnP_bad {s : Ps} {p q : ByteArray} (h : opEP s [p, q] p ≠ 0) : rnP s p q = bgP s := by
  unfold rnP
  rw [if_neg (fun e => h e.1)]
theorem rmP_bad {s : Ps} {p : ByteArray} (h : opEP s [p] p ≠ 0) : rmP s p = bgP s := by
  unfold rmP
  rw [if_neg h]
theorem Calm.bgE_bad {s : Ps} (h : Calm s) {L : List ByteArray} (hL : oneF L = false) (r : Bool) : bgEP s r L = 1 := by
  unfold bgEP
  rw [if_neg (by rw [h.dark]; decide), if_neg (by rw [h.last]; have := h.count; omega), if_pos hL]
theorem Calm.crE_there {s : Ps} (h : Calm s) {p : ByteArray} {f : Nat} (hp : pathF p = true) (hN : s.N p = some f) : Proofs.YtegdadkejheagaaGreatDoor.crE s p = 8 := by
  unfold Proofs.YtegdadkejheagaaGreatDoor.crE
  rw [if_pos (h.bgE (oneF_single hp) true), hN]
theorem Calm.crE_bad {s : Ps} (h : Calm s) {p : ByteArray} (hp : oneF [p] = false) : Proofs.YtegdadkejheagaaGreatDoor.crE s p = 1 := by
  have e := h.bgE_bad hp true
  unfold Proofs.YtegdadkejheagaaGreatDoor.crE
  rw [e]
  rfl
theorem Calm.opE_none {s : Ps} (h : Calm s) {p : ByteArray} (hp : pathF p = true) (hN : s.N p = none) : opEP s [p] p = 7 := by
  unfold opEP
  rw [if_pos (h.bgE (oneF_single hp) true), hN]
theorem Calm.opE_bad {s : Ps} (h : Calm s) {L : List ByteArray} {p : ByteArray} (hL : oneF L = false) : opEP s L p = 1 := by
  have e := h.bgE_bad hL true
  unfold opEP
  rw [e]
  rfl
theorem Calm.apE_none {s : Ps} (h : Calm s) {p : ByteArray} (hp : pathF p = true) (hN : s.N p = none) (k : Nat) : Proofs.YtegdadkejheagaaGreatDoor.apE s p k = 7 := by
  have e := h.opE_none hp hN
  unfold Proofs.YtegdadkejheagaaGreatDoor.apE
  rw [e]
  rfl
theorem Calm.apE_full {s : Ps} (h : Calm s) {p : ByteArray} {f : Nat} {xs : List Int} {k n : Nat} (hp : pathF p = true) (hf : fileP s p = some (f, xs, k)) (h1 : xs.length + n ≤ 2097152) (h2 : s.quota < s.used + n) : Proofs.YtegdadkejheagaaGreatDoor.apE s p n = 12 := by
  unfold Proofs.YtegdadkejheagaaGreatDoor.apE
  rw [if_pos (h.opE hp (fileP_inv hf).1), hf]
  simp only
  rw [if_neg (by omega), if_pos h2]
/-- The plan of the third example. -/
structure Ex3 (s : Ps) (c : Int) (k : Bool) : Prop where
  dark : s.dark = k
  last : s.last = 3
  count : s.count = c
  R : ∀ i, s.R i = decide (i ∈ [(2 : Int)])
theorem ex3_new : Ex3 (plP (newS 100).ps [2] 3) 0 false := ⟨rfl, rfl, rfl, fun _ => rfl⟩
theorem Ex3.bgE0 {s : Ps} (h : Ex3 s 0 false) {L : List ByteArray} (hL : oneF L = true) : bgEP s true L = 0 := by
  unfold bgEP
  rw [if_neg (by rw [h.dark]; decide), if_neg (by rw [h.last, h.count]; decide), if_neg (by rw [hL]; decide), h.R, h.count]
  rfl
theorem Ex3.bg0 {s : Ps} (h : Ex3 s 0 false) : Ex3 (bgP s) 1 false := by
  unfold bgP
  rw [if_neg (by rw [h.dark]; decide)]
  exact ⟨by show decide (s.count + 1 = s.last) = false; rw [h.count, h.last]; rfl, h.last, by show s.count + 1 = 1; rw [h.count]; rfl, h.R⟩
theorem Ex3.bgE1 {s : Ps} (h : Ex3 s 1 false) {L : List ByteArray} (hL : oneF L = true) : bgEP s true L = 11 := by
  unfold bgEP
  rw [if_neg (by rw [h.dark]; decide), if_neg (by rw [h.last, h.count]; decide), if_neg (by rw [hL]; decide), h.R, h.count]
  rfl
theorem Ex3.bg1 {s : Ps} (h : Ex3 s 1 false) : Ex3 (bgP s) 2 false := by
  unfold bgP
  rw [if_neg (by rw [h.dark]; decide)]
  exact ⟨by show decide (s.count + 1 = s.last) = false; rw [h.count, h.last]; rfl, h.last, by show s.count + 1 = 2; rw [h.count]; rfl, h.R⟩
theorem Ex3.bgE2 {s : Ps} (h : Ex3 s 2 false) (L : List ByteArray) : bgEP s true L = 13 := by
  unfold bgEP
  rw [if_neg (by rw [h.dark]; decide), if_pos (by rw [h.last, h.count]; rfl)]
theorem Ex3.bg2 {s : Ps} (h : Ex3 s 2 false) : Ex3 (bgP s) 3 true := by
  unfold bgP
  rw [if_neg (by rw [h.dark]; decide)]
  exact ⟨by show decide (s.count + 1 = s.last) = true; rw [h.count, h.last]; rfl, h.last, by show s.count + 1 = 3; rw [h.count]; rfl, h.R⟩
theorem Ex3.note {s : Ps} {c : Int} {k : Bool} (h : Ex3 s c k) (F : Nat → Option (List Int × Nat)) (p : ByteArray) (x : Chg) : Ex3 (noteP { s with F := F } p x) c k := ⟨h.dark, h.last, h.count, h.R⟩
theorem ex3_one {s1 : Ps} (h : CrP (plP (newS 100).ps [2] 3) pA s1) : Ex3 s1 1 false ∧ s1.used = 0 := by
  have e0 : crE (plP (newS 100).ps [2] 3) pA = 0 := by
    unfold crE
    rw [if_pos (ex3_new.bgE0 (oneF_single pA_path))]
    rfl
  unfold CrP at h
  rw [if_pos e0] at h
  obtain ⟨f, -, rfl⟩ := h
  exact ⟨ex3_new.bg0.note _ _ _, by show (bgP (plP (newS 100).ps [2] 3)).used = 0; rw [bgP_used]; rfl⟩
theorem Ex3.apE1 {s : Ps} (h : Ex3 s 1 false) (k : Nat) : apE s pA k = 11 := by
  have e := h.bgE1 (oneF_single pA_path)
  have e2 : opEP s [pA] pA = 11 := by
    unfold opEP
    rw [e]
    rfl
  unfold apE
  rw [e2]
  rfl
theorem Ex3.apE2 {s : Ps} (h : Ex3 s 2 false) (k : Nat) : apE s pA k = 13 := by
  have e := h.bgE2 [pA]
  have e2 : opEP s [pA] pA = 13 := by
    unfold opEP
    rw [e]
    rfl
  unfold apE
  rw [e2]
  rfl
theorem Ex3.rdE {s : Ps} {c : Int} (h : Ex3 s c true) (p : ByteArray) : rdE s p = 13 := by
  unfold Proofs.YtegdadkejheagaaGreatDoor.rdE
  rw [if_pos h.dark]
def pC : ByteArray := ⟨#[99]⟩
def pX : ByteArray := ⟨#[120]⟩
def pASB : ByteArray := ⟨#[97, 47, 47, 98]⟩
def pCB : ByteArray := ⟨#[99, 47, 98]⟩
def pNo : ByteArray := ⟨#[110, 111, 116, 104, 105, 110, 103, 47, 47]⟩
theorem pC_path : pathF pC = true := by kernel_rfl
theorem pX_path : pathF pX = true := by kernel_rfl
theorem pASB_one : oneF [pASB] = false := by kernel_rfl
theorem pAB_CB : oneF [pAB, pCB] = false := by kernel_rfl
theorem pC_ne : pC ≠ pAB := fun e => by
  have := congrArg ByteArray.size e
  exact absurd this (by decide)
theorem pX_ne : pX ≠ pAB := fun e => by
  have := congrArg ByteArray.size e
  exact absurd this (by decide)

open Go.RowKit Go.WideMaps Go.Maps

/-- A disk in memory that the call has made: its blocks lie from 'lo' on. -/
def Ds (lo : Nat) (w : World) (d : Nat) (s : Ps) (n m : Nat) : Prop := ∃ B S, Dk w B d S n ∧ S.ps = s ∧ S.m ≤ m ∧ ∀ i, B i → lo ≤ i ∧ i < w.heap.size
section
variable {lo : Nat} {w w' : World} {d n m : Nat} {s : Ps}
theorem Ds.later (h : Ds lo w d s n m) (hb : Below w.heap.size w w') : Ds lo w' d s n m := by
  obtain ⟨B, S, h1, h2, h3, h4⟩ := h
  exact ⟨B, S, h1.later hb, h2, h3, fun i hi => ⟨(h4 i hi).1, Nat.lt_of_lt_of_le (h4 i hi).2 hb.size⟩⟩
theorem Ds.ge (h : Ds lo w d s n m) : lo ≤ d := by
  obtain ⟨B, S, h1, h2, h3, h4⟩ := h
  exact (h4 d h1.inB).1
theorem Ds.weak (h : Ds lo w d s n m) {n' m' : Nat} (hn : n ≤ n') (hm : m ≤ m') : Ds lo w d s n' m' := by
  obtain ⟨B, S, h1, h2, h3, h4⟩ := h
  exact ⟨B, S, h1.weak (fun _ _ h => h) hn, h2, Nat.le_trans h3 hm, h4⟩
theorem ds_of {B : Nat → Prop} {S' : St} {n' m' : Nat} (hB : ∀ i, B i → lo ≤ i ∧ i < w.heap.size) (hlo : lo ≤ w.heap.size) (h : Dk w' (Gr B w) d S' n') (hF : Fx B w w') (hs : S'.ps = s) (hm : S'.m ≤ m') : Ds lo w' d s n' m' ∧ Below lo w w' :=
  ⟨⟨_, S', h.cut, hs, hm, fun i hi => ⟨by
    rcases hi.1 with h | h
    · exact (hB i h).1
    · omega, hi.2⟩⟩, hF.below hlo (fun i hi hb => by have := (hB i hb).1; omega)⟩
theorem new_ds (q : Int) (w : World) (hq : 0 ≤ q) (hlo : lo ≤ w.heap.size) : Calls Tryz.prog 6 #[.int .i64 q] w fun e w' => ∃ d, e = .returned (.tuple #[.pointer (some ⟨d, 0, none⟩), .int .i64 0]) ∧ Ds lo w' d (newS q).ps 0 0 ∧ Below lo w w' := by
  refine Calls.mono (new_any q w hq) (fun e w' hp => ?_)
  obtain ⟨h1, h2, h3⟩ := hp
  exact ⟨_, h1, ⟨_, _, h2.cut, rfl, Nat.le_refl _, fun i hi => ⟨by have := hi.1; omega, hi.2⟩⟩, h3.mono hlo⟩
theorem create_ds (p : ByteArray) (h : Ds lo w d s n m) (hg : Gl w) (hlo : lo ≤ w.heap.size) (hc0 : 0 ≤ s.count) (hc1 : s.count < 1000000) (hgl : 3 ≤ lo) (hn : n < 900000) (hm : m < 1000) :
    Calls Tryz.prog 13 #[.pointer (some ⟨d, 0, none⟩), .string p] w fun e w' => e = .returned (.int .i64 (crE s p)) ∧ ∃ s', Ds lo w' d s' (n + 2) (m + 1) ∧ CrP s p s' ∧ Below lo w w' := by
  have hd := h.ge
  obtain ⟨B, S, h1, rfl, h3, h4⟩ := h
  refine Calls.mono (create_any p h1 hg hc0 hc1 (by omega) hn (by omega)) (fun e w' hp => ?_)
  obtain ⟨h5, S', h6, h7, h8, h9⟩ := hp
  have := ds_of h4 hlo h6 h8 rfl (show S'.m ≤ m + 1 by omega)
  exact ⟨h5, S'.ps, this.1, h7, this.2⟩
theorem append_ds {w0 : World} (p : ByteArray) (v : Value) (ys : List Int) (h : Ds lo w0 d s n m) (hb : Below w0.heap.size w0 w) (hg : Gl w) (hlo : lo ≤ w0.heap.size) (hc0 : 0 ≤ s.count) (hc1 : s.count < 1000000) (hgl : 3 ≤ lo)
    (hr : Rd .u8 (fun b => w0.heap.size ≤ b ∨ b < lo) w v ys) (hA : AllB ys) (hy : ys.length ≤ 1000000000) (hu0 : -4398046511104 ≤ s.used) (hu1 : s.used ≤ 4398046511104) :
    Calls Tryz.prog 14 #[.pointer (some ⟨d, 0, none⟩), .string p, v] w fun e w' => e = .returned (.int .i64 (apE s p ys.length)) ∧ Ds lo w' d (apP s p ys) n m ∧ Below lo w w' := by
  have hd := h.ge
  obtain ⟨B, S, h1, rfl, h3, h4⟩ := h
  refine Calls.mono (append_any p v ys (h1.later hb) hg hc0 hc1 (by omega) (hr.weak (fun b _ hb' hB => by have := h4 b hB; omega)) hA hy hu0 hu1) (fun e w' hp => ?_)
  obtain ⟨h5, S', h6, h7, h8, h9⟩ := hp
  have := ds_of (w := w) (fun i hi => ⟨(h4 i hi).1, Nat.lt_of_lt_of_le (h4 i hi).2 hb.size⟩) (Nat.le_trans hlo hb.size) h6 h8 h7 (show S'.m ≤ m by omega)
  exact ⟨h5, this.1, this.2⟩
theorem sync_ds (p : ByteArray) (h : Ds lo w d s n m) (hg : Gl w) (hlo : lo ≤ w.heap.size) (hc0 : 0 ≤ s.count) (hc1 : s.count < 1000000) (hgl : 3 ≤ lo) :
    Calls Tryz.prog 19 #[.pointer (some ⟨d, 0, none⟩), .string p] w fun e w' => e = .returned (.int .i64 (opEP s [p] p)) ∧ Ds lo w' d (syP s p) n m ∧ Below lo w w' := by
  have hd := h.ge
  obtain ⟨B, S, h1, rfl, h3, h4⟩ := h
  refine Calls.mono (sync_any p h1 hg hc0 hc1 (by omega)) (fun e w' hp => ?_)
  obtain ⟨h5, S', h6, h7, h8, h9⟩ := hp
  have := ds_of h4 hlo h6 h8 h7 (show S'.m ≤ m by omega)
  exact ⟨h5, this.1, this.2⟩
theorem rename_ds (p q : ByteArray) (h : Ds lo w d s n m) (hg : Gl w) (hlo : lo ≤ w.heap.size) (hc0 : 0 ≤ s.count) (hc1 : s.count < 1000000) (hgl : 3 ≤ lo) (hn : n < 900000) (hm : m < 1000) (hu0 : -4398046511104 ≤ s.used) (hu1 : s.used ≤ 4398046511104) :
    Calls Tryz.prog 20 #[.pointer (some ⟨d, 0, none⟩), .string p, .string q] w fun e w' => e = .returned (.int .i64 (opEP s [p, q] p)) ∧ Ds lo w' d (rnP s p q) (n + 2) (m + 1) ∧ Below lo w w' := by
  have hd := h.ge
  obtain ⟨B, S, h1, rfl, h3, h4⟩ := h
  refine Calls.mono (rename_any p q h1 hg hc0 hc1 (by omega) hn (by omega) hu0 hu1) (fun e w' hp => ?_)
  obtain ⟨h5, S', h6, h7, h8, h9⟩ := hp
  have := ds_of h4 hlo h6 h8 h7 (show S'.m ≤ m + 1 by omega)
  exact ⟨h5, this.1, this.2⟩
theorem remove_ds (p : ByteArray) (h : Ds lo w d s n m) (hg : Gl w) (hlo : lo ≤ w.heap.size) (hc0 : 0 ≤ s.count) (hc1 : s.count < 1000000) (hgl : 3 ≤ lo) (hn : n < 900000) (hm : m < 1000) (hu0 : -4398046511104 ≤ s.used) (hu1 : s.used ≤ 4398046511104) :
    Calls Tryz.prog 21 #[.pointer (some ⟨d, 0, none⟩), .string p] w fun e w' => e = .returned (.int .i64 (opEP s [p] p)) ∧ Ds lo w' d (rmP s p) (n + 2) (m + 1) ∧ Below lo w w' := by
  have hd := h.ge
  obtain ⟨B, S, h1, rfl, h3, h4⟩ := h
  refine Calls.mono (remove_any p h1 hg hc0 hc1 (by omega) hn (by omega) hu0 hu1) (fun e w' hp => ?_)
  obtain ⟨h5, S', h6, h7, h8, h9⟩ := hp
  have := ds_of h4 hlo h6 h8 h7 (show S'.m ≤ m + 1 by omega)
  exact ⟨h5, this.1, this.2⟩
theorem syncDir_ds (p : ByteArray) (h : Ds lo w d s n m) (hg : Gl w) (hlo : lo ≤ w.heap.size) (hc0 : 0 ≤ s.count) (hc1 : s.count < 1000000) (hgl : 3 ≤ lo) (hn : n < 900000) (hm : m < 1000) (hp : p.size ≤ maxLen) :
    Calls Tryz.prog 22 #[.pointer (some ⟨d, 0, none⟩), .string p] w fun e w' => e = .returned (.int .i64 (bgEP s false [])) ∧ Ds lo w' d (sdP s p) (n + m) m ∧ Below lo w w' := by
  have hd := h.ge
  obtain ⟨B, S, h1, rfl, h3, h4⟩ := h
  refine Calls.mono (syncDir_any p h1 hg hc0 hc1 (by omega) hn (by omega) hp) (fun e w' hp => ?_)
  obtain ⟨h5, S', h6, h7, h8, h9⟩ := hp
  have := ds_of h4 hlo h6 h8 h7 (show S'.m ≤ m by omega)
  exact ⟨h5, this.1.weak (by omega) (Nat.le_refl _), this.2⟩
theorem off_ds (h : Ds lo w d s n m) : Calls Tryz.prog 33 #[.pointer (some ⟨d, 0, none⟩)] w fun e w' => e = .returned (.bool s.dark) ∧ w' = w := by
  obtain ⟨B, S, h1, rfl, h3, h4⟩ := h
  exact off_any h1
theorem count_ds (h : Ds lo w d s n m) : Calls Tryz.prog 36 #[.pointer (some ⟨d, 0, none⟩)] w fun e w' => e = .returned (.int .i64 s.count) ∧ w' = w := by
  obtain ⟨B, S, h1, rfl, h3, h4⟩ := h
  exact count_any h1
theorem plan_ds {w0 : World} (v : Value) (L : List Int) (o : Int) (h : Ds lo w0 d s n m) (hb : Below w0.heap.size w0 w) (hlo : lo ≤ w0.heap.size) (hr : Rd .i64 (fun b => w0.heap.size ≤ b ∨ b < lo) w v L) (hL : ∀ i ∈ L, I64 i) (hn : n + L.length ≤ 900000) :
    Calls Tryz.prog 7 #[.pointer (some ⟨d, 0, none⟩), v, .int .i64 o] w fun e w' => e = .returned (.tuple #[]) ∧ Ds lo w' d (plP s L o) (n + L.length) m ∧ Below lo w w' := by
  obtain ⟨B, S, h1, rfl, h3, h4⟩ := h
  refine Calls.mono (plan_any v L o (h1.later hb) (hr.weak (fun b _ hb' hB => by have := h4 b hB; omega)) hL hn) (fun e w' hp => ?_)
  obtain ⟨h5, S', h6, h7, h8, h9⟩ := hp
  have := ds_of (w := w) (fun i hi => ⟨(h4 i hi).1, Nat.lt_of_lt_of_le (h4 i hi).2 hb.size⟩) (Nat.le_trans hlo hb.size) h6 h8 h7 (show S'.m ≤ m by omega)
  exact ⟨h5, this.1, this.2⟩
theorem crash_ds (v : Value) (cs : List Int) (h : Ds lo w d s n m) (hr : Rd .u8 anyB w v cs) (hA : AllB cs) (hnf : n + n * m ≤ 900000) :
    Calls Tryz.prog 10 #[.pointer (some ⟨d, 0, none⟩), v] w fun e w' => ∃ d' s' ks ps, e = .returned (.tuple #[.pointer (some ⟨d', 0, none⟩), .int .i64 0]) ∧ Ds w.heap.size w' d' s' (n + n * m) 0 ∧ CrD s cs s' ks ps ∧ Ds lo w' d s n m ∧ Below w.heap.size w w' := by
  have h0 := h
  obtain ⟨B, S, h1, rfl, h3, h4⟩ := h
  have hmm : n * S.m ≤ n * m := Nat.mul_le_mul_left _ h3
  refine Calls.mono (crash_any v cs h1 hr hA (by omega)) (fun e w' hp => ?_)
  obtain ⟨d', S', n', ks, ps, B', h5, h6, h7, -, h9, h10, h11, h12⟩ := hp
  exact ⟨d', S'.ps, ks, ps, h5, ⟨_, S', h6.cut.weak (fun _ _ h => h) (by omega), rfl, by omega, fun i hi => ⟨h7 i hi.1, hi.2⟩⟩, h12, h0.later h9, h9⟩
theorem files_ds (h : Ds lo w d s n m) (hn : n ≤ 900000) :
    Calls Tryz.prog 15 #[.pointer (some ⟨d, 0, none⟩)] w fun e w' => ∃ v l, e = .returned (.tuple #[v, .int .i64 (rdyE s.dark)]) ∧ OwnF w' w.heap.size v l ∧ FlL s l ∧ Below w.heap.size w w' := by
  obtain ⟨B, S, h1, rfl, h3, h4⟩ := h
  exact files_any h1 hn
end
end Go.Proofs.YtegdadkejheagaaGreatDoor
