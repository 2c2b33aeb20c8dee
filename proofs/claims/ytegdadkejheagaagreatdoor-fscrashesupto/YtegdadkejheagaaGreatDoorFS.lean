/-
  Walks: what a crash leaves of a file.
-/
import Derived.Test.YtegdadkejheagaaGreatDoorFR
import Derived.Lib.SliceRun
import Derived.Laws.OwnMore
import Derived.Laws.BitsAllLaws
namespace Go.Proofs.YtegdadkejheagaaGreatDoor
open Go.RowKit Go.WideMaps

set_option maxRecDepth 100000 in
/-- Bytes cut, whatever their address. -/
theorem sub_lh {pa : Option Addr} {pc : Nat} {L : List Int} {lo hi : Nat} (h1 : lo ≤ hi) (h2 : hi ≤ L.length) (h3 : L.length ≤ pc) : ∃ a c, (∀ W : World, (Instr.sliceAt 23 (.slice pa L.length pc) (some (.int .i64 lo)) (some (.int .i64 hi)) none).run Tryz.prog W = .ok (.slice a (hi - lo) c) W) ∧ ∀ (S : Nat → Prop) W, Rd .u8 S W (.slice pa L.length pc) L → Rd .u8 S W (.slice a (hi - lo) c) ((L.take hi).drop lo) := by
  refine ⟨if pc = lo then pa else pa.map (·.add lo), pc - lo, fun W => ?_, fun S W h => ?_⟩
  · have hs : (sizeOf (Tryz.prog.elem 23)).run Tryz.prog W = .ok 1 W := rfl
    rw [run_sliceAt_slice (P := Tryz.prog) W 23 _ _ _ _ Tryz.underlying23, run_slice_lh (P := Tryz.prog) W 23 pa L.length pc Tryz.underlying23 .i64 .i64 lo hi (by omega) (by omega) (by omega), hs]
    simp [sliced, Result.andThen]
  · have hlen : ((L.take hi).drop lo).length = hi - lo := by rw [List.length_drop, List.length_take]; omega
    by_cases h0 : 0 < hi - lo
    · obtain ⟨b, off, c, hv, hblt, hlc, hcm, hS, hc⟩ := h.open (by omega)
      injection hv with e1 _ e3
      subst e1 e3
      rw [if_neg (by omega)]
      refine ⟨some ⟨b, off + lo, none⟩, pc - lo, by rw [hlen]; simp [add_plain], by rw [hlen]; omega, by omega, (fun e => by cases e), fun _ => ⟨b, off + lo, rfl, hblt, hS, fun i hi' => ?_⟩⟩
      rw [hlen] at hi'
      rw [show off + lo + i = off + (lo + i) by omega, hc (lo + i) (by omega)]
      congr 2
      simp only [List.getD, List.getElem?_drop, List.getElem?_take]
      rw [if_pos (by omega)]
    · have hx : (L.take hi).drop lo = [] := List.eq_nil_of_length_eq_zero (by omega)
      obtain ⟨a0, c0, hv, hac, hlc, hcm⟩ := h.form
      injection hv with e1 _ e3
      subst e1 e3
      rw [hx, show hi - lo = 0 by omega]
      refine ⟨_, pc - lo, rfl, Nat.zero_le _, by omega, ?_, fun h => by simp at h⟩
      intro he
      by_cases hpl : pc = lo
      · omega
      · rw [if_neg hpl] at he
        cases pa with
        | none => have := hac rfl; omega
        | some x => simp at he
set_option maxRecDepth 100000 in
theorem sub_l {pa : Option Addr} {pc : Nat} {L : List Int} {lo : Nat} (h1 : lo ≤ L.length) (h3 : L.length ≤ pc) : ∃ a c, (∀ W : World, (Instr.sliceAt 23 (.slice pa L.length pc) (some (.int .i64 lo)) none none).run Tryz.prog W = .ok (.slice a (L.length - lo) c) W) ∧ ∀ (S : Nat → Prop) W, Rd .u8 S W (.slice pa L.length pc) L → Rd .u8 S W (.slice a (L.length - lo) c) (L.drop lo) := by
  obtain ⟨a, c, hr, hd⟩ := sub_lh (pa := pa) (pc := pc) (L := L) (lo := lo) (hi := L.length) h1 (Nat.le_refl _) h3
  refine ⟨a, c, fun W => ?_, fun S W h => ?_⟩
  · have h := hr W
    have hs : (sizeOf (Tryz.prog.elem 23)).run Tryz.prog W = .ok 1 W := rfl
    rw [run_sliceAt_slice (P := Tryz.prog) W 23 _ _ _ _ Tryz.underlying23, run_slice_lh (P := Tryz.prog) W 23 pa L.length pc Tryz.underlying23 .i64 .i64 lo L.length (by omega) (by omega) (by omega), hs] at h
    rw [run_sliceAt_slice (P := Tryz.prog) W 23 _ _ _ _ Tryz.underlying23, run_slice_l (P := Tryz.prog) W 23 pa L.length pc Tryz.underlying23 .i64 lo (by omega) (by omega), hs]
    rw [← h]
    simp [Result.andThen]
  · have h := hd S W h
    rwa [List.take_length] at h
set_option maxRecDepth 100000 in
theorem sub_h {pa : Option Addr} {pc : Nat} {L : List Int} {hi : Nat} (h2 : hi ≤ L.length) (h3 : L.length ≤ pc) : ∃ a c, (∀ W : World, (Instr.sliceAt 23 (.slice pa L.length pc) none (some (.int .i64 hi)) none).run Tryz.prog W = .ok (.slice a hi c) W) ∧ ∀ (S : Nat → Prop) W, Rd .u8 S W (.slice pa L.length pc) L → Rd .u8 S W (.slice a hi c) (L.take hi) := by
  obtain ⟨a, c, hr, hd⟩ := sub_lh (pa := pa) (pc := pc) (L := L) (lo := 0) (hi := hi) (Nat.zero_le _) h2 h3
  refine ⟨a, c, fun W => ?_, fun S W h => ?_⟩
  · have h := hr W
    have hs : (sizeOf (Tryz.prog.elem 23)).run Tryz.prog W = .ok 1 W := rfl
    rw [run_sliceAt_slice (P := Tryz.prog) W 23 _ _ _ _ Tryz.underlying23, run_slice_lh (P := Tryz.prog) W 23 pa L.length pc Tryz.underlying23 .i64 .i64 (0 : Nat) hi (by omega) (by omega) (by omega), hs] at h
    rw [run_sliceAt_slice (P := Tryz.prog) W 23 _ _ _ _ Tryz.underlying23, run_slice_h (P := Tryz.prog) W 23 pa L.length pc Tryz.underlying23 .i64 hi (by omega) (by omega), hs]
    rw [Nat.sub_zero] at h
    rw [← h]
    simp [Result.andThen]
  · have h := hd S W h
    rwa [List.drop_zero, Nat.sub_zero] at h
theorem Own.setq {k : IntKind} {e : TypeId} {w : World} {base g n c : Nat} {xs : List Int} (h : Own k e w base (.slice (some ⟨g, 0, none⟩) n c) xs) (j : Nat) (x : Int) : Own k e (w.setCell ⟨g, j, none⟩ (.int k x)) base (.slice (some ⟨g, 0, none⟩) n c) (xs.set j x) := by
  have hn : n = xs.length := by
    obtain ⟨a', c', hv, -⟩ := h.rd.form
    injection hv
  subst hn
  have := World.ownsRow.stored h j (.int k x)
  unfold Own
  rw [List.length_set]
  have e2 : cellsK k (xs.set j x) = (cellsK k xs).set j (.int k x) := by simp [cellsK, List.map_set]
  rw [e2]
  exact this.1

/-- A copy of any bytes. -/
theorem clone_rd {S : Nat → Prop} {w : World} {v : Value} {xs : List Int} (h : Rd .u8 S w v xs) (hl : xs.length ≤ 140737488355328) : Calls Tryz.prog 42 #[v] w fun e w' => ∃ v', e = .returned v' ∧ Own .u8 5 w' w.heap.size v' xs ∧ Below w.heap.size w w' := by
  obtain ⟨a, c, rfl, h1, h2, h3, h4⟩ := h
  cases a with
  | none =>
    have hc := h3 rfl
    subst hc
    have hx : xs = [] := List.eq_nil_of_length_eq_zero (by omega)
    subst hx
    refine Calls.mono (Tryz.bytes_Clone_nil 0 0 w) (fun e w' hp => ?_)
    obtain ⟨rfl, rfl⟩ := hp
    exact ⟨_, rfl, Own.nil _ _ _ _, Below.refl _ _⟩
  | some a =>
    refine Calls.mono (Tryz.bytes_Clone_at a xs.length c xs w rfl hl (fun i hi => ?_)) (fun e w' hp => ?_)
    · obtain ⟨b, off, ha, -, -, hc⟩ := h4 (by omega)
      injection ha with ha
      subst ha
      rw [add_plain]
      exact hc i hi
    · obtain ⟨v', rfl, h1, -, h3⟩ := hp
      exact ⟨v', rfl, h1, h3⟩
theorem Own.zeros {e : TypeId} {base g n c : Nat} : ∀ (k o : Nat) {w : World} {xs : List Int}, Own .u8 e w base (.slice (some ⟨g, 0, none⟩) n c) xs → o + k = xs.length → Own .u8 e (w.setCells g o (List.replicate k (.int .u8 0))) base (.slice (some ⟨g, 0, none⟩) n c) (xs.take o ++ List.replicate k 0)
  | 0, o, w, xs, h, he => by
    rw [List.replicate_zero, List.replicate_zero, List.append_nil, List.take_of_length_le (by omega)]
    exact h
  | k + 1, o, w, xs, h, he => by
    rw [List.replicate_succ]
    have h1 := Own.zeros k (o + 1) (h.setq o 0) (by rw [List.length_set]; omega)
    have e1 : (xs.set o 0).take (o + 1) = xs.take o ++ [0] := by
      apply List.ext_getElem
      · simp; omega
      · intro i h1 h2
        simp only [List.length_append, List.length_take, List.length_singleton] at h2
        rw [List.getElem_take]
        by_cases e : i = o
        · subst e
          rw [List.getElem_set_self, List.getElem_append_right (by simp; omega)]
          simp
        · rw [List.getElem_set_ne (by omega), List.getElem_append_left (by simp; omega), List.getElem_take]
    rw [e1, List.append_assoc] at h1
    exact h1
/-- How many of a file's bytes that are not synced are there behind a crash. -/
def rmK (xs : List Int) (s : Nat) (cs : List Int) (i : Nat) : Nat := (chs cs i).toNat % (xs.length - s + 1)
def rmL (xs : List Int) (s : Nat) (cs : List Int) (i : Nat) : List Int := if xs.length = s then xs else xs.take s ++ (if chs cs (i + 1) % 2 = 1 then List.replicate (rmK xs s cs i) 0 else (xs.drop s).take (rmK xs s cs i))
def rmN (xs : List Int) (s : Nat) (i : Nat) : Nat := if xs.length = s then i else i + 2
theorem FileAt.ne_ab {w : World} {B : Nat → Prop} {f : Nat} {c : FileC} (h : FileAt w B f c) {cb ab : Nat} {v : Value} {cs : List Int} {i : Nat} (hn : Nx w cb ab v cs i) : f ≠ ab ∧ ∀ g, c.v.ownBlock = some g → g ≠ ab :=
  ⟨type_ne h.blk hn.a (by decide), fun g hg => by
    obtain ⟨cur, hcur⟩ := ownsRow_blk h.own hg
    exact type_ne hcur hn.a (by decide)⟩
theorem FileAt.fx {w w' : World} {B : Nat → Prop} {f : Nat} {c : FileC} (h : FileAt w B f c) {cb ab : Nat} {v : Value} {cs : List Int} {i : Nat} (hn : Nx w cb ab v cs i) (hF : Fx (fun k => k = ab) w w') : FileAt w' B f c :=
  h.far (hF.block _ h.blk.lt (h.ne_ab hn).1) (fun g hg => hF.block _ (ownsRow_lt h.own hg) ((h.ne_ab hn).2 g hg)) (fun _ _ h => h)
theorem Nx.turn {w w' : World} {cb ab : Nat} {v : Value} {cs : List Int} {i j : Nat} (h : Nx w cb ab v cs i) (hF : Fx (fun k => k = ab) w w') (ha : Bk w' ab 3 [.int .i64 ((atF cs j : Nat) : Int)]) : Nx w' cb ab v cs j :=
  ⟨h.c.far (hF.block _ h.c.lt h.ne), ha, h.rd.far hF.size (fun b hb hn => ⟨hn, hF.block b hb hn⟩), h.all, h.ne⟩
theorem Fx.setCells (g : Nat) : ∀ (vs : List Value) (o : Nat) (w : World), Fx (fun k => k = g) w (w.setCells g o vs)
  | [], _, w => Fx.refl _ w
  | v :: vs, o, w => (Fx.setCell w g o v).trans (Fx.setCells g vs (o + 1) _) (fun _ _ h => h)
set_option maxRecDepth 100000 in
theorem cut_from (g L c k : Nat) (h1 : k ≤ L) (h3 : k < c) (W : World) : (Instr.sliceAt 23 (.slice (some ⟨g, 0, none⟩) L c) (some (.int .i64 k)) none none).run Tryz.prog W = .ok (.slice (some ⟨g, k, none⟩) (L - k) (c - k)) W := by
  have hs : (sizeOf (Tryz.prog.elem 23)).run Tryz.prog W = .ok 1 W := rfl
  rw [run_sliceAt_slice (P := Tryz.prog) W 23 _ _ _ _ Tryz.underlying23, run_slice_l (P := Tryz.prog) W 23 _ L c Tryz.underlying23 .i64 k (by omega) (by omega), hs]
  simp [sliced, Result.andThen, add_plain]
  omega
set_option maxRecDepth 100000 in
theorem zero_u8 (w : World) : (zeroValue 5).run Tryz.prog w = .ok (.int .u8 0) w := by kernel_rfl
set_option maxRecDepth 100000 in
set_option maxHeartbeats 2000000 in
theorem remains_any {w : World} {B : Nat → Prop} {f : Nat} {c : FileC} (h : FileAt w B f c) {cb ab : Nat} {v : Value} {cs : List Int} {i : Nat} (hn : Nx w cb ab v cs i) :
    Calls Tryz.prog 27 #[.pointer (some ⟨f, 0, none⟩), nextV cb ab] w fun e w' => ∃ v', e = .returned v' ∧ Own .u8 5 w' w.heap.size v' (rmL c.xs c.s cs i) ∧ Nx w' cb ab v cs (rmN c.xs c.s i) ∧ Fx (fun k => k = ab) w w' := by
  have KF := Kept.mk h
  have KN := Kept.mk hn
  have hle := h.le
  have hbig := h.big
  have k0a := h.blk.cell 0 _ rfl
  have k1 := h.blk.cell 1 _ rfl
  obtain ⟨av, cv, hv⟩ := own_form h.own
  have KV := Kept.mk hv
  have k0 : w.cell? ⟨f, 0, none⟩ = some (.slice av c.xs.length cv) := by rw [← hv]; exact k0a
  obtain ⟨L, hL⟩ : ∃ L, c.xs.length = L := ⟨_, rfl⟩
  obtain ⟨s, hs⟩ : ∃ s, c.s = s := ⟨_, rfl⟩
  have KL := Kept.mk hL
  have KS := Kept.mk hs
  rw [hL] at hle hbig k0
  rw [hs] at hle k1
  have e1 : IntKind.i64.wrap ((L : Int) - (s : Int)) = (L : Int) - (s : Int) := wr64 (by omega) (by omega)
  clear h hn k0a hv hL hs
  unfold nextV
  go_enter Tryz.func27, Tryz.ntmps27
  go_upto_region 1 with fail
  by_cases h0 : L = s
  · have hb0 : ((L : Int) - (s : Int) == 0) = true := beq_iff_eq.2 (by omega)
    have KE : Kept (rmL c.xs c.s cs i = c.xs ∧ rmN c.xs c.s i = i) := ⟨by
      unfold rmL rmN
      have e : c.xs.length = c.s := by rw [KL.out, KS.out]; exact h0
      exact ⟨if_pos e, if_pos e⟩⟩
    clear h0
    go_quiet (fail)
    obtain ⟨w1, hw1⟩ : ∃ w1, w.drewN nq = w1 := ⟨_, rfl⟩
    rw [hw1]
    have hb1 : Below w.heap.size w w1 := hw1 ▸ below_drewN (Below.refl _ _) nq
    have KB1 := Kept.mk hb1
    have hF1 := KF.out.far (w' := w1) (hb1.block _ KF.out.blk.lt) (fun g hg => hb1.block _ (ownsRow_lt KF.out.own hg)) (fun _ _ h => h)
    have g0 := hF1.blk.cell 0 _ rfl
    rw [KV.out, KL.out] at g0
    have KCl := Kept.mk (clone_rd hF1.own.rd (by have := hF1.big; omega))
    rw [KV.out, KL.out] at KCl
    clear hw1 hb1 hF1 k0 k1
    go_wp2_with fail
    refine Calls.mono KCl.out (fun x w2 hp => ?_)
    obtain ⟨v', rfl, ho, hb2⟩ := hp
    have KO := Kept.mk ho
    have KB2 := Kept.mk hb2
    clear ho hb2 KCl
    go_wp2
    go_ret
    exact ⟨_, rfl, by rw [KE.out.1]; exact KO.out.mono KB1.out.size, by rw [KE.out.2]; exact (KN.out.later KB1.out).later KB2.out, Fx.ofBelow (KB1.out.trans (KB2.out.mono KB1.out.size)) (Nat.le_refl _)⟩
  · have hb0 : ((L : Int) - (s : Int) == 0) = false := beq_eq_false_iff_ne.2 (by omega)
    have KE : Kept (rmL c.xs c.s cs i = c.xs.take s ++ (if chs cs (i + 1) % 2 = 1 then List.replicate (rmK c.xs c.s cs i) 0 else (c.xs.drop s).take (rmK c.xs c.s cs i)) ∧ rmN c.xs c.s i = i + 2) := ⟨by
      unfold rmL rmN
      have e : ¬ c.xs.length = c.s := by rw [KL.out, KS.out]; exact h0
      rw [← KS.out]
      exact ⟨if_neg e, if_neg e⟩⟩
    have hlt : s < L := by omega
    obtain ⟨k, hk⟩ : ∃ k, rmK c.xs c.s cs i = k := ⟨_, rfl⟩
    have hx := chs_nn KN.out.all i
    have hk2 : (chs cs i).toNat % (L - s + 1) = k := by rw [← hk, ← KL.out, ← KS.out]; rfl
    obtain ⟨x, hxe⟩ : ∃ x, chs cs i = x := ⟨_, rfl⟩
    rw [hxe] at hx hk2
    rw [hk] at KE
    obtain ⟨D, hD⟩ : ∃ D : Int, (L : Int) - (s : Int) = D := ⟨_, rfl⟩
    have hkl : k ≤ L - s := by have := Nat.mod_lt x.toNat (show 0 < L - s + 1 by omega); omega
    obtain ⟨E, hE⟩ : ∃ E : Int, D + 1 = E := ⟨_, rfl⟩
    have e2 : IntKind.i64.wrap (D + 1) = E := by rw [← hE]; exact wr64 (by omega) (by omega)
    have e3 : x % E = (k : Int) := by
      rw [← hk2, ← hE, ← hD]
      push_cast
      rw [Int.toNat_of_nonneg hx.1, Int.ofNat_sub (by omega)]
    have e4 : x.tmod E = (k : Int) := by rw [Int.tmod_eq_emod_of_nonneg hx.1]; exact e3
    have e5 : ¬ E = 0 := by omega
    have hrem : ∀ W : World, (binOp .rem 3 (.int .i64 x) (.int .i64 E)).run Tryz.prog W = .ok (.int .i64 (k : Int)) W := fun W => by
      simp [binOp, Op.intDiv, e5, e4]
    have e6 : IntKind.i64.wrap (k : Int) = (k : Int) := wr64 (by omega) (by omega)
    obtain ⟨m, hm⟩ : ∃ m, s + k = m := ⟨_, rfl⟩
    have e7 : IntKind.i64.wrap ((s : Int) + (k : Int)) = (m : Int) := by rw [← hm]; push_cast; exact wr64 (by omega) (by omega)
    have hbD : (D == 0) = false := by rw [← hD]; exact hb0
    have e1D : IntKind.i64.wrap ((L : Int) - (s : Int)) = D := by rw [← hD]; exact e1
    clear e1 hb0
    have KNx : Kept (∀ W, CC w W → Calls Tryz.prog 50 #[.pointer (some ⟨cb, 0, none⟩), .pointer (some ⟨ab, 0, none⟩)] W fun e w' => e = .returned (.int .i64 x) ∧ Nx w' cb ab v cs (i + 1) ∧ Fx (fun k => k = ab) W w') := ⟨fun W hW => by rw [← hxe]; exact next_any (KN.out.later hW)⟩
    have Kc : Kept (∀ W, CC w W → W.cell? ⟨f, 0, none⟩ = some (.slice av L cv) ∧ W.cell? ⟨f, 1, none⟩ = some (.int .i64 (s : Int)) ∧ FileAt W B f c) := ⟨fun W hW => by
      have hF1 := KF.out.far (w' := W) (Below.block hW _ KF.out.blk.lt) (fun g hg => Below.block hW _ (ownsRow_lt KF.out.own hg)) (fun _ _ h => h)
      have g0 := hF1.blk.cell 0 _ rfl
      have g1 := hF1.blk.cell 1 _ rfl
      rw [KV.out, KL.out] at g0
      rw [KS.out] at g1
      exact ⟨g0, g1, hF1⟩⟩
    have KM := Kept.mk hm
    have KkL := Kept.mk hkl
    have Kx := Kept.mk hxe
    clear h0 hk hk2 hx hxe hkl hm hE hD
    go_quiet (fail)
    obtain ⟨w1, hw1⟩ : ∃ w1, w.drewN nq = w1 := ⟨_, rfl⟩
    rw [hw1]
    have hb1 : CC w w1 := hw1 ▸ below_drewN (Below.refl _ _) nq
    have KB1 := Kept.mk hb1
    clear hw1 hb1 k0 k1
    go_upto_region 4 with fail
    have hcap : c.xs.length ≤ cv := by
      obtain ⟨a0, c0, hv0, -, h2, -⟩ := KF.out.own.rd.form
      rw [KV.out] at hv0
      injection hv0 with _ _ h3
      omega
    obtain ⟨a', c', hsl, hrd⟩ := sub_h (pa := av) (pc := cv) (L := c.xs) (hi := m) (by have := KM.out; have := KkL.out; have := KL.out; omega) hcap
    rw [KL.out] at hsl
    have KRd : Kept (∀ W, FileAt W B f c → Rd .u8 (fun b => c.v.ownBlock = some b) W (.slice a' m c') (c.xs.take m)) := ⟨fun W hW => hrd _ W (by have h := hW.own.rd; rw [KV.out] at h; rw [KV.out]; exact h)⟩
    have Ktl : Kept ((c.xs.take m).length ≤ 140737488355328) := ⟨by rw [List.length_take]; have := KL.out; omega⟩
    clear hcap hrd
    have KBd : Kept (CC w w1.drew) := ⟨Below.drew KB1.out⟩
    go_region_held3 (fun W => W.cell? ⟨f, 0, none⟩ = some (.slice av L cv) ∧ W.cell? ⟨f, 1, none⟩ = some (.int .i64 (s : Int))) (first | exact ⟨by assumption, by assumption⟩ | exact ⟨(Kc.out _ KBd.out).1, (Kc.out _ KBd.out).2.1⟩) (first | (go_at_call 50; refine Calls.mono (KNx.out _ KBd.out) (fun e w2 hp => ?_); obtain ⟨rfl, hN2, hF2⟩ := hp; have hfl := FileAt.fx (Kc.out _ KBd.out).2.2 (KN.out.later KBd.out) hF2; have d0 := hfl.blk.cell 0 _ rfl; have d1 := hfl.blk.cell 1 _ rfl; rw [KV.out, KL.out] at d0; rw [KS.out] at d1; have KN2 := Kept.mk hN2; have KFx2 : Kept (Fx (fun k => k = ab) w w2) := ⟨(Fx.ofBelow (S := fun k => k = ab) KBd.out (Nat.le_refl _)).trans hF2 (fun _ _ h => h)⟩; have KFl2 := Kept.mk hfl; have KCl := Kept.mk (clone_rd (KRd.out w2 hfl) Ktl.out); clear hN2 hF2 hfl) | (go_at_call 42; refine Calls.mono KCl.out (fun e w3 hp => ?_); obtain ⟨v3, rfl, ho3, hb3⟩ := hp; have KO3 := Kept.mk ho3; have KB3 := Kept.mk hb3; have hfl3 := KFl2.out.far (w' := w3) (Below.block hb3 _ KFl2.out.blk.lt) (fun g hg => Below.block hb3 _ (ownsRow_lt KFl2.out.own hg)) (fun _ _ h => h); have d0 := hfl3.blk.cell 0 _ rfl; have d1 := hfl3.blk.cell 1 _ rfl; rw [KV.out, KL.out] at d0; rw [KS.out] at d1; have KFl3 := Kept.mk hfl3; clear ho3 hb3 hfl3))
    obtain ⟨a3, c3, hv3⟩ := own_form KO3.out
    have hm3 : (c.xs.take m).length = m := by rw [List.length_take]; have := KM.out; have := KkL.out; have := KL.out; omega
    rw [hm3] at hv3
    subst hv3
    have KN3 := Kept.mk (KN2.out.later KB3.out)
    have KNy := Kept.mk (next_any KN3.out)
    have hy := chs_nn KN.out.all (i + 1)
    obtain ⟨y, hye⟩ : ∃ y, chs cs (i + 1) = y := ⟨_, rfl⟩
    rw [hye] at KNy KE hy
    have KF3 : Kept (Fx (fun k => k = ab) w w3) := ⟨KFx2.out.trans (Fx.ofBelow (S := fun _ => False) KB3.out (Nat.le_refl _)) (fun _ _ h => h.elim)⟩
    have Km3 := Kept.mk hm3
    clear hm3 hye d0 d1 hsl KCl KNx Kc KRd
    go_wp2_with fail
    refine Calls.mono KNy.out (fun e w4 hp => ?_)
    obtain ⟨rfl, hN4, hF4⟩ := hp
    have KN4 := Kept.mk hN4
    have KF4 : Kept (Fx (fun k => k = ab) w w4) := ⟨KF3.out.trans hF4 (fun _ _ h => h)⟩
    have hab : ∀ g, (Value.slice a3 m c3).ownBlock = some g → g ≠ ab := fun g hg e => by
      have h1 := (KO3.out.lt g hg).1
      have h2 := KN2.out.a.lt
      omega
    have KO4 : Kept (Own .u8 5 w4 w2.heap.size (.slice a3 m c3) (c.xs.take m)) := ⟨KO3.out.far (fun g hg => hF4.block g (KO3.out.lt g hg).2 (hab g hg))⟩
    have hfl4 := KFl3.out.fx KN3.out hF4
    have d1 := hfl4.blk.cell 1 _ rfl
    rw [KS.out] at d1
    have hw2s := KFx2.out.size
    by_cases hodd : y % 2 = 1
    · have h2 : y.tmod 2 = 1 := by rw [Int.tmod_eq_emod_of_nonneg hy.1]; exact hodd
      have KE2 : Kept (rmL c.xs c.s cs i = c.xs.take s ++ List.replicate k 0) := ⟨by rw [KE.out.1, if_pos hodd]⟩
      clear hodd
      by_cases hk0 : k = 0
      · subst hk0
        obtain rfl : s = m := KM.out
        obtain ⟨a5, c5, hsl, -⟩ := sub_l (pa := a3) (pc := c3) (L := c.xs.take s) (lo := s) (by have := Km3.out; omega) (by
          obtain ⟨a0, c0, hv0, -, hq, -⟩ := KO4.out.rd.form
          injection hv0 with _ _ h3
          omega)
        rw [Km3.out, Nat.sub_self] at hsl
        have hcl : ∀ (W : World) (ty : TypeId), (Builtin.clear_ #[23] ty #[.slice a5 0 c5]).run Tryz.prog W = .ok (.tuple #[]) W := fun W ty => by
          cases a5 <;> simp [Builtin.clear_, run_underlying Tryz.underlying23, Result.andThen]
        go_wp2
        go_ret
        exact ⟨_, rfl, by rw [KE2.out, List.replicate_zero, List.append_nil]; exact KO4.out.mono hw2s, by rw [KE.out.2]; exact KN4.out, KF4.out⟩
      · obtain ⟨g, rfl⟩ : ∃ g, a3 = some ⟨g, 0, none⟩ := by
          rcases KO4.out.2 with ⟨h1, h2⟩ | ⟨g, cap, cur, h1, -⟩
          · have := KM.out; have := Km3.out; omega
          · injection h1 with h1; exact ⟨g, h1⟩
        have hcapm : m ≤ c3 := by
          obtain ⟨a0, c0, hv0, -, hq, -⟩ := KO4.out.rd.form
          injection hv0 with _ _ h3
          have := Km3.out
          omega
        have hms : m - s = k := by have := KM.out; omega
        have hsl := cut_from g m c3 s (by have := KM.out; omega) (by have := KM.out; omega)
        rw [hms] at hsl
        have hcl : ∀ ty : TypeId, (Builtin.clear_ #[23] ty #[.slice (some ⟨g, s, none⟩) k (c3 - s)]).run Tryz.prog w4 = .ok (.tuple #[]) (w4.setCells g s (List.replicate k (.int .u8 0))) := fun ty => by
          refine Lib.run_clear_slice w4 _ _ ty _ Tryz.underlying23 zero_u8 rfl rfl g s k (c3 - s) (by omega) (fun j hj => ?_) (fun j hj => ?_)
          · have := World.ownsRow.cells KO4.out (g := g) rfl (s + j) (.int .u8 ((c.xs.take m).getD (s + j) 0)) (by
              have hlt : s + j < (c.xs.take m).length := by rw [Km3.out]; have := KM.out; omega
              unfold cellsK
              rw [List.getElem?_map, List.getElem?_eq_getElem hlt]
              simp [List.getD, List.getElem?_eq_getElem hlt])
            rw [add_plain, Nat.zero_add] at this
            rw [this]
            rfl
          · obtain ⟨cur, hcur⟩ := ownsRow_blk KO4.out (g := g) rfl
            simp [World.frozen?, hcur]
        obtain ⟨w5, hw5⟩ : ∃ w5, w4.setCells g s (List.replicate k (.int .u8 0)) = w5 := ⟨_, rfl⟩
        rw [hw5] at hcl
        have hgl := (KO4.out.lt g rfl)
        have hgn := hab g rfl
        have hF5 : Fx (fun i => i = g) w4 w5 := by rw [← hw5]; exact Fx.setCells g _ _ _
        have KO5 : Kept (Own .u8 5 w5 w2.heap.size (.slice (some ⟨g, 0, none⟩) m c3) (c.xs.take s ++ List.replicate k 0)) := ⟨by
          have h := Own.zeros k s KO4.out (by rw [Km3.out]; exact KM.out)
          rw [hw5] at h
          rw [List.take_take, Nat.min_eq_left (by have := KM.out; omega)] at h
          exact h⟩
        have hwl := KN.out.a.lt
        have KF5 : Kept (Fx (fun k => k = ab) w w5) := ⟨KF4.out.trans hF5 (fun i hi e => by omega)⟩
        have KN5 : Kept (Nx w5 cb ab v cs (i + 2)) := ⟨KN.out.turn KF5.out (KN4.out.a.far (hF5.block _ KN4.out.a.lt (fun e => hgn e.symm)))⟩
        clear hw5 hgl hgn hF5 hwl hcapm hms
        go_wp2
        go_ret
        exact ⟨_, rfl, by rw [KE2.out]; exact KO5.out.mono hw2s, by rw [KE.out.2]; exact KN5.out, KF5.out⟩
    · have h2 : y.tmod 2 = 0 := by rw [Int.tmod_eq_emod_of_nonneg hy.1]; omega
      have KE2 : Kept (rmL c.xs c.s cs i = c.xs.take m) := ⟨by
        rw [KE.out.1, if_neg hodd, ← KM.out, ← List.take_add]⟩
      clear hodd
      go_wp2
      go_ret
      exact ⟨_, rfl, by rw [KE2.out]; exact KO4.out.mono hw2s, by rw [KE.out.2]; exact KN4.out, KF4.out⟩
end Go.Proofs.YtegdadkejheagaaGreatDoor
