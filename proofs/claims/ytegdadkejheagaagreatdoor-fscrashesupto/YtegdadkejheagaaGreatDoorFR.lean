/-
  Walks: the choices of a crash.
-/
import Derived.Test.YtegdadkejheagaaGreatDoorFQ
namespace Go.Proofs.YtegdadkejheagaaGreatDoor
open Go.RowKit Go.WideMaps

/-- The choice of a number, over and over from the front. -/
def atF (cs : List Int) (i : Nat) : Nat := if cs.length = 0 then 0 else i % cs.length
def chs (cs : List Int) (i : Nat) : Int := cs.getD (atF cs i) 0
/-- The choices of a crash in memory, i of them used. -/
structure Nx (w : World) (cb ab : Nat) (v : Value) (cs : List Int) (i : Nat) : Prop where
  c : Bk w cb 23 [v]
  a : Bk w ab 3 [.int .i64 ((atF cs i : Nat) : Int)]
  rd : Rd .u8 (fun b => b ≠ ab) w v cs
  all : AllB cs
  ne : cb ≠ ab
theorem Nx.later {w w' : World} {cb ab : Nat} {v : Value} {cs : List Int} {i : Nat} (h : Nx w cb ab v cs i) (hb : Below w.heap.size w w') : Nx w' cb ab v cs i :=
  ⟨h.c.far (hb.block _ h.c.lt), h.a.far (hb.block _ h.a.lt), h.rd.far hb.size (fun b hl hn => ⟨hn, hb.block b hl⟩), h.all, h.ne⟩
theorem chs_nn {cs : List Int} (h : AllB cs) (i : Nat) : 0 ≤ chs cs i ∧ chs cs i < 256 := h.getD (by omega) _
theorem atF_zero (cs : List Int) : atF cs 0 = 0 := by
  unfold atF
  split <;> simp
theorem atF_lt {cs : List Int} (h : 0 < cs.length) (i : Nat) : atF cs i < cs.length := by
  unfold atF
  rw [if_neg (by omega)]
  exact Nat.mod_lt _ h
theorem atF_succ {cs : List Int} (h : 0 < cs.length) (i : Nat) : atF cs (i + 1) = (atF cs i + 1) % cs.length := by
  unfold atF
  rw [if_neg (by omega), if_neg (by omega), Nat.mod_add_mod]
def nextV (cb ab : Nat) : Value := .func (.func 50) #[] #[.pointer (some ⟨cb, 0, none⟩), .pointer (some ⟨ab, 0, none⟩)]
set_option maxRecDepth 100000 in
set_option maxHeartbeats 1000000 in
theorem chooser_any (v : Value) (cs : List Int) (w : World) (hr : Rd .u8 anyB w v cs) (hA : AllB cs) : Calls Tryz.prog 23 #[v] w fun e w' => e = .returned (nextV w.heap.size (w.heap.size + 1)) ∧ Nx w' w.heap.size (w.heap.size + 1) v cs 0 ∧ Below w.heap.size w w' := by
  obtain ⟨w1, hw1⟩ : ∃ w1, w.alloc (.cells #[v] 23) = w1 := ⟨_, rfl⟩
  have hk1 : Bk w1 w.heap.size 23 [v] := by rw [← hw1]; exact Bk.new w _ _
  have hs1 : w1.heap.size = w.heap.size + 1 := by rw [← hw1]; simp
  have hb1 : Below w.heap.size w w1 := by rw [← hw1]; exact (Below.refl _ _).alloc (Nat.le_refl _) _
  obtain ⟨w2, hw2⟩ : ∃ w2, w1.alloc (.cells #[.int .i64 0] 3) = w2 := ⟨_, rfl⟩
  have hk2 : Bk w2 (w.heap.size + 1) 3 [.int .i64 0] := by rw [← hw2, ← hs1]; exact Bk.new w1 _ _
  have hb2 : Below w1.heap.size w1 w2 := by rw [← hw2]; exact (Below.refl _ _).alloc (Nat.le_refl _) _
  have hb12 : Below w.heap.size w w2 := hb1.trans (hb2.mono hb1.size)
  obtain ⟨w3, hw3⟩ : ∃ w3, w2.setCell ⟨w.heap.size + 1, 0, none⟩ (.int .i64 0) = w3 := ⟨_, rfl⟩
  have hk3 : Bk w3 (w.heap.size + 1) 3 [.int .i64 0] := by rw [← hw3]; exact hk2.set 0 _
  have hb13 : Below w.heap.size w w3 := by rw [← hw3]; exact hb12.trans ((Fx.setCell w2 (w.heap.size + 1) 0 _).below hb12.size (fun i hi e => by omega))
  have hk13 : Bk w3 w.heap.size 23 [v] := by rw [← hw3]; exact (hk1.far (hb2.block _ hk1.lt)).far (Below.heap_setCell _ _ _ _ (show w.heap.size ≠ w.heap.size + 1 by omega))
  have KN : Kept (Nx w3 w.heap.size (w.heap.size + 1) v cs 0) := ⟨⟨hk13, by rw [atF_zero]; exact hk3, hr.far hb13.size (fun b hl _ => ⟨by omega, hb13.block b hl⟩), hA, by omega⟩⟩
  have KB := Kept.mk hb13
  have k2 := hk2.cell 0 _ rfl
  have f2 := hk2.frozen 0
  obtain ⟨a, c, rfl, -⟩ := hr
  clear hk1 hb1 hk2 hb2 hb12 hA hk3 hb13 hk13
  go_enter Tryz.func23, Tryz.ntmps23
  go_wp2
  go_ret
  exact ⟨rfl, KN.out, KB.out⟩
set_option maxRecDepth 100000 in
set_option maxHeartbeats 1000000 in
theorem next_any {w : World} {cb ab : Nat} {v : Value} {cs : List Int} {i : Nat} (h : Nx w cb ab v cs i) : Calls Tryz.prog 50 #[.pointer (some ⟨cb, 0, none⟩), .pointer (some ⟨ab, 0, none⟩)] w fun e w' => e = .returned (.int .i64 (chs cs i)) ∧ Nx w' cb ab v cs (i + 1) ∧ Fx (fun k => k = ab) w w' := by
  have c0 := h.c.cell 0 _ rfl
  have a0 := h.a.cell 0 _ rfl
  have fa := h.a.frozen 0
  have KN := Kept.mk h
  obtain ⟨sa, cap, rfl, hsc, hcm, -, hrd⟩ := h.rd
  have hle : cs.length ≤ maxLen := Nat.le_trans hsc hcm
  unfold maxLen at hle
  clear h
  by_cases h0 : cs.length = 0
  · have KE : Kept (chs cs i = 0) := ⟨by unfold chs; rw [List.eq_nil_of_length_eq_zero h0]; rfl⟩
    have KN2 : Kept (Nx w cb ab (.slice sa cs.length cap) cs (i + 1)) := ⟨{ KN.out with a := (by
      have hx := KN.out.a
      have e : ∀ j, atF cs j = 0 := fun j => by unfold atF; rw [if_pos h0]
      rw [e] at hx ⊢
      exact hx) }⟩
    rw [h0] at c0
    clear KN hsc hcm hrd a0 fa h0
    go_enter Tryz.func50, Tryz.ntmps50
    go_wp2
    go_ret
    exact ⟨by rw [KE.out]; rfl, KN2.out, Fx.refl _ _⟩
  · have hp : 0 < cs.length := by omega
    have hlt := atF_lt hp i
    have KSu := Kept.mk (atF_succ hp i)
    obtain ⟨b, off, rfl, hbl, hne, hcell⟩ := hrd hp
    have ck := hcell (atF cs i) hlt
    have hx := chs_nn KN.out.all i
    obtain ⟨x, hxe⟩ : ∃ x, chs cs i = x := ⟨_, rfl⟩
    have hxe2 : cs.getD (atF cs i) 0 = x := hxe
    have KE : Kept (chs cs i = x) := ⟨hxe⟩
    rw [hxe] at hx
    rw [hxe2] at ck
    obtain ⟨k, hk⟩ : ∃ k, atF cs i = k := ⟨_, rfl⟩
    obtain ⟨m, hm⟩ : ∃ m, atF cs (i + 1) = m := ⟨_, rfl⟩
    have hmk : (k + 1) % cs.length = m := by rw [← hk, ← hm]; exact KSu.out.symm
    have Kset : Kept (Nx (w.setCell ⟨ab, 0, none⟩ (.int .i64 (m : Int))) cb ab (.slice (some ⟨b, off, none⟩) cs.length cap) cs (i + 1)) := ⟨by
      refine ⟨KN.out.c.far (Below.heap_setCell _ _ _ _ KN.out.ne), by rw [hm]; exact KN.out.a.set 0 _, KN.out.rd.far (by simp [World.setCell]) (fun b' hl hn => ⟨hn, Below.heap_setCell _ _ _ _ hn⟩), KN.out.all, KN.out.ne⟩⟩
    rw [hk] at ck a0 hlt
    have hcl : (cs.length : Int) ≤ 9223372036854775807 := by omega
    have hk1 : (k : Int) < (cs.length : Int) := by omega
    have e1 : IntKind.i64.wrap ((k : Int) + 1) = (k : Int) + 1 := wr64 (by omega) (by omega)
    have e2 : ((k : Int) + 1) % (cs.length : Int) = (m : Int) := by rw [← hmk]; push_cast; rfl
    have e3 : ((k : Int) + 1).tmod (cs.length : Int) = (m : Int) := by rw [Int.tmod_eq_emod_of_nonneg (show (0 : Int) ≤ (k : Int) + 1 by omega)]; exact e2
    have hmlt : m < cs.length := by rw [← hmk]; exact Nat.mod_lt _ hp
    have e4 : IntKind.i64.wrap (m : Int) = (m : Int) := wr64 (by omega) (by omega)
    have e5 : IntKind.i64.wrap x = x := wr64 (by omega) (by omega)
    have hne0 : ((cs.length : Int) == 0) = false := beq_eq_false_iff_ne.2 (by omega)
    clear hmk hm hk hxe hxe2 hx hsc hcm hrd hcell KSu hp hmlt h0 hne hbl
    go_enter Tryz.func50, Tryz.ntmps50
    go_wp2
    go_ret
    exact ⟨by rw [KE.out]; rfl, Kset.out, Fx.setCell _ _ _ _⟩
end Go.Proofs.YtegdadkejheagaaGreatDoor
