/-
  The document's reader in memory; bit, number, fail.
-/
import Derived.Test.YthbcloplhjmkkaaDoorR9
namespace Go.Proofs.YthbcloplhjmkkaaDoor
open Go.RowKit

/-- The document's block of bits: five cells. -/
def DB (w : World) (rb : Nat) (inV : Value) (at_ : Int) (outV : Value) (most e : Int) : Prop :=
  w.heap[rb]? = some (.cells #[inV, .int .i64 at_, outV, .int .i64 most, .int .i64 e] 40)
section
variable {w : World} {rb : Nat} {inV outV : Value} {at_ most e : Int}
theorem DB.lt (h : DB w rb inV at_ outV most e) : rb < w.heap.size := by
  rcases Nat.lt_or_ge rb w.heap.size with h' | h'
  · exact h'
  · unfold DB at h
    rw [Array.getElem?_eq_none h'] at h
    cases h
theorem DB.c0 (h : DB w rb inV at_ outV most e) : w.cell? ⟨rb, 0, none⟩ = some inV := by unfold DB at h; simp [World.cell?, h]
theorem DB.c1 (h : DB w rb inV at_ outV most e) : w.cell? ⟨rb, 1, none⟩ = some (.int .i64 at_) := by unfold DB at h; simp [World.cell?, h]
theorem DB.c2 (h : DB w rb inV at_ outV most e) : w.cell? ⟨rb, 2, none⟩ = some outV := by unfold DB at h; simp [World.cell?, h]
theorem DB.c3 (h : DB w rb inV at_ outV most e) : w.cell? ⟨rb, 3, none⟩ = some (.int .i64 most) := by unfold DB at h; simp [World.cell?, h]
theorem DB.c4 (h : DB w rb inV at_ outV most e) : w.cell? ⟨rb, 4, none⟩ = some (.int .i64 e) := by unfold DB at h; simp [World.cell?, h]
theorem DB.fz (h : DB w rb inV at_ outV most e) (i : Nat) : w.frozen? ⟨rb, i, none⟩ = false := by unfold DB at h; simp [World.frozen?, h]
theorem DB.s1 (h : DB w rb inV at_ outV most e) (n : Int) : DB (w.setCell ⟨rb, 1, none⟩ (.int .i64 n)) rb inV n outV most e := by
  unfold DB at h ⊢
  simp only [World.setCell, Array.getElem?_modify, h]
  simp
theorem DB.s2 (h : DB w rb inV at_ outV most e) (n : Value) : DB (w.setCell ⟨rb, 2, none⟩ n) rb inV at_ n most e := by
  unfold DB at h ⊢
  simp only [World.setCell, Array.getElem?_modify, h]
  simp
theorem DB.s4 (h : DB w rb inV at_ outV most e) (n : Int) : DB (w.setCell ⟨rb, 4, none⟩ (.int .i64 n)) rb inV at_ outV most n := by
  unfold DB at h ⊢
  simp only [World.setCell, Array.getElem?_modify, h]
  simp
theorem DB.far {w' : World} (h : DB w rb inV at_ outV most e) (hb : w'.heap[rb]? = w.heap[rb]?) : DB w' rb inV at_ outV most e := by
  unfold DB at h ⊢
  rw [hb]
  exact h
end

/-- The document's reader: t bits of p have been taken, out has been put out, E is what was met. -/
structure Bts (W0 w : World) (rb : Nat) (ob : Option Nat) (inV : Value) (p : List Int) (most : Nat) (out : List Int) (t : Nat) (E : Int) : Prop where
  blk : ∃ outV, DB w rb inV t outV most E ∧ Own .u8 5 w W0.heap.size outV out ∧ outV.ownBlock = ob
  tle : t ≤ 8 * p.length
  bel : Below W0.heap.size W0 w
  hb : W0.heap.size ≤ rb
  ho : ob ≠ some rb
  rd : Rd .u8 anyB W0 inV p
  ap : AllB p
  ao : AllB out
  lp : p.length ≤ 70368744177664
  hm : most ≤ 1048576
  lo : out.length ≤ most
section
variable {W0 w : World} {rb : Nat} {ob : Option Nat} {inV : Value} {p out : List Int} {most t : Nat} {E : Int}
theorem Bts.ob_ge (h : Bts W0 w rb ob inV p most out t E) : ∀ k, ob = some k → W0.heap.size ≤ k ∧ k < w.heap.size := by
  intro k hk
  obtain ⟨outV, _, own, hob⟩ := h.blk
  exact own.lt k (by rw [hob]; exact hk)
theorem Bts.rb_lt (h : Bts W0 w rb ob inV p most out t E) : rb < w.heap.size := by
  obtain ⟨_, hB, -⟩ := h.blk
  exact hB.lt
theorem Bts.keep {w' : World} (h : Bts W0 w rb ob inV p most out t E) (hrb : w'.heap[rb]? = w.heap[rb]?) (hob : ∀ k, ob = some k → w'.heap[k]? = w.heap[k]?) (hbel : Below W0.heap.size W0 w') : Bts W0 w' rb ob inV p most out t E := by
  obtain ⟨outV, hB, own, hobe⟩ := h.blk
  exact ⟨⟨outV, hB.far hrb, own.far fun g hg => hob g (by rw [← hobe]; exact hg), hobe⟩, h.tle, hbel, h.hb, h.ho, h.rd, h.ap, h.ao, h.lp, h.hm, h.lo⟩
theorem Bts.far {w' : World} (h : Bts W0 w rb ob inV p most out t E) (hf : Below w.heap.size w w') : Bts W0 w' rb ob inV p most out t E :=
  h.keep (hf.block _ h.rb_lt) (fun k hk => hf.block k (h.ob_ge k hk).2) (h.bel.trans (hf.mono h.bel.size))
theorem Bts.drewN (h : Bts W0 w rb ob inV p most out t E) (m : Nat) : Bts W0 (w.drewN m) rb ob inV p most out t E := h.keep rfl (fun _ _ => rfl) (below_drewN h.bel m)
/-- A store into the block of bits: the place, or what was met. -/
theorem Bts.at (h : Bts W0 w rb ob inV p most out t E) (t' : Nat) (ht : t' ≤ 8 * p.length) : Bts W0 (w.setCell ⟨rb, 1, none⟩ (.int .i64 t')) rb ob inV p most out t' E := by
  obtain ⟨outV, hB, own, hobe⟩ := h.blk
  exact ⟨⟨outV, hB.s1 _, own.far fun g hg => Below.heap_setCell _ _ _ _ (fun e => h.ho (by rw [← hobe, hg, e])), hobe⟩, ht, h.bel.setCell h.hb _, h.hb, h.ho, h.rd, h.ap, h.ao, h.lp, h.hm, h.lo⟩
theorem Bts.met (h : Bts W0 w rb ob inV p most out t E) (E' : Int) : Bts W0 (w.setCell ⟨rb, 4, none⟩ (.int .i64 E')) rb ob inV p most out t E' := by
  obtain ⟨outV, hB, own, hobe⟩ := h.blk
  exact ⟨⟨outV, hB.s4 _, own.far fun g hg => Below.heap_setCell _ _ _ _ (fun e => h.ho (by rw [← hobe, hg, e])), hobe⟩, h.tle, h.bel.setCell h.hb _, h.hb, h.ho, h.rd, h.ap, h.ao, h.lp, h.hm, h.lo⟩
end

set_option maxHeartbeats 1000000 in
set_option maxRecDepth 100000 in
/-- What was met stays; nothing more is taken. -/
theorem bit_off {W0 w : World} {rb : Nat} {ob : Option Nat} {inV : Value} {p out : List Int} {most t : Nat} {E : Int} (hE : E ≠ 0) (h : Bts W0 w rb ob inV p most out t E) :
    Calls Tryd.prog 17 #[.pointer (some ⟨rb, 0, none⟩)] w fun e w' => e = .returned (.int .i64 0) ∧ w' = w := by
  obtain ⟨outV, hB, -⟩ := h.blk
  have c4 := hB.c4
  have hE2 : ¬ E = 0 := hE
  clear h hB hE
  go_enter Tryd.func17, Tryd.ntmps17
  go_wp2
  go_ret
  exact ⟨rfl, rfl⟩

set_option maxHeartbeats 1000000 in
set_option maxRecDepth 100000 in
theorem bit_short {W0 w : World} {rb : Nat} {ob : Option Nat} {inV : Value} {p out : List Int} {most t : Nat} (ht : 8 * p.length ≤ t) (h : Bts W0 w rb ob inV p most out t 0) :
    Calls Tryd.prog 17 #[.pointer (some ⟨rb, 0, none⟩)] w fun e w' => e = .returned (.int .i64 0) ∧ Bts W0 w' rb ob inV p most out t 5 ∧ Fr rb ob w w' := by
  obtain ⟨outV, hB, -⟩ := h.blk
  obtain ⟨ia, ic, rfl, -, -, -⟩ := h.rd.form
  have hlp := h.lp
  have c0 := hB.c0
  have c1 := hB.c1
  have c4 := hB.c4
  have f4 := hB.fz 4
  have htl := h.tle
  have hge : 8 * (p.length : Int) ≤ (t : Int) := by omega
  have KH := Kept.mk h
  clear h hB
  go_enter Tryd.func17, Tryd.ntmps17
  go_wp2
  go_quiet (fail)
  go_wp2
  go_ret
  exact ⟨rfl, (KH.out.drewN _).met 5, ((Fr.refl rb ob w).drewN _).set 4 _⟩

theorem and_one_i64 (E : Int) (h0 : 0 ≤ E) (h1 : E ≤ 4611686018427387903) : bits .and .i64 E 1 = E % 2 := by
  have h := i64_and_nat E.toNat 1 (by omega) (by omega)
  rw [Int.toNat_of_nonneg h0] at h
  rw [show ((1 : Nat) : Int) = 1 from rfl] at h
  rw [h, Nat.and_one_is_mod]
  omega

set_option maxHeartbeats 1000000 in
set_option maxRecDepth 100000 in
theorem bit_on {W0 w : World} {rb : Nat} {ob : Option Nat} {inV : Value} {p out : List Int} {most t : Nat} (ht : t < 8 * p.length) (h : Bts W0 w rb ob inV p most out t 0) :
    Calls Tryd.prog 17 #[.pointer (some ⟨rb, 0, none⟩)] w fun e w' => e = .returned (.int .i64 (bitF p t)) ∧ Bts W0 w' rb ob inV p most out (t + 1) 0 ∧ Fr rb ob w w' := by
  obtain ⟨outV, hB, -⟩ := h.blk
  obtain ⟨ib, io, ic, rfl, hib, -, -, -, hcells⟩ := h.rd.open (by omega)
  have hlp := h.lp
  have c0 := hB.c0
  have c1 := hB.c1
  have c4 := hB.c4
  have f1 := hB.fz 1
  have ci : w.cell? ⟨ib, io + t / 8, none⟩ = some (.int .u8 (p.getD (t / 8) 0)) := by rw [h.bel.cell (p := ⟨ib, io + t / 8, none⟩) hib]; exact hcells _ (by omega)
  have hby := h.ap.getD (by omega) (t / 8)
  have KH := Kept.mk h
  have KE : Kept (bitF p t = p.getD (t / 8) 0 / 2 ^ (t % 8) % 2) := ⟨rfl⟩
  clear h hB hcells
  generalize p.getD (t / 8) 0 = y at *
  obtain ⟨a, ha⟩ : ∃ a, t / 8 = a := ⟨_, rfl⟩
  obtain ⟨b, hb⟩ : ∃ b, t % 8 = b := ⟨_, rfl⟩
  rw [ha] at ci
  rw [hb] at KE
  have hge : ¬ 8 * (p.length : Int) ≤ (t : Int) := by omega
  have hd1 : (t : Int) / 8 = (a : Int) := by omega
  have hd2 : (t : Int) % 8 = (b : Int) := by omega
  have hd3 : (t : Int).tdiv 8 = (a : Int) := by rw [Int.tdiv_eq_ediv_of_nonneg (by omega)]; exact hd1
  have hd4 : (t : Int).tmod 8 = (b : Int) := by rw [Int.tmod_eq_emod_of_nonneg (by omega)]; exact hd2
  have hal : a < p.length := by omega
  have hal2 : (a : Int) < (p.length : Int) := by omega
  have hb8 : b < 8 := by omega
  clear ha hb
  go_enter Tryd.func17, Tryd.ntmps17
  go_wp2
  go_quiet (fail)
  go_wp2
  go_quiet (fail)
  go_wp2
  have hz0 : 0 ≤ y / 2 ^ b := Int.ediv_nonneg hby.1 (Int.le_of_lt (Int.pow_pos (by omega)))
  have hz1 : y / 2 ^ b ≤ y := Int.ediv_le_self _ hby.1
  have hz : bits .and .i64 (wrap64 (y / 2 ^ b)) 1 = bitF p t := by
    rw [KE.out]
    generalize y / 2 ^ b = z at *
    rw [show wrap64 z = z by unfold wrap64; omega]
    exact and_one_i64 _ hz0 (by omega)
  rw [hz]
  go_ret
  exact ⟨rfl, (KH.out.drewN _).at (t + 1) (by omega), ((Fr.refl rb ob w).drewN _).set 1 _⟩
end Go.Proofs.YthbcloplhjmkkaaDoor
