/-
  The document's reader in memory; bit, number, fail.
-/
import Derived.Test.YtjijkcmbbccfmaaDoorR9
namespace Go.Proofs.YtjijkcmbbccfmaaDoor
open Go.RowKit

/-- The document's block of bits: five cells. -/
def DB (w : World) (rb : Nat) (inV : Value) (at_ : Int) (outV : Value) (most e : Int) : Prop :=
  w.heap[rb]? = some (.cells #[inV, .int .i64 at_, outV, .int .i64 most, .int .i64 e] 45)
section
variable {w : World} {rb : Nat} {inV outV : Value} {at_ most e : Int}
theorem DB.lt (h : DB w rb inV at_ outV most e) : rb < w.heap.size := by
  rcases Nat.lt_or_ge rb w.heap.size with h' | h'
  · exact h'
  · unfold DB at h
    rw [Array.getElem?_eq_none h'] at h
    cases h
theorem DB.c0 (h : DB w rb inV at_ outV most e) : w.cell? ⟨rb, 0, none⟩ = some inV := by unfold DB at h; simp [World.cell?, h]
theorem DB.c1 (h : DB w rb inV at_ outV most e) : w.cell? ⟨rb, 1, none⟩ = some (.int .i64 at_) := by unfold DB at h; simp [World.cell?, h]
theorem DB.c2 (h : DB w rb inV at_ outV most e) : w.cell? ⟨rb, 2, none⟩ = some outV := by unfold DB at h; simp [World.cell?, h]
theorem DB.c3 (h : DB w rb inV at_ outV most e) : w.cell? ⟨rb, 3, none⟩ = some (.int .i64 most) := by unfold DB at h; simp [World.cell?, h]
theorem DB.c4 (h : DB w rb inV at_ outV most e) : w.cell? ⟨rb, 4, none⟩ = some (.int .i64 e) := by unfold DB at h; simp [World.cell?, h]
theorem DB.fz (h : DB w rb inV at_ outV most e) (i : Nat) : w.frozen? ⟨rb, i, none⟩ = false := by unfold DB at h; simp [World.frozen?, h]
theorem DB.s1 (h : DB w rb inV at_ outV most e) (n : Int) : DB (w.setCell ⟨rb, 1, none⟩ (.int .i64 n)) rb inV n outV most e := by
  unfold DB at h ⊢
  simp only [World.setCell, Array.getElem?_modify, h]
  simp
theorem DB.s2 (h : DB w rb inV at_ outV most e) (n : Value) : DB (w.setCell ⟨rb, 2, none⟩ n) rb inV at_ n most e := by
  unfold DB at h ⊢
  simp only [World.setCell, Array.getElem?_modify, h]
  simp
theorem DB.s4 (h : DB w rb inV at_ outV most e) (n : Int) : DB (w.setCell ⟨rb, 4, none⟩ (.int .i64 n)) rb inV at_ outV most n := by
  unfold DB at h ⊢
  simp only [World.setCell, Array.getElem?_modify, h]
  simp
theorem DB.far {w' : World} (h : DB w rb inV at_ outV most e) (hb : w'.heap[rb]? = w.heap[rb]?) : DB w' rb inV at_ outV most e := by
  unfold DB at h ⊢
  rw [hb]
  exact h
end

/-- The document's reader: t bits of p have been taken, out has been put out, E is what was met. -/
structure Bts (W0 w : World) (rb : Nat) (ob : Option Nat) (inV : Value) (p : List Int) (most : Nat) (out : List Int) (t : Nat) (E : Int) : Prop where
  blk : ∃ outV, DB w rb inV t outV most E ∧ Own .u8 5 w W0.heap.size outV out ∧ outV.ownBlock = ob
  tle : t ≤ 8 * p.length
  bel : Below W0.heap.size W0 w
  hb : W0.heap.size ≤ rb
  ho : ob ≠ some rb
  rd : Rd .u8 anyB W0 inV p
  ap : AllB p
  ao : AllB out
  lp : p.length ≤ 70368744177664
  hm : most ≤ 1048576
  lo : out.length ≤ most
section
variable {W0 w : World} {rb : Nat} {ob : Option Nat} {inV : Value} {p out : List Int} {most t : Nat} {E : Int}
theorem Bts.ob_ge (h : Bts W0 w rb ob inV p most out t E) : ∀ k, ob = some k → W0.heap.size ≤ k ∧ k < w.heap.size := by
  intro k hk
  obtain ⟨outV, _, own, hob⟩ := h.blk
  exact own.lt k (by rw [hob]; exact hk)
theorem Bts.rb_lt (h : Bts W0 w rb ob inV p most out t E) : rb < w.heap.size := by
  obtain ⟨_, hB, -⟩ := h.blk
  exact hB.lt
theorem Bts.keep {w' : World} (h : Bts W0 w rb ob inV p most out t E) (hrb : w'.heap[rb]? = w.heap[rb]?) (hob : ∀ k, ob = some k → w'.heap[k]? = w.heap[k]?) (hbel : Below W0.heap.size W0 w') : Bts W0 w' rb ob inV p most out t E := by
  obtain ⟨outV, hB, own, hobe⟩ := h.blk
  exact ⟨⟨outV, hB.far hrb, own.far fun g hg => hob g (by rw [← hobe]; exact hg), hobe⟩, h.tle, hbel, h.hb, h.ho, h.rd, h.ap, h.ao, h.lp, h.hm, h.lo⟩
theorem Bts.far {w' : World} (h : Bts W0 w rb ob inV p most out t E) (hf : Below w.heap.size w w') : Bts W0 w' rb ob inV p most out t E :=
  h.keep (hf.block _ h.rb_lt) (fun k hk => hf.block k (h.ob_ge k hk).2) (h.bel.trans (hf.mono h.bel.size))
theorem Bts.drewN (h : Bts W0 w rb ob inV p most out t E) (m : Nat) : Bts W0 (w.drewN m) rb ob inV p most out t E := h.keep rfl (fun _ _ => rfl) (below_drewN h.bel m)
/-- A store into the block of bits: the place, or what was met. -/
theorem Bts.at (h : Bts W0 w rb ob inV p most out t E) (t' : Nat) (ht : t' ≤ 8 * p.length) : Bts W0 (w.setCell ⟨rb, 1, none⟩ (.int .i64 t')) rb ob inV p most out t' E := by
  obtain ⟨outV, hB, own, hobe⟩ := h.blk
  exact ⟨⟨outV, hB.s1 _, own.far fun g hg => Below.heap_setCell _ _ _ _ (fun e => h.ho (by rw [← hobe, hg, e])), hobe⟩, ht, h.bel.setCell h.hb _, h.hb, h.ho, h.rd, h.ap, h.ao, h.lp, h.hm, h.lo⟩
theorem Bts.met (h : Bts W0 w rb ob inV p most out t E) (E' : Int) : Bts W0 (w.setCell ⟨rb, 4, none⟩ (.int .i64 E')) rb ob inV p most out t E' := by
  obtain ⟨outV, hB, own, hobe⟩ := h.blk
  exact ⟨⟨outV, hB.s4 _, own.far fun g hg => Below.heap_setCell _ _ _ _ (fun e => h.ho (by rw [← hobe, hg, e])), hobe⟩, h.tle, h.bel.setCell h.hb _, h.hb, h.ho, h.rd, h.ap, h.ao, h.lp, h.hm, h.lo⟩
end

set_option maxHeartbeats 1000000 in
set_option maxRecDepth 100000 in
/-- What was met stays; nothing more is taken. -/
theorem bit_off {W0 w : World} {rb : Nat} {ob : Option Nat} {inV : Value} {p out : List Int} {most t : Nat} {E : Int} (hE : E ≠ 0) (h : Bts W0 w rb ob inV p most out t E) :
    Calls Tryd.prog 26 #[.pointer (some ⟨rb, 0, none⟩)] w fun e w' => e = .returned (.int .i64 0) ∧ w' = w := by
  obtain ⟨outV, hB, -⟩ := h.blk
  have c4 := hB.c4
  have hE2 : ¬ E = 0 := hE
  clear h hB hE
  go_enter Tryd.func26, Tryd.ntmps26
  go_wp2
  go_ret
  exact ⟨rfl, rfl⟩

set_option maxHeartbeats 1000000 in
set_option maxRecDepth 100000 in
theorem bit_short {W0 w : World} {rb : Nat} {ob : Option Nat} {inV : Value} {p out : List Int} {most t : Nat} (ht : 8 * p.length ≤ t) (h : Bts W0 w rb ob inV p most out t 0) :
    Calls Tryd.prog 26 #[.pointer (some ⟨rb, 0, none⟩)] w fun e w' => e = .returned (.int .i64 0) ∧ Bts W0 w' rb ob inV p most out t 5 ∧ Fr rb ob w w' := by
  obtain ⟨outV, hB, -⟩ := h.blk
  obtain ⟨ia, ic, rfl, -, -, -⟩ := h.rd.form
  have hlp := h.lp
  have c0 := hB.c0
  have c1 := hB.c1
  have c4 := hB.c4
  have f4 := hB.fz 4
  have htl := h.tle
  have hge : 8 * (p.length : Int) ≤ (t : Int) := by omega
  have KH := Kept.mk h
  clear h hB
  go_enter Tryd.func26, Tryd.ntmps26
  go_wp2
  go_quiet (fail)
  go_wp2
  go_ret
  exact ⟨rfl, (KH.out.drewN _).met 5, ((Fr.refl rb ob w).drewN _).set 4 _⟩

theorem and_one_i64 (E : Int) (h0 : 0 ≤ E) (h1 : E ≤ 4611686018427387903) : bits .and .i64 E 1 = E % 2 := by
  have h := i64_and_nat E.toNat 1 (by omega) (by omega)
  rw [Int.toNat_of_nonneg h0] at h
  rw [show ((1 : Nat) : Int) = 1 from rfl] at h
  rw [h, Nat.and_one_is_mod]
  omega

set_option maxHeartbeats 1000000 in
set_option maxRecDepth 100000 in
theorem bit_on {W0 w : World} {rb : Nat} {ob : Option Nat} {inV : Value} {p out : List Int} {most t : Nat} (ht : t < 8 * p.length) (h : Bts W0 w rb ob inV p most out t 0) :
    Calls Tryd.prog 26 #[.pointer (some ⟨rb, 0, none⟩)] w fun e w' => e = .returned (.int .i64 (bitF p t)) ∧ Bts W0 w' rb ob inV p most out (t + 1) 0 ∧ Fr rb ob w w' := by
  obtain ⟨outV, hB, -⟩ := h.blk
  obtain ⟨ib, io, ic, rfl, hib, -, -, -, hcells⟩ := h.rd.open (by omega)
  have hlp := h.lp
  have c0 := hB.c0
  have c1 := hB.c1
  have c4 := hB.c4
  have f1 := hB.fz 1
  have ci : w.cell? ⟨ib, io + t / 8, none⟩ = some (.int .u8 (p.getD (t / 8) 0)) := by rw [h.bel.cell (p := ⟨ib, io + t / 8, none⟩) hib]; exact hcells _ (by omega)
  have hby := h.ap.getD (by omega) (t / 8)
  have KH := Kept.mk h
  have KE : Kept (bitF p t = p.getD (t / 8) 0 / 2 ^ (t % 8) % 2) := ⟨rfl⟩
  clear h hB hcells
  generalize p.getD (t / 8) 0 = y at *
  obtain ⟨a, ha⟩ : ∃ a, t / 8 = a := ⟨_, rfl⟩
  obtain ⟨b, hb⟩ : ∃ b, t % 8 = b := ⟨_, rfl⟩
  rw [ha] at ci
  rw [hb] at KE
  have hge : ¬ 8 * (p.length : Int) ≤ (t : Int) := by omega
  have hd1 : (t : Int) / 8 = (a : Int) := by omega
  have hd2 : (t : Int) % 8 = (b : Int) := by omega
  have hd3 : (t : Int).tdiv 8 = (a : Int) := by rw [Int.tdiv_eq_ediv_of_nonneg (by omega)]; exact hd1
  have hd4 : (t : Int).tmod 8 = (b : Int) := by rw [Int.tmod_eq_emod_of_nonneg (by omega)]; exact hd2
  have hal : a < p.length := by omega
  have hal2 : (a : Int) < (p.length : Int) := by omega
  have hb8 : b < 8 := by omega
  clear ha hb
  go_enter Tryd.func26, Tryd.ntmps26
  go_wp2
  go_quiet (fail)
  go_wp2
  go_quiet (fail)
  go_wp2
  have hz0 : 0 ≤ y / 2 ^ b := Int.ediv_nonneg hby.1 (Int.le_of_lt (Int.pow_pos (by omega)))
  have hz1 : y / 2 ^ b ≤ y := Int.ediv_le_self _ hby.1
  have hz : bits .and .i64 (wrap64 (y / 2 ^ b)) 1 = bitF p t := by
    rw [KE.out]
    generalize y / 2 ^ b = z at *
    rw [show wrap64 z = z by unfold wrap64; omega]
    exact and_one_i64 _ hz0 (by omega)
  rw [hz]
  go_ret
  exact ⟨rfl, (KH.out.drewN _).at (t + 1) (by omega), ((Fr.refl rb ob w).drewN _).set 1 _⟩

open Go.RowKit

/-- A bit: its value, the place behind, what was met. -/
def dbit (p : List Int) (t : Nat) (E : Int) : Int × Nat × Int :=
  if E ≠ 0 then (0, t, E) else if t < 8 * p.length then (bitF p t, t + 1, 0) else (0, t, 5)
/-- A number of n bits. -/
def dnum (p : List Int) (t : Nat) (E : Int) : Nat → Int × Nat × Int
  | 0 => (0, t, E)
  | n + 1 => ((dnum p t E n).1 + (dbit p (dnum p t E n).2.1 (dnum p t E n).2.2).1 * 2 ^ n, (dbit p (dnum p t E n).2.1 (dnum p t E n).2.2).2)
theorem dbit_range (p : List Int) (t : Nat) (E : Int) : 0 ≤ (dbit p t E).1 ∧ (dbit p t E).1 ≤ 1 := by
  unfold dbit
  have h := bitF_range p t
  repeat' split
  all_goals first | exact h | simp
theorem dnum_range (p : List Int) (t : Nat) (E : Int) : ∀ n, 0 ≤ (dnum p t E n).1 ∧ (dnum p t E n).1 < 2 ^ n
  | 0 => by simp [dnum]
  | n + 1 => by
    have h := dnum_range p t E n
    have b := dbit_range p (dnum p t E n).2.1 (dnum p t E n).2.2
    rw [dnum, Int.pow_succ]
    generalize (dbit p (dnum p t E n).2.1 (dnum p t E n).2.2).1 = y at *
    generalize (dnum p t E n).1 = x at *
    generalize (2 : Int) ^ n = z at *
    have hy : y = 0 ∨ y = 1 := by omega
    rcases hy with rfl | rfl <;> simp <;> omega
/-- Once something was met nothing is taken. -/
theorem dnum_off (p : List Int) (t : Nat) (E : Int) (hE : E ≠ 0) : ∀ n, dnum p t E n = (0, t, E)
  | 0 => rfl
  | n + 1 => by
    rw [dnum, dnum_off p t E hE n]
    simp [dbit, hE]
/-- As long as there are bits. -/
theorem dnum_on (p : List Int) (t : Nat) : ∀ n, t + n ≤ 8 * p.length → dnum p t 0 n = (valF p t n, t + n, 0)
  | 0, _ => rfl
  | n + 1, h => by
    rw [dnum, dnum_on p t n (by omega), valF_add p 1 n t]
    have ht : t + n < 8 * p.length := by omega
    simp [dbit, ht, valF, Nat.add_assoc, Int.mul_comm]
/-- And where there are none. -/
theorem dnum_short (p : List Int) (t : Nat) (ht : t ≤ 8 * p.length) : ∀ n, 8 * p.length < t + n → (dnum p t 0 n).2 = (8 * p.length, 5)
  | 0, h => by omega
  | n + 1, h => by
    rcases Nat.lt_or_ge (8 * p.length) (t + n) with h1 | h1
    · rw [dnum, dnum_short p t ht n h1]
      simp [dbit]
    · rw [dnum, dnum_on p t n h1]
      have : t + n = 8 * p.length := by omega
      simp [dbit, this]

theorem dbit_any {W0 w : World} {rb : Nat} {ob : Option Nat} {inV : Value} {p out : List Int} {most t : Nat} {E : Int} (h : Bts W0 w rb ob inV p most out t E) :
    Calls Tryd.prog 26 #[.pointer (some ⟨rb, 0, none⟩)] w fun e w' => e = .returned (.int .i64 (dbit p t E).1) ∧ Bts W0 w' rb ob inV p most out (dbit p t E).2.1 (dbit p t E).2.2 ∧ Fr rb ob w w' := by
  by_cases hE : E = 0
  · subst hE
    by_cases ht : t < 8 * p.length
    · have e : dbit p t 0 = (bitF p t, t + 1, 0) := by simp [dbit, ht]
      rw [e]
      exact bit_on ht h
    · have e : dbit p t 0 = (0, t, 5) := by simp [dbit, ht]
      rw [e]
      exact bit_short (Nat.le_of_not_lt ht) h
  · have e : dbit p t E = (0, t, E) := by simp [dbit, hE]
    rw [e]
    refine Calls.mono (bit_off hE h) (fun e w' hp => ?_)
    obtain ⟨rfl, rfl⟩ := hp
    exact ⟨rfl, h, Fr.refl _ _ _⟩

theorem two_pow_le16 (k : Nat) (h : k ≤ 16) : (2 : Int) ^ k ≤ 65536 := by
  have : (2 : Nat) ^ k ≤ 2 ^ 16 := Nat.pow_le_pow_right (by omega) h
  have h2 : ((2 ^ k : Nat) : Int) ≤ 65536 := by omega
  rw [Int.natCast_pow] at h2
  exact h2

set_option maxHeartbeats 1000000 in
set_option maxRecDepth 100000 in
theorem dnumber_any {W0 w : World} {rb : Nat} {ob : Option Nat} {inV : Value} {p out : List Int} {most t : Nat} {E : Int} (n : Nat) (hn : n ≤ 16) (h : Bts W0 w rb ob inV p most out t E) :
    Calls Tryd.prog 27 #[.pointer (some ⟨rb, 0, none⟩), .int .i64 n] w fun e w' => e = .returned (.int .i64 (dnum p t E n).1) ∧ Bts W0 w' rb ob inV p most out (dnum p t E n).2.1 (dnum p t E n).2.2 ∧ Fr rb ob w w' := by
  have KH := Kept.mk h
  clear h
  go_enter Tryd.func27, Tryd.ntmps27
  go_wp2
  go_loopw [5, 6] (fun s5 s6 wr => ∃ (k : Nat) (v : Int), k ≤ n ∧ s5 = .int .i64 v ∧ s6 = .int .i64 k ∧ v = (dnum p t E k).1 ∧ Bts W0 wr rb ob inV p most out (dnum p t E k).2.1 (dnum p t E k).2.2 ∧ Fr rb ob w wr) (fun _ s6 _ => n - (intOf s6).toNat)
  case atStart => exact ⟨0, 0, by omega, rfl, rfl, rfl, KH.out, Fr.refl _ _ _⟩
  case round =>
    obtain ⟨k, v, hk, rfl, rfl, hv, hR, hF⟩ := hrel
    have hvr := dnum_range p t E k
    rw [← hv] at hvr
    have hpk : (2 : Int) ^ k ≤ 65536 := two_pow_le16 k (by omega)
    have KR := Kept.mk hR
    have KF := Kept.mk hF
    have KV := Kept.mk hv
    clear hR hF hv
    by_cases hlt : k < n
    · have hbr := dbit_range p (dnum p t E k).2.1 (dnum p t E k).2.2
      have hbit := dbit_any KR.out
      have hs : (dnum p t E (k + 1)).1 = (dnum p t E k).1 + (dbit p (dnum p t E k).2.1 (dnum p t E k).2.2).1 * 2 ^ k := rfl
      have hs2 : (dnum p t E (k + 1)).2 = (dbit p (dnum p t E k).2.1 (dnum p t E k).2.2).2 := rfl
      rw [← hs2] at hbit
      rw [← KV.out] at hs
      generalize (dbit p (dnum p t E k).2.1 (dnum p t E k).2.2).1 = y at *
      have KB := Kept.mk hbit
      have KS := Kept.mk hs
      clear hbit hs hs2
      have hy : 0 ≤ y * 2 ^ k ∧ y * 2 ^ k ≤ 65536 := by
        have : y = 0 ∨ y = 1 := by omega
        rcases this with rfl | rfl
        · simp
        · have : (0 : Int) < 2 ^ k := Int.pow_pos (by omega)
          omega
      go_wp2_with (go_at_call 26; refine Calls.mono KB.out (fun e w1 hp => ?_); obtain ⟨rfl, hR1, hF1⟩ := hp; have KR1 := Kept.mk hR1; have KF1 := Kept.mk hF1; clear hR1 hF1)
      go_roundw
      case rel => exact ⟨k + 1, v + y * 2 ^ k, by omega, rfl, by go_num, KS.out.symm, KR1.out, KF.out.trans KF1.out⟩
      case measure => simp [intOf]; omega
    · have : k = n := by omega
      subst this
      go_wp2
      go_ret
      exact ⟨by rw [KV.out]; rfl, KR.out, KF.out⟩

set_option maxHeartbeats 1000000 in
set_option maxRecDepth 100000 in
/-- No form, if nothing was met before. -/
theorem dfail_any {W0 w : World} {rb : Nat} {ob : Option Nat} {inV : Value} {p out : List Int} {most t : Nat} {E : Int} (h : Bts W0 w rb ob inV p most out t E) :
    Calls Tryd.prog 32 #[.pointer (some ⟨rb, 0, none⟩)] w fun e w' => e = .returned (.tuple #[]) ∧ Bts W0 w' rb ob inV p most out t (if E = 0 then 4 else E) ∧ Fr rb ob w w' := by
  obtain ⟨outV, hB, -⟩ := h.blk
  have c4 := hB.c4
  have f4 := hB.fz 4
  have KH := Kept.mk h
  clear h hB
  by_cases hE : E = 0
  · subst hE
    go_enter Tryd.func32, Tryd.ntmps32
    go_wp2
    refine bodyPost_end (results_none rfl _ _ _) rfl ?_
    exact ⟨rfl, KH.out.met 4, (Fr.refl rb ob w).set 4 _⟩
  · go_enter Tryd.func32, Tryd.ntmps32
    go_wp2
    refine bodyPost_end (results_none rfl _ _ _) rfl ?_
    exact ⟨rfl, KH.out, Fr.refl _ _ _⟩

open Go.RowKit

/-- A byte put out: what is out, what was met. -/
def dput (most : Nat) (b : Int) (out : List Int) (E : Int) : List Int × Int :=
  if E ≠ 0 then (out, E) else if most ≤ out.length then (out, 10) else (out ++ [b], 0)

set_option maxHeartbeats 1000000 in
set_option maxRecDepth 100000 in
theorem dput_any {W0 w : World} {rb : Nat} {ob : Option Nat} {inV : Value} {p out : List Int} {most t : Nat} {E : Int} (b : Int) (hb0 : 0 ≤ b) (hb1 : b < 256) (h : Bts W0 w rb ob inV p most out t E) :
    Calls Tryd.prog 53 #[.pointer (some ⟨rb, 0, none⟩), .int .u8 b] w fun e w' => e = .returned (.tuple #[]) ∧ ∃ ob', Bts W0 w' rb ob' inV p most (dput most b out E).1 t (dput most b out E).2 ∧ Mv rb ob ob' w w' := by
  obtain ⟨i0, z0, hi, hz, hs, hb, hc⟩ := info8
  obtain ⟨outV, hB, own, hob⟩ := h.blk
  obtain ⟨oa, oc, rfl, -, hlc, hcm⟩ := own.rd.form
  have c2 := hB.c2
  have c3 := hB.c3
  have c4 := hB.c4
  have f2 := hB.fz 2
  have f4 := hB.fz 4
  have hm := h.hm
  have hlo := h.lo
  have hlt := hB.lt
  have hrb := h.hb
  have hwz := h.bel.size
  have KH := Kept.mk h
  have KO := Kept.mk own
  have KB := Kept.mk hob
  have KR := Kept.mk hB
  clear h own hob hB hcm
  by_cases hE : E = 0
  · subst hE
    by_cases hfull : most ≤ out.length
    · have KE : Kept (dput most b out 0 = (out, 10)) := ⟨by simp [dput, hfull]⟩
      have hge : most = out.length := by omega
      subst hge
      clear hfull
      go_enter Tryd.func53, Tryd.ntmps53
      go_wp2
      go_quiet (fail)
      go_wp2
      refine bodyPost_ret (results_none rfl _ _ _) rfl ?_
      rw [KE.out]
      exact ⟨rfl, ob, (KH.out.drewN _).met 10, (((Fr.refl rb ob w).drewN _).set 4 _).mv⟩
    · have KE : Kept (dput most b out 0 = (out ++ [b], 0)) := ⟨by simp [dput, hfull]⟩
      have hge : ¬ (out.length : Int) = (most : Int) := by omega
      have hge2 : ((out.length : Int) == (most : Int)) = false := by simp only [beq_eq_false_iff_ne]; exact hge
      go_enter Tryd.func53, Tryd.ntmps53
      go_wp2
      go_quiet (fail)
      have hrd := Kept.mk (Rd.one .u8 (w.drewN nq) b 5)
      have how : Kept (Own .u8 5 ((w.drewN nq).alloc (.cells #[.int .u8 b] 5)) W0.heap.size (.slice oa out.length oc) out) := ⟨Own.alloc (w := w.drewN nq) KO.out _⟩
      have hgo : ∀ (w1 : World), ((w.drewN nq).alloc (.cells #[.int .u8 b] 5)).grownBy w1 (Value.slice oa out.length oc).ownBlock → DB w1 rb inV t (.slice oa out.length oc) most 0 ∧ Fr rb ob w w1 := by
        intro w1 hg
        constructor
        · refine KR.out.far ?_
          rw [hg.block rb (by simp; omega) (fun e => KH.out.ho (by rw [← KB.out, ← e]))]
          exact Below.heap_alloc (w.drewN nq) _ rb hlt
        · refine (((Fr.refl rb ob w).drewN nq).alloc (.cells #[.int .u8 b] 5)).trans ⟨hg.os, hg.tape, hg.output, hg.size, fun k hk _ h2 => hg.block k hk (by rw [KB.out]; exact h2)⟩
      have KG := Kept.mk hgo
      clear hgo
      go_wp2_with (at_builtin; refine wpList_append_rd _ rfl _ _ 22 rfl .u8 anyB 1 W0.heap.size 5 i0 z0 Tryd.underlying22 hi hz hs hb hc (by omega) (.slice oa out.length oc) out rfl how.out _ [b] rfl hrd.out (by simp; omega) (by simp; omega) ?_; intro v' w1 hown hgrow hat; obtain ⟨na, nc, rfl, -, hl2, hcm2⟩ := hown.rd.form; obtain ⟨hR1, hF1⟩ := KG.out w1 hgrow; have c41 := hR1.c2; have f41 := hR1.fz 2; have KR1 := Kept.mk hR1; have KF1 := Kept.mk hF1; have KO1 := Kept.mk hown; have KA := Kept.mk hat; clear hR1 hF1 hown hgrow hat hl2 hcm2)
      refine bodyPost_end (results_none rfl _ _ _) rfl ?_
      rw [KE.out]
      simp only [List.length_append, List.length_singleton] at KA KO1
      have ho2 : (Value.slice na (out.length + 1) nc).ownBlock ≠ some rb := by
        rcases KA.out with e | e
        · rw [e, KB.out]; exact KH.out.ho
        · rw [e]; simp; omega
      refine ⟨rfl, (Value.slice na (out.length + 1) nc).ownBlock, ⟨⟨.slice na (out.length + 1) nc, KR1.out.s2 _, ?_, rfl⟩, KH.out.tle, ?_, KH.out.hb, ho2, KH.out.rd, KH.out.ap, KH.out.ao.append (AllIn.one hb0 hb1), KH.out.lp, KH.out.hm, by simp; omega⟩, (KF1.out.set 2 _), ?_⟩
      · exact KO1.out.far fun g hg => Below.heap_setCell _ _ _ _ (fun e => ho2 (by rw [hg, e]))
      · exact (KF1.out.set 2 _).below KH.out.bel KH.out.hb (fun k hk => (KH.out.ob_ge k hk).1) KH.out.bel.size
      · rcases KA.out with e | e
        · exact Or.inl (by rw [e, KB.out])
        · exact Or.inr ⟨_, e, by simp⟩
  · have KE : Kept (dput most b out E = (out, E)) := ⟨by simp [dput, hE]⟩
    go_enter Tryd.func53, Tryd.ntmps53
    go_wp2
    refine bodyPost_ret (results_none rfl _ _ _) rfl ?_
    rw [KE.out]
    exact ⟨rfl, ob, KH.out, Mv.refl _ _ _⟩
end Go.Proofs.YtjijkcmbbccfmaaDoor
