/-
  Walks: the document's take and place.
-/
import Derived.Test.YtkidoknklgoffaaDW2
namespace Go.Proofs.Ytkidoknklgoffaa
open Go.RowKit

/-- The document's delta under way, in memory. -/
def TB (w : World) (tb : Nat) (dV : Value) (at_ : Int) (outV : Value) (E : Int) : Prop :=
  w.heap[tb]? = some (.cells #[dV, .int .i64 at_, outV, .int .i64 E] 47)
section
variable {w : World} {tb : Nat} {dV outV : Value} {at_ E : Int}
theorem TB.lt (h : TB w tb dV at_ outV E) : tb < w.heap.size := by
  rcases Nat.lt_or_ge tb w.heap.size with h' | h'
  · exact h'
  · unfold TB at h
    rw [Array.getElem?_eq_none h'] at h
    cases h
theorem TB.c0 (h : TB w tb dV at_ outV E) : w.cell? ⟨tb, 0, none⟩ = some dV := by unfold TB at h; simp [World.cell?, h]
theorem TB.c1 (h : TB w tb dV at_ outV E) : w.cell? ⟨tb, 1, none⟩ = some (.int .i64 at_) := by unfold TB at h; simp [World.cell?, h]
theorem TB.c2 (h : TB w tb dV at_ outV E) : w.cell? ⟨tb, 2, none⟩ = some outV := by unfold TB at h; simp [World.cell?, h]
theorem TB.c3 (h : TB w tb dV at_ outV E) : w.cell? ⟨tb, 3, none⟩ = some (.int .i64 E) := by unfold TB at h; simp [World.cell?, h]
theorem TB.fz (h : TB w tb dV at_ outV E) (i : Nat) : w.frozen? ⟨tb, i, none⟩ = false := by unfold TB at h; simp [World.frozen?, h]
theorem TB.s1 (h : TB w tb dV at_ outV E) (n : Int) : TB (w.setCell ⟨tb, 1, none⟩ (.int .i64 n)) tb dV n outV E := by
  unfold TB at h ⊢
  simp only [World.setCell, Array.getElem?_modify, h]
  simp
theorem TB.s2 (h : TB w tb dV at_ outV E) (v : Value) : TB (w.setCell ⟨tb, 2, none⟩ v) tb dV at_ v E := by
  unfold TB at h ⊢
  simp only [World.setCell, Array.getElem?_modify, h]
  simp
theorem TB.s3 (h : TB w tb dV at_ outV E) (n : Int) : TB (w.setCell ⟨tb, 3, none⟩ (.int .i64 n)) tb dV at_ outV n := by
  unfold TB at h ⊢
  simp only [World.setCell, Array.getElem?_modify, h]
  simp
theorem TB.far {w' : World} (h : TB w tb dV at_ outV E) (hb : w'.heap[tb]? = w.heap[tb]?) : TB w' tb dV at_ outV E := by
  unfold TB at h ⊢
  rw [hb]
  exact h
end

/-- No block but this one has turned. -/
structure F1 (tb : Nat) (w w' : World) : Prop where
  os : w'.os = w.os
  tape : w'.tape = w.tape
  output : w'.output = w.output
  size : w.heap.size ≤ w'.heap.size
  block : ∀ k, k < w.heap.size → k ≠ tb → w'.heap[k]? = w.heap[k]?
section
variable {tb : Nat} {w w1 w2 : World}
theorem F1.refl (tb : Nat) (w : World) : F1 tb w w := ⟨rfl, rfl, rfl, Nat.le_refl _, fun _ _ _ => rfl⟩
theorem F1.trans (h : F1 tb w w1) (k : F1 tb w1 w2) : F1 tb w w2 :=
  ⟨k.os.trans h.os, k.tape.trans h.tape, k.output.trans h.output, Nat.le_trans h.size k.size, fun i hi h1 => (k.block i (Nat.lt_of_lt_of_le hi h.size) h1).trans (h.block i hi h1)⟩
theorem F1.set (h : F1 tb w w1) (i : Nat) (u : Value) : F1 tb w (w1.setCell ⟨tb, i, none⟩ u) :=
  h.trans ⟨rfl, rfl, rfl, by simp [World.setCell], fun k _ hk => Below.heap_setCell _ _ _ _ hk⟩
theorem F1.drewN (h : F1 tb w w1) (n : Nat) : F1 tb w (w1.drewN n) := ⟨h.os, h.tape, h.output, h.size, h.block⟩
theorem F1.below {W0 : World} {B : Nat} (h : F1 tb w w1) (hb : Below B W0 w) (hr : B ≤ tb) (hB : B ≤ w.heap.size) : Below B W0 w1 :=
  hb.trans ⟨h.os, h.tape, h.output, h.size, fun k hk => h.block k (by omega) (by omega)⟩
theorem F1.rd {k : IntKind} {S : Nat → Prop} {v : Value} {xs : List Int} (h : F1 tb w w1) (hr : Rd k S w v xs) (hS : ∀ b, S b → b ≠ tb) : Rd k S w1 v xs :=
  hr.far h.size fun b hb hs => ⟨hs, h.block b hb (hS b hs)⟩
theorem F1.own {k : IntKind} {e : TypeId} {base : Nat} {v : Value} {xs : List Int} (h : F1 tb w w1) (ho : Own k e w base v xs) (hne : v.ownBlock ≠ some tb) : Own k e w1 base v xs :=
  ho.far fun g hg => h.block g (ho.lt g hg).2 (fun e => hne (by rw [hg, e]))
end

set_option maxHeartbeats 1000000 in
theorem take_ok {S : Nat → Prop} {w : World} {tb : Nat} {dV outV : Value} {d : List Int} {at_ : Nat} (hB : TB w tb dV at_ outV 0) (hr : Rd .u8 S w dV d) (hat : at_ < d.length) (hl : d.length + 20 ≤ 140737488355328) (hd : AllB d) (hS : ∀ b, S b → b ≠ tb) :
    Calls Try.prog 34 #[.pointer (some ⟨tb, 0, none⟩)] w fun e w' => e = .returned (.int .i64 (d.getD at_ 0)) ∧ TB w' tb dV ((at_ + 1 : Nat) : Int) outV 0 ∧ F1 tb w w' := by
  obtain ⟨ib, io, vc, rfl, hib, hlc, hcm, hsb, hcells⟩ := hr.open (by omega)
  have hne := hS ib hsb
  have ci := hcells at_ hat
  have hby := hd.getD (by omega) at_
  have c0 := hB.c0
  have c1 := hB.c1
  have c3 := hB.c3
  have f1 := hB.fz 1
  have hlt : ¬ (d.length : Int) ≤ (at_ : Int) := by omega
  have KB := Kept.mk hB
  clear hB hcells hr hcm hS
  generalize d.getD at_ 0 = z at *
  go_enter Try.func34, Try.ntmps34
  go_wp2
  go_quiet (fail)
  go_wp2
  go_quiet (fail)
  go_wp2
  go_ret
  exact ⟨rfl, TB.s1 (w := w.drewN _) KB.out _, (((F1.refl tb w).drewN _).set 1 _).drewN _⟩

set_option maxHeartbeats 1000000 in
theorem take_short {S : Nat → Prop} {w : World} {tb : Nat} {dV outV : Value} {d : List Int} {at_ : Nat} (hB : TB w tb dV at_ outV 0) (hr : Rd .u8 S w dV d) (hat : d.length ≤ at_) :
    Calls Try.prog 34 #[.pointer (some ⟨tb, 0, none⟩)] w fun e w' => e = .returned (.int .i64 0) ∧ TB w' tb dV at_ outV 5 ∧ F1 tb w w' := by
  obtain ⟨va, vc, rfl, -, -, -⟩ := hr.form
  have c0 := hB.c0
  have c1 := hB.c1
  have c3 := hB.c3
  have f3 := hB.fz 3
  have hlt : (d.length : Int) ≤ (at_ : Int) := by omega
  have KB := Kept.mk hB
  clear hB hr
  go_enter Try.func34, Try.ntmps34
  go_wp2
  go_quiet (fail)
  go_wp2
  go_ret
  exact ⟨rfl, TB.s3 (w := w.drewN _) KB.out _, ((F1.refl tb w).drewN _).set 3 _⟩

set_option maxHeartbeats 1000000 in
theorem take_off {w : World} {tb : Nat} {dV outV : Value} {at_ : Nat} {E : Int} (hE : E ≠ 0) (hB : TB w tb dV at_ outV E) :
    Calls Try.prog 34 #[.pointer (some ⟨tb, 0, none⟩)] w fun e w' => e = .returned (.int .i64 0) ∧ TB w' tb dV at_ outV E ∧ F1 tb w w' := by
  have c3 := hB.c3
  have hE2 : (E != 0) = true := by simpa using hE
  have KB := Kept.mk hB
  clear hB hE
  go_enter Try.func34, Try.ntmps34
  go_wp2
  go_ret
  exact ⟨rfl, KB.out, F1.refl _ _⟩

/-- What take answers, the place behind it, and what has been met then. -/
def takeF (d : List Int) (at_ : Nat) (E : Int) : Int × Nat × Int := if E ≠ 0 then (0, at_, E) else if at_ < d.length then (d.getD at_ 0, at_ + 1, 0) else (0, at_, 5)
theorem take_any {S : Nat → Prop} {w : World} {tb : Nat} {dV outV : Value} {d : List Int} {at_ : Nat} {E : Int} (hB : TB w tb dV at_ outV E) (hr : Rd .u8 S w dV d) (hl : d.length + 20 ≤ 140737488355328) (hd : AllB d) (hS : ∀ b, S b → b ≠ tb) :
    Calls Try.prog 34 #[.pointer (some ⟨tb, 0, none⟩)] w fun e w' => e = .returned (.int .i64 (takeF d at_ E).1) ∧ TB w' tb dV ((takeF d at_ E).2.1 : Nat) outV (takeF d at_ E).2.2 ∧ F1 tb w w' := by
  unfold takeF
  by_cases hE : E ≠ 0
  · rw [if_pos hE]
    exact take_off hE hB
  · rw [if_neg hE]
    have hE : E = 0 := by simpa using hE
    subst hE
    by_cases hat : at_ < d.length
    · rw [if_pos hat]
      exact take_ok hB hr hat hl hd hS
    · rw [if_neg hat]
      exact take_short (at_ := at_) hB hr (Nat.le_of_not_lt hat)

theorem sp_step {d : List Int} {c x E : Int} {q k a : Nat} {R : Option (Int × Nat)} (hd : AllB d) (hbit : ¬ c / 2 ^ k % 2 = 0) (hk : k ≤ 3) (hx0 : 0 ≤ x) (hx1 : x < 256 ^ k) (hal : a ≤ d.length) (hE : E = 0 ∧ R = spF d c (q + 1) k x a ∨ E = 5 ∧ R = none) :
    wrap64 (x + wrap64 ((takeF d a E).1 * 2 ^ (8 * k))) = x + (takeF d a E).1 * 256 ^ k ∧ 0 ≤ x + (takeF d a E).1 * 256 ^ k ∧ x + (takeF d a E).1 * 256 ^ k < 256 ^ (k + 1) ∧ (takeF d a E).2.1 ≤ d.length ∧
      ((takeF d a E).2.2 = 0 ∧ R = spF d c q (k + 1) (x + (takeF d a E).1 * 256 ^ k) (takeF d a E).2.1 ∨ (takeF d a E).2.2 = 5 ∧ R = none) := by
  have hby := hd.getD (by omega) a
  have ht : 0 ≤ (takeF d a E).1 ∧ (takeF d a E).1 < 256 := by
    unfold takeF
    split
    · simp
    · split
      · exact hby
      · simp
  have e : (256 : Int) ^ k = 2 ^ (8 * k) := by rw [Int.pow_mul]; rfl
  have hp : (2 : Int) ^ (8 * k) ≤ 2 ^ 24 := by
    have : (2 : Nat) ^ (8 * k) ≤ 2 ^ 24 := Nat.pow_le_pow_right (by omega) (by omega)
    exact_mod_cast this
  have hp0 : (0 : Int) < 2 ^ (8 * k) := Int.pow_pos (by omega)
  have h3 : (takeF d a E).1 * 2 ^ (8 * k) ≤ 255 * 2 ^ (8 * k) := Int.mul_le_mul_of_nonneg_right (by omega) (by omega)
  have h4 : 0 ≤ (takeF d a E).1 * 2 ^ (8 * k) := Int.mul_nonneg ht.1 (by omega)
  have hR : (takeF d a E).2.1 ≤ d.length ∧ ((takeF d a E).2.2 = 0 ∧ R = spF d c q (k + 1) (x + (takeF d a E).1 * 256 ^ k) (takeF d a E).2.1 ∨ (takeF d a E).2.2 = 5 ∧ R = none) := by
    rcases hE with ⟨rfl, hR⟩ | ⟨rfl, hR⟩
    · rw [spF, if_neg hbit] at hR
      unfold takeF
      by_cases hat : a < d.length
      · rw [if_pos hat] at hR
        simp only [ne_eq, not_true_eq_false, if_false, hat, if_true]
        exact ⟨by omega, Or.inl ⟨trivial, hR⟩⟩
      · rw [if_neg hat] at hR
        simp only [ne_eq, not_true_eq_false, if_false, hat]
        exact ⟨by omega, Or.inr ⟨trivial, hR⟩⟩
    · unfold takeF
      rw [if_pos (by omega)]
      exact ⟨hal, Or.inr ⟨rfl, hR⟩⟩
  refine ⟨?_, ?_, ?_, hR⟩
  · rw [e] at hx1 ⊢
    generalize (takeF d a E).1 * 2 ^ (8 * k) = Y at *
    generalize (2 : Int) ^ (8 * k) = Z at *
    unfold wrap64
    omega
  · rw [e]; omega
  · rw [Int.pow_succ]
    rw [e] at hx1 ⊢
    omega

set_option maxHeartbeats 1000000 in
theorem place_any {S : Nat → Prop} {w : World} {tb : Nat} {dV outV : Value} {d : List Int} {at_ : Nat} (c : Int) (hB : TB w tb dV at_ outV 0) (hr : Rd .u8 S w dV d) (hat : at_ ≤ d.length) (hl : d.length + 20 ≤ 140737488355328) (hd : AllB d) (hS : ∀ b, S b → b ≠ tb) (hc0 : 0 ≤ c) :
    Calls Try.prog 35 #[.pointer (some ⟨tb, 0, none⟩), .int .i64 c] w fun e w' => ∃ (x y E : Int) (a : Nat), e = .returned (.tuple #[.int .i64 x, .int .i64 y]) ∧ TB w' tb dV a outV E ∧ F1 tb w w' ∧
      (E = 5 ∧ cpF [] d c at_ = .bad 5 ∨ E = 0 ∧ ∃ a1 n, spF d c 4 0 0 at_ = some (x, a1) ∧ spF d (c / 16) 3 0 0 a1 = some (n, a) ∧ y = cntF n) := by
  have KB := Kept.mk hB
  have KR := Kept.mk hr
  have KD := Kept.mk hd
  have KS := Kept.mk hS
  clear hB hr hd hS
  go_enter Try.func35, Try.ntmps35
  go_wp2
  go_loopw [6, 8] (fun xv iv wr => ∃ (k a : Nat) (x E : Int), xv = .int .i64 x ∧ iv = .int .i64 k ∧ k ≤ 4 ∧ a ≤ d.length ∧ 0 ≤ x ∧ x < 256 ^ k ∧ TB wr tb dV a outV E ∧ F1 tb w wr ∧ (E = 0 ∧ spF d c 4 0 0 at_ = spF d c (4 - k) k x a ∨ E = 5 ∧ spF d c 4 0 0 at_ = none)) (fun _ iv _ => 4 - (intOf iv).toNat)
  case atStart => exact ⟨0, at_, 0, 0, rfl, rfl, by omega, hat, by omega, by omega, KB.out, F1.refl _ _, Or.inl ⟨rfl, rfl⟩⟩
  case round =>
    obtain ⟨k, a, x, E, rfl, rfl, hk, hal, hx0, hx1, hTB, hF, hE⟩ := hrel
    by_cases hkn : k = 4
    · subst hkn
      simp only [show ((4 : Nat) : Int) = 4 from rfl]
      have KT := Kept.mk hTB
      have KF := Kept.mk hF
      have hE1 : E = 0 ∧ spF d c 4 0 0 at_ = some (x, a) ∨ E = 5 ∧ spF d c 4 0 0 at_ = none := hE
      have KE := Kept.mk hE1
      clear hTB hF hE hE1
      obtain ⟨R, hR⟩ : ∃ R : Option (Int × Nat), R = match spF d c 4 0 0 at_ with | none => none | some (_, a1) => spF d (c / 16) 3 0 0 a1 := ⟨_, rfl⟩
      have KR0 : Kept (E = 0 ∧ R = spF d (c / 16) 3 0 0 a ∨ E = 5 ∧ R = none) := ⟨by
        rcases KE.out with ⟨h1, h2⟩ | ⟨h1, h2⟩
        · exact Or.inl ⟨h1, by rw [hR, h2]⟩
        · exact Or.inr ⟨h1, by rw [hR, h2]⟩⟩
      have KRR := Kept.mk hR
      clear hR
      go_wp2
      go_loopw [7, 9] (fun xv iv wq => ∃ (k b : Nat) (y F : Int), xv = .int .i64 y ∧ iv = .int .i64 k ∧ k ≤ 3 ∧ b ≤ d.length ∧ 0 ≤ y ∧ y < 256 ^ k ∧ TB wq tb dV b outV F ∧ F1 tb w wq ∧ (F = 0 ∧ R = spF d (c / 16) (3 - k) k y b ∨ F = 5 ∧ R = none)) (fun _ iv _ => 3 - (intOf iv).toNat)
      case atStart => exact ⟨0, a, 0, E, rfl, rfl, by omega, hal, by omega, by omega, KT.out, KF.out, KR0.out⟩
      case round =>
        obtain ⟨k, b, y, F, rfl, rfl, hk, hbl, hy0, hy1, hTB, hF, hE⟩ := hrel
        by_cases hkn : k = 3
        · subst hkn
          have hlt : decide (((3 : Nat) : Int) < 3) = false := by simp
          have KT2 := Kept.mk hTB
          have KF2 := Kept.mk hF
          have hE1 : F = 0 ∧ R = some (y, b) ∨ F = 5 ∧ R = none := hE
          have KE2 : Kept (F = 5 ∧ cpF [] d c at_ = .bad 5 ∨ F = 0 ∧ ∃ a1 n, spF d c 4 0 0 at_ = some (x, a1) ∧ spF d (c / 16) 3 0 0 a1 = some (n, b) ∧ cntF y = cntF n) := ⟨by
            have hR := KRR.out
            rcases hE1 with ⟨h1, h2⟩ | ⟨h1, h2⟩
            · rcases KE.out with ⟨_, h4⟩ | ⟨_, h4⟩
              · rw [h2, h4] at hR
                exact Or.inr ⟨h1, a, y, h4, hR.symm, rfl⟩
              · rw [h2, h4] at hR
                cases hR
            · refine Or.inl ⟨h1, ?_⟩
              unfold cpF
              rw [h2] at hR
              split
              · rfl
              · rename_i p a1 h3
                rw [h3] at hR
                simp only [] at hR
                rw [← hR]⟩
          clear hTB hF hE hE1
          by_cases hy : y = 0
          · subst hy
            go_wp2
            go_ret2
            exact ⟨x, 65536, F, b, rfl, KT2.out, KF2.out, KE2.out⟩
          · have hyo : (y == 0) = false := by simpa using hy
            rw [show cntF y = y from if_neg hy] at KE2
            clear hy
            go_wp2
            go_ret2
            exact ⟨x, y, F, b, rfl, KT2.out, KF2.out, KE2.out⟩
        · have hlt : decide ((k : Int) < 3) = true := by simp; omega
          have hsh : c / 2 ^ (4 + k) = c / 16 / 2 ^ k := by rw [Int.pow_add, Int.ediv_ediv_of_nonneg (by omega)]; rfl
          have hcd : 0 ≤ c / 2 ^ (4 + k) := Int.ediv_nonneg hc0 (Int.le_of_lt (Int.pow_pos (by omega)))
          have htm : (c / 2 ^ (4 + k)).tmod 2 = c / 16 / 2 ^ k % 2 := by rw [Int.tmod_eq_emod_of_nonneg hcd, hsh]
          obtain ⟨q, hq⟩ : ∃ q, 3 - k = q + 1 := ⟨3 - k - 1, by omega⟩
          by_cases hbit : c / 16 / 2 ^ k % 2 = 0
          · have hbo : ((c / 2 ^ (4 + k)).tmod 2 == 1) = false := by rw [htm, hbit]; rfl
            have KE2 : Kept (F = 0 ∧ R = spF d (c / 16) (3 - (k + 1)) (k + 1) y b ∨ F = 5 ∧ R = none) := ⟨by
              rcases hE with ⟨h1, h2⟩ | h1
              · exact Or.inl ⟨h1, by rw [h2, hq, spF, if_pos hbit, show 3 - (k + 1) = q from by omega]⟩
              · exact Or.inr h1⟩
            have KT2 := Kept.mk hTB
            have KF2 := Kept.mk hF
            clear hTB hF hE htm hcd hq hbit hsh
            go_wp2
            go_roundw
            case rel => exact ⟨k + 1, b, y, F, rfl, rfl, by omega, hbl, hy0, by rw [Int.pow_succ]; omega, KT2.out, KF2.out, KE2.out⟩
            case measure => simp [intOf]; omega
          · have hbo : ((c / 2 ^ (4 + k)).tmod 2 == 1) = true := by rw [htm]; simp; omega
            have K2 := Kept.mk (take_any hTB (hF.rd KR.out KS.out) hl KD.out KS.out)
            rw [hq] at hE
            have KP := Kept.mk (sp_step KD.out hbit (by omega) hy0 hy1 hbl hE)
            have KF1 := Kept.mk hF
            clear htm hcd hTB hF hE hsh hbit
            go_wp2_with fail
            refine Calls.mono K2.out (fun e w1 hp => ?_)
            obtain ⟨rfl, hT2, hF2⟩ := hp
            have KT2 := Kept.mk hT2
            have KF2 := Kept.mk (KF1.out.trans hF2)
            clear hT2 hF2
            go_wp2
            go_roundw
            case rel =>
              rw [KP.out.1]
              exact ⟨k + 1, _, _, _, rfl, rfl, by omega, KP.out.2.2.2.1, KP.out.2.1, KP.out.2.2.1, KT2.out, KF2.out, by rw [show 3 - (k + 1) = q from by omega]; exact KP.out.2.2.2.2⟩
            case measure => simp [intOf]; omega
    · have hlt : decide ((k : Int) < 4) = true := by simp; omega
      have hcd : 0 ≤ c / 2 ^ k := Int.ediv_nonneg hc0 (Int.le_of_lt (Int.pow_pos (by omega)))
      have htm : (c / 2 ^ k).tmod 2 = c / 2 ^ k % 2 := Int.tmod_eq_emod_of_nonneg hcd
      obtain ⟨q, hq⟩ : ∃ q, 4 - k = q + 1 := ⟨4 - k - 1, by omega⟩
      by_cases hbit : c / 2 ^ k % 2 = 0
      · have hbo : ((c / 2 ^ k).tmod 2 == 1) = false := by rw [htm, hbit]; rfl
        have KE : Kept (E = 0 ∧ spF d c 4 0 0 at_ = spF d c (4 - (k + 1)) (k + 1) x a ∨ E = 5 ∧ spF d c 4 0 0 at_ = none) := ⟨by
          rcases hE with ⟨h1, h2⟩ | h1
          · exact Or.inl ⟨h1, by rw [h2, hq, spF, if_pos hbit, show 4 - (k + 1) = q from by omega]⟩
          · exact Or.inr h1⟩
        have KT := Kept.mk hTB
        have KF := Kept.mk hF
        clear hTB hF hE htm hcd hq
        go_wp2
        go_roundw
        case rel => exact ⟨k + 1, a, x, E, rfl, rfl, by omega, hal, hx0, by rw [Int.pow_succ]; omega, KT.out, KF.out, KE.out⟩
        case measure => simp [intOf]; omega
      · have hbo : ((c / 2 ^ k).tmod 2 == 1) = true := by rw [htm]; simp; omega
        have K2 := Kept.mk (take_any hTB (hF.rd KR.out KS.out) hl KD.out KS.out)
        rw [hq] at hE
        have KP := Kept.mk (sp_step KD.out hbit (by omega) hx0 hx1 hal hE)
        have KF := Kept.mk hF
        clear htm hcd hTB hF hE
        go_wp2_with fail
        refine Calls.mono K2.out (fun e w1 hp => ?_)
        obtain ⟨rfl, hT2, hF2⟩ := hp
        have KT2 := Kept.mk hT2
        have KF2 := Kept.mk (KF.out.trans hF2)
        clear hT2 hF2
        go_wp2
        go_roundw
        case rel =>
          rw [KP.out.1]
          exact ⟨k + 1, _, _, _, rfl, rfl, by omega, KP.out.2.2.2.1, KP.out.2.1, KP.out.2.2.1, KT2.out, KF2.out, by rw [show 4 - (k + 1) = q from by omega]; exact KP.out.2.2.2.2⟩
        case measure => simp [intOf]; omega
end Go.Proofs.Ytkidoknklgoffaa
