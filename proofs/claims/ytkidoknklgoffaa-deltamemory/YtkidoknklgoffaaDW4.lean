/-
  Walks: the document's step.
-/
import Derived.Test.YtkidoknklgoffaaDW3
namespace Go.Proofs.Ytkidoknklgoffaa
open Go.RowKit

/-- The document's delta under way: what has come out, the place, what was met. -/
def St (W0 w : World) (tb : Nat) (dV : Value) (out : List Int) (at_ : Nat) (E : Int) : Prop :=
  ∃ outV, TB w tb dV at_ outV E ∧ Own .u8 5 w W0.heap.size outV out ∧ outV.ownBlock ≠ some tb ∧ Below W0.heap.size W0 w

def AfterS (W0 w' : World) (tb : Nat) (dV : Value) (out : List Int) (size : Nat) (r : An (List Int × Nat)) : Prop :=
  match r with
  | .bad er => ∃ a, St W0 w' tb dV out a er
  | .ok (part, b) => if size < out.length + part.length then ∃ a, St W0 w' tb dV out a 4 else St W0 w' tb dV (out ++ part) b 0

set_option maxHeartbeats 2000000 in
set_option maxRecDepth 100000 in
theorem step_zero {W0 w : World} {tb : Nat} {dV baseV : Value} {base d out : List Int} {at_ size : Nat} (h : St W0 w tb dV out at_ 0) (htb : W0.heap.size ≤ tb) (hr : Rd .u8 anyB W0 dV d) (hat : at_ < d.length) (hl : d.length + 20 ≤ 140737488355328) (hd : AllB d) (hz : d.getD at_ 0 = 0) :
    Calls Try.prog 23 #[.pointer (some ⟨tb, 0, none⟩), baseV, .int .i64 size] w fun e w' => e = .returned (.tuple #[]) ∧ AfterS W0 w' tb dV out size (insF base d at_) := by
  obtain ⟨outV, hTB, how, hob, hbel⟩ := h
  have hrw : Rd .u8 (fun b => b < W0.heap.size) w dV d := by
    have h2 : Rd .u8 (fun b => b < W0.heap.size) W0 dV d := hr.weak fun b hb _ => hb
    exact h2.later hbel (Nat.le_refl _)
  have K1 := Kept.mk (take_ok hTB hrw hat hl hd (fun b hb => by omega))
  rw [hz] at K1
  have KI : Kept (insF base d at_ = .bad 4) := ⟨by unfold insF; rw [if_pos hz]⟩
  have KO := Kept.mk how
  have KB := Kept.mk hbel
  clear hTB how hbel hrw hr hd hz
  go_enter Try.func23, Try.ntmps23
  go_wp2_with fail
  refine Calls.mono K1.out (fun e w1 hp => ?_)
  obtain ⟨rfl, hT2, hF2⟩ := hp
  have c3 := hT2.c3
  have f3 := hT2.fz 3
  have KT2 := Kept.mk hT2
  have KF2 := Kept.mk hF2
  clear hT2 hF2
  go_wp2
  refine bodyPost_end (results_none rfl _ _ _) rfl ?_
  rw [KI.out]
  have hF3 := KF2.out.set 3 (.int .i64 4)
  exact ⟨rfl, _, outV, KT2.out.s3 4, hF3.own KO.out hob, hob, hF3.below KB.out htb KB.out.size⟩

set_option maxHeartbeats 2000000 in
set_option maxRecDepth 100000 in
theorem step_copy {W0 w : World} {tb : Nat} {dV baseV : Value} {base d out : List Int} {at_ size : Nat} (h : St W0 w tb dV out at_ 0) (htb : W0.heap.size ≤ tb) (hr : Rd .u8 anyB W0 dV d) (hb : Rd .u8 anyB W0 baseV base) (hat : at_ < d.length) (hl : d.length + 20 ≤ 140737488355328) (hlb : base.length + 20 ≤ 140737488355328) (hd : AllB d) (hz : 128 ≤ d.getD at_ 0) (hs : size ≤ 1048576) (hos : out.length ≤ size) :
    Calls Try.prog 23 #[.pointer (some ⟨tb, 0, none⟩), baseV, .int .i64 size] w fun e w' => e = .returned (.tuple #[]) ∧ AfterS W0 w' tb dV out size (insF base d at_) := by
  obtain ⟨i0, z0, hi, hz0, hs0, hb0, hc⟩ := info8
  obtain ⟨outV, hTB, how, hob, hbel⟩ := h
  have hrw : Rd .u8 (fun b => b < W0.heap.size) w dV d := by
    have h2 : Rd .u8 (fun b => b < W0.heap.size) W0 dV d := hr.weak fun b hb _ => hb
    exact h2.later hbel (Nat.le_refl _)
  have hbw : Rd .u8 (fun b => b < W0.heap.size) w baseV base := by
    have h2 : Rd .u8 (fun b => b < W0.heap.size) W0 baseV base := hb.weak fun b hb _ => hb
    exact h2.later hbel (Nat.le_refl _)
  have K1 := Kept.mk (take_ok hTB hrw hat hl hd (fun b hb => by omega))
  have KI : Kept (insF base d at_ = cpF base d (d.getD at_ 0) (at_ + 1)) := ⟨by unfold insF; rw [if_neg (by omega), if_neg (by omega)]⟩
  have hby := hd.getD (by omega) at_
  obtain ⟨ba, bc, rfl, -, hbcl, hbcm⟩ := hb.form
  obtain ⟨oa, oc, rfl, -, -, -⟩ := how.rd.form
  have KO := Kept.mk how
  have KB := Kept.mk hbel
  have KR := Kept.mk hrw
  have KRb := Kept.mk hbw
  have KD := Kept.mk hd
  clear hTB how hbel hrw hr hd hbw hb
  generalize d.getD at_ 0 = z at *
  have hz1 : (z == 0) = false := by simp; omega
  have hz2 : decide (128 ≤ z) = true := by simpa using hz
  go_enter Try.func23, Try.ntmps23
  go_wp2_with fail
  refine Calls.mono K1.out (fun e w1 hp => ?_)
  obtain ⟨rfl, hT2, hF2⟩ := hp
  have K2 := Kept.mk (place_any z hT2 (hF2.rd KR.out (fun b hb => by omega)) (by omega) hl KD.out (fun b hb => by omega) hby.1)
  have KF2 := Kept.mk hF2
  clear hT2 hF2
  go_wp2_with fail
  refine Calls.mono K2.out (fun e w2 hp => ?_)
  obtain ⟨x, y, E, a, rfl, hT3, hF3, hE⟩ := hp
  have KF3 := Kept.mk (KF2.out.trans hF3)
  have c2 := hT3.c2
  have c3 := hT3.c3
  have f2 := hT3.fz 2
  have f3 := hT3.fz 3
  have KT3 := Kept.mk hT3
  rcases hE with ⟨rfl, hE⟩ | ⟨rfl, a1, n, hE1, hE2, hy⟩
  · have KI2 : Kept (insF base d at_ = .bad 5) := ⟨by
      rw [KI.out]
      unfold cpF at hE ⊢
      revert hE
      cases spF d z 4 0 0 (at_ + 1) with
      | none => intro _; rfl
      | some r =>
        simp only []
        cases spF d (z / 16) 3 0 0 r.2 with
        | none => intro _; rfl
        | some r2 =>
          intro h
          simp only [] at h
          split at h <;> cases h⟩
    clear hE hT3 hF3
    go_wp2
    refine bodyPost_end (results_none rfl _ _ _) rfl ?_
    rw [KI2.out]
    exact ⟨rfl, _, _, KT3.out, KF3.out.own KO.out hob, hob, KF3.out.below KB.out htb KB.out.size⟩
  · have hlt1 := spF_lt d z KD.out 4 0 0 (at_ + 1) x a1 (by omega) (by omega) hE1
    have hlt2 := spF_lt d (z / 16) KD.out 3 0 0 a1 n a (by omega) (by omega) hE2
    have KI2 : Kept (insF base d at_ = if (base.length : Int) < x + y then .bad 4 else .ok ((base.drop x.toNat).take y.toNat, a)) := ⟨by
      rw [KI.out]
      unfold cpF
      rw [hE1]
      simp only []
      rw [hE2, hy]⟩
    have hy0 : 1 ≤ y ∧ y < 16777216 := by
      rw [hy]
      have := hlt2.2
      unfold cntF
      split <;> omega
    have hx0 : 0 ≤ x ∧ x < 4294967296 := ⟨hlt1.1, by have := hlt1.2; omega⟩
    clear hE1 hE2 hy hlt1 hlt2 hT3 hF3 KI
    obtain ⟨X, rfl⟩ := Int.eq_ofNat_of_zero_le hx0.1
    obtain ⟨Y, rfl⟩ := Int.eq_ofNat_of_zero_le (show 0 ≤ y by omega)
    simp only [Int.toNat_natCast] at KI2
    have hX : (X : Int) < 4294967296 := hx0.2
    have hY : (Y : Int) < 16777216 := hy0.2
    have hY1 : 1 ≤ Y := by omega
    clear hx0 hy0
    by_cases hbig : (base.length : Int) < X + Y
    · rw [if_pos hbig] at KI2
      have hbo : decide ((base.length : Int) < (X : Int) + (Y : Int)) = true := by simpa using hbig
      clear hbig
      go_wp2
      refine bodyPost_end (results_none rfl _ _ _) rfl ?_
      rw [KI2.out]
      have hF4 := KF3.out.set 3 (.int .i64 4)
      exact ⟨rfl, _, _, KT3.out.s3 4, hF4.own KO.out hob, hob, hF4.below KB.out htb KB.out.size⟩
    · rw [if_neg hbig] at KI2
      have hbo : decide ((base.length : Int) < (X : Int) + (Y : Int)) = false := by simpa using hbig
      have hXY : X + Y ≤ base.length := by omega
      obtain ⟨ib, io, ic2, he, hib, -, -, -, -⟩ := KRb.out.open (by omega)
      simp only [Value.slice.injEq, true_and] at he
      obtain ⟨rfl, rfl⟩ := he
      have hb1 : (X : Int) + Y ≤ base.length := by omega
      have hb2 : (X : Int) + Y ≤ bc := by omega
      have hb3 : ¬ bc = X := by omega
      have KP := Kept.mk ((KF3.out.rd KRb.out (fun b hb => by omega)).piece2 (i := X) (j := X + Y) (by omega) hXY)
      have hlen : ((base.drop X).take Y).length = Y := by simp; omega
      by_cases hsz : size < out.length + Y
      · have hso : decide ((size : Int) < (out.length : Int) + (Y : Int)) = true := by simp; omega
        have KZ := Kept.mk hsz
        clear hbig hsz
        go_wp2
        refine bodyPost_end (results_none rfl _ _ _) rfl ?_
        rw [KI2.out]
        have hF4 := KF3.out.set 3 (.int .i64 4)
        refine ⟨rfl, ?_⟩
        unfold AfterS
        simp only []
        rw [if_pos (by rw [hlen]; exact KZ.out)]
        exact ⟨_, _, KT3.out.s3 4, hF4.own KO.out hob, hob, hF4.below KB.out htb KB.out.size⟩
      · have hso : decide ((size : Int) < (out.length : Int) + (Y : Int)) = false := by simp; omega
        have KZ := Kept.mk hsz
        have KO3 := Kept.mk (KF3.out.own KO.out hob)
        have KB3 := Kept.mk (KF3.out.below KB.out htb KB.out.size)
        have hw3 := KB3.out.size
        have KL : Kept ((out.length + ((base.drop X).take (X + Y - X)).length) * 1 ≤ 140737488355328) := ⟨by rw [Nat.add_sub_cancel_left, hlen]; omega⟩
        have KHl := Kept.mk hlen
        clear hbig hsz hlen
        go_upto_region 17 with fail
        rw [Nat.add_sub_cancel_left] at KP KL
        simp only [Nat.add_sub_cancel_left]
        generalize (base.drop X).take Y = part at *
        go_wp2_with (at_builtin; refine wpList_append_rd _ rfl _ _ 22 rfl .u8 (fun b => b < W0.heap.size) 1 W0.heap.size 5 i0 z0 Try.underlying22 hi hz0 hs0 hb0 hc (by omega) (.slice oa out.length oc) out rfl KO3.out _ part rfl KP.out KL.out hw3 ?_; intro v4 w4 hown hgrow hat; obtain ⟨na, nc, rfl, -, -, -⟩ := hown.rd.form; have hT4 := KT3.out.far (hgrow.block tb KT3.out.lt (fun e => hob e.symm)); have f24 := hT4.fz 2; have c24 := hT4.c2; have KT4 := Kept.mk hT4; have KO4 := Kept.mk hown; have KG4 := Kept.mk hgrow; have KA4 := Kept.mk hat; clear hT4 hown hgrow hat)
        refine bodyPost_end (results_none rfl _ _ _) rfl ?_
        rw [KI2.out]
        refine ⟨rfl, ?_⟩
        unfold AfterS
        simp only []
        have hZ := KZ.out
        have hHl := KHl.out
        rw [if_neg (by omega)]
        have ho4 := KO4.out
        have ha4 := KA4.out
        rw [List.length_append] at ho4 ha4
        have hne : (Value.slice na (out.length + part.length) nc).ownBlock ≠ some tb := by
          rcases ha4 with e | e
          · rw [e]; exact hob
          · rw [e]
            intro e2
            have := KT3.out.lt
            simp at e2
            omega
        refine ⟨_, KT4.out.s2 _, ho4.far fun g hg => Below.heap_setCell _ _ _ _ (fun e => hne (by rw [hg, e])), hne, ?_⟩
        exact (KB3.out.grown KG4.out hw3 (own_ge KO3.out)).setCell htb _

set_option maxHeartbeats 2000000 in
set_option maxRecDepth 100000 in
theorem step_ins {W0 w : World} {tb : Nat} {dV baseV : Value} {base d out : List Int} {at_ size : Nat} (h : St W0 w tb dV out at_ 0) (htb : W0.heap.size ≤ tb) (hr : Rd .u8 anyB W0 dV d) (hat : at_ < d.length) (hl : d.length + 20 ≤ 140737488355328) (hd : AllB d) (hz : d.getD at_ 0 ≠ 0) (hz2 : d.getD at_ 0 < 128) (hs : size ≤ 1048576) (hos : out.length ≤ size) :
    Calls Try.prog 23 #[.pointer (some ⟨tb, 0, none⟩), baseV, .int .i64 size] w fun e w' => e = .returned (.tuple #[]) ∧ AfterS W0 w' tb dV out size (insF base d at_) := by
  obtain ⟨i0, z0, hi, hz0, hs0, hb0, hc⟩ := info8
  obtain ⟨outV, hTB, how, hob, hbel⟩ := h
  have hrw : Rd .u8 (fun b => b < W0.heap.size) w dV d := by
    have h2 : Rd .u8 (fun b => b < W0.heap.size) W0 dV d := hr.weak fun b hb _ => hb
    exact h2.later hbel (Nat.le_refl _)
  have K1 := Kept.mk (take_ok hTB hrw hat hl hd (fun b hb => by omega))
  have KI : Kept (insF base d at_ = if (d.length : Int) < at_ + 1 + d.getD at_ 0 then .bad 5 else .ok ((d.drop (at_ + 1)).take (d.getD at_ 0).toNat, at_ + 1 + (d.getD at_ 0).toNat)) := ⟨by unfold insF; rw [if_neg hz, if_pos hz2]⟩
  have hby := hd.getD (by omega) at_
  obtain ⟨oa, oc, rfl, -, -, -⟩ := how.rd.form
  have hwz := hbel.size
  have hlt := hTB.lt
  have KO := Kept.mk how
  have KB := Kept.mk hbel
  have KR := Kept.mk hrw
  have KD := Kept.mk hd
  clear hTB how hbel hrw hr hd
  generalize d.getD at_ 0 = z at *
  obtain ⟨Z, rfl⟩ := Int.eq_ofNat_of_zero_le hby.1
  have hz3 : ((Z : Int) == 0) = false := by simpa using hz
  have hz4 : decide ((128 : Int) ≤ (Z : Int)) = false := by simp; omega
  have hZ : Z < 128 := by omega
  simp only [Int.toNat_natCast] at KI
  clear hz hz2
  go_enter Try.func23, Try.ntmps23
  go_wp2_with fail
  refine Calls.mono K1.out (fun e w1 hp => ?_)
  obtain ⟨rfl, hT2, hF2⟩ := hp
  have KT2 := Kept.mk hT2
  have KF2 := Kept.mk hF2
  clear hT2 hF2
  go_wp2
  go_loopw [7, 10] (fun pv iv wr => ∃ (k a : Nat) (E : Int) (ps : List Int), iv = .int .i64 k ∧ k ≤ Z ∧ TB wr tb dV a (.slice oa out.length oc) E ∧ F1 tb w wr ∧ Own .u8 5 wr w.heap.size pv ps ∧ (E = 0 ∧ a = at_ + 1 + k ∧ at_ + 1 + k ≤ d.length ∧ ps = (d.drop (at_ + 1)).take k ∨ E = 5 ∧ d.length < at_ + 1 + Z)) (fun _ iv _ => Z - (intOf iv).toNat)
  case atStart => exact ⟨0, at_ + 1, 0, [], rfl, by omega, KT2.out, KF2.out, Own.nil _ _ _ _, Or.inl ⟨rfl, rfl, by omega, by simp⟩⟩
  case round =>
    obtain ⟨k, a, E, ps, rfl, hk, hT, hF, hown, hE⟩ := hrel
    obtain ⟨pa, pc, rfl, -, hpl, hpm⟩ := hown.rd.form
    have c2 := hT.c2
    have c3 := hT.c3
    have f2 := hT.fz 2
    have f3 := hT.fz 3
    have hsz := hF.size
    have hltr := hT.lt
    have KT := Kept.mk hT
    have KF := Kept.mk hF
    have KP := Kept.mk hown
    rcases hE with ⟨rfl, rfl, hle, hpx⟩ | ⟨rfl, hsh⟩
    · have hpsl : ps.length = k := by rw [hpx]; simp; omega
      have KPx := Kept.mk hpx
      have KPl := Kept.mk hpsl
      have hpl2 : ps.length ≤ 128 := by omega
      clear hpx hpsl
      by_cases hkn : k = Z
      · subst hkn
        have KI2 : Kept (insF base d at_ = .ok (ps, at_ + 1 + k)) := ⟨by rw [KI.out, if_neg (by omega), ← KPx.out]⟩
        have hkl : decide ((k : Int) < (k : Int)) = false := by simp
        have KO3 := Kept.mk (hF.own KO.out hob)
        have KB3 := Kept.mk (hF.below KB.out htb KB.out.size)
        have KPr := Kept.mk (hown.rd)
        have hw3 := KB3.out.size
        clear hT hF hown
        by_cases hsz : size < out.length + ps.length
        · have hso : decide ((size : Int) < (out.length : Int) + (ps.length : Int)) = true := by simp; omega
          have KZ := Kept.mk hsz
          clear hsz
          go_wp2
          refine bodyPost_end (results_none rfl _ _ _) rfl ?_
          rw [KI2.out]
          have hF4 := KF.out.set 3 (.int .i64 4)
          refine ⟨rfl, ?_⟩
          unfold AfterS
          simp only []
          rw [if_pos KZ.out]
          exact ⟨_, _, KT.out.s3 4, hF4.own KO.out hob, hob, hF4.below KB.out htb KB.out.size⟩
        · have hso : decide ((size : Int) < (out.length : Int) + (ps.length : Int)) = false := by simp; omega
          have KZ := Kept.mk hsz
          have hll : out.length + ps.length ≤ 1048576 := by omega
          clear hsz
          go_upto_region 17 with fail
          go_wp2_with (at_builtin; refine wpList_append_rd _ rfl _ _ 22 rfl .u8 _ 1 W0.heap.size 5 i0 z0 Try.underlying22 hi hz0 hs0 hb0 hc (by omega) (.slice oa out.length oc) out rfl KO3.out _ ps rfl KPr.out (by omega) hw3 ?_; intro v4 w4 hown hgrow hat; obtain ⟨na, nc, rfl, -, -, -⟩ := hown.rd.form; have hT4 := KT.out.far (hgrow.block tb KT.out.lt (fun e => hob e.symm)); have f24 := hT4.fz 2; have c24 := hT4.c2; have KT4 := Kept.mk hT4; have KO4 := Kept.mk hown; have KG4 := Kept.mk hgrow; have KA4 := Kept.mk hat; clear hT4 hown hgrow hat)
          refine bodyPost_end (results_none rfl _ _ _) rfl ?_
          rw [KI2.out]
          refine ⟨rfl, ?_⟩
          unfold AfterS
          simp only []
          rw [if_neg KZ.out]
          have ho4 := KO4.out
          have ha4 := KA4.out
          rw [List.length_append] at ho4 ha4
          have hne : (Value.slice na (out.length + ps.length) nc).ownBlock ≠ some tb := by
            rcases ha4 with e | e
            · rw [e]; exact hob
            · rw [e]
              intro e2
              simp at e2
              omega
          refine ⟨_, KT4.out.s2 _, ho4.far fun g hg => Below.heap_setCell _ _ _ _ (fun e => hne (by rw [hg, e])), hne, ?_⟩
          exact (KB3.out.grown KG4.out hw3 (own_ge KO3.out)).setCell htb _
      · have hkl : decide ((k : Int) < (Z : Int)) = true := by simp; omega
        have K2 := Kept.mk (take_any hT (hF.rd KR.out (fun b hb => by omega)) hl KD.out (fun b hb => by omega))
        have ht : 0 ≤ (takeF d (at_ + 1 + k) 0).1 ∧ (takeF d (at_ + 1 + k) 0).1 < 256 := by
          have := KD.out.getD (by omega) (at_ + 1 + k)
          unfold takeF
          split
          · simp
          · split
            · exact this
            · simp
        have KTk : Kept (takeF d (at_ + 1 + k) 0 = if at_ + 1 + k < d.length then (d.getD (at_ + 1 + k) 0, at_ + 1 + k + 1, 0) else (0, at_ + 1 + k, 5)) := ⟨by unfold takeF; rfl⟩
        clear hT hF hown
        generalize takeF d (at_ + 1 + k) 0 = T at *
        obtain ⟨y, a2, E2⟩ := T
        simp only [] at ht K2
        go_wp2_with fail
        refine Calls.mono K2.out (fun e w3 hp => ?_)
        obtain ⟨rfl, hT3, hF3⟩ := hp
        have hp3 : (Value.slice pa ps.length pc).ownBlock ≠ some tb := by
          intro e
          have := own_ge KP.out tb e
          omega
        have hown3 := hF3.own KP.out hp3
        have hsz3 := hF3.size
        have KT3 := Kept.mk hT3
        have KF3 := Kept.mk hF3
        have KP3 := Kept.mk (hown3.alloc (.cells #[.int .u8 y] 5))
        have KRd := Kept.mk (Rd.one .u8 w3 y 5)
        clear hT3 hF3 hown3
        go_wp2_with (at_builtin; refine wpList_append_rd _ rfl _ _ 22 rfl .u8 anyB 1 w.heap.size 5 i0 z0 Try.underlying22 hi hz0 hs0 hb0 hc (by omega) (.slice pa ps.length pc) ps rfl KP3.out _ [y] rfl KRd.out (by simp; omega) (by simp; omega) ?_; intro v4 w4 hown hgrow hat; obtain ⟨na, nc, rfl, -, -, -⟩ := hown.rd.form; have KO4 := Kept.mk hown; have KG4 := Kept.mk hgrow; have KA4 := Kept.mk hat; clear hown hgrow hat)
        have hsz1 := KF.out.size
        have hF4 : F1 tb w w4 := by
          have h13 := KF.out.trans KF3.out
          have hg := KG4.out
          refine ⟨hg.os.trans h13.os, hg.tape.trans h13.tape, hg.output.trans h13.output, by have := hg.size; simp at this; omega, fun q hq hne => ?_⟩
          rw [hg.block q (by simp; omega) (fun e => by have := own_ge KP3.out q e.symm; omega)]
          exact (Below.heap_alloc w3 _ q (by omega)).trans (h13.block q hq hne)
        have hT4 : TB w4 tb dV a2 (.slice oa out.length oc) E2 := by
          refine KT3.out.far ?_
          have hl3 := KT3.out.lt
          rw [KG4.out.block tb (by simp; omega) (fun e => hp3 e.symm)]
          exact Below.heap_alloc w3 _ tb hl3
        have ho4 := KO4.out
        rw [List.length_append] at ho4
        have hTk := KTk.out
        go_roundw
        case rel =>
          refine ⟨k + 1, a2, E2, ps ++ [y], rfl, by omega, hT4, hF4, ho4, ?_⟩
          by_cases hin : at_ + 1 + k < d.length
          · rw [if_pos hin] at hTk
            simp only [Prod.mk.injEq] at hTk
            obtain ⟨rfl, rfl, rfl⟩ := hTk
            refine Or.inl ⟨rfl, by omega, by omega, ?_⟩
            rw [Nu.take_snoc _ k (by simp; omega), KPx.out]
            congr 2
            simp [List.getD]
          · rw [if_neg hin] at hTk
            simp only [Prod.mk.injEq] at hTk
            exact Or.inr ⟨hTk.2.2, by omega⟩
        case measure => simp [intOf]; omega
    · have KI2 : Kept (insF base d at_ = .bad 5) := ⟨by rw [KI.out, if_pos (by omega)]⟩
      clear hT hF hown
      by_cases hkn : k < Z
      · have hkl : decide (k < Z) = true := by simp; omega
        clear hkn hsh
        go_wp2
        refine bodyPost_end (results_none rfl _ _ _) rfl ?_
        rw [KI2.out]
        exact ⟨rfl, _, _, KT.out, KF.out.own KO.out hob, hob, KF.out.below KB.out htb KB.out.size⟩
      · have hkl : decide (k < Z) = false := by simp; omega
        clear hkn hsh
        go_wp2
        refine bodyPost_end (results_none rfl _ _ _) rfl ?_
        rw [KI2.out]
        exact ⟨rfl, _, _, KT.out, KF.out.own KO.out hob, hob, KF.out.below KB.out htb KB.out.size⟩
end Go.Proofs.Ytkidoknklgoffaa
