/-
  Walks: the document's same.
-/
import Derived.Test.YtjijkcmbbccfmaaDoorF17
import Derived.Test.YtjijkcmbbccfmaaDoorF7
namespace Go.Proofs.YtjijkcmbbccfmaaDoor
open Go.RowKit

/-- How many numbers are alike from two places on. -/
def cmF (p : List Int) : Nat → Nat → Nat → Nat
  | 0, _, _ => 0
  | f + 1, i, j => if p.getD i 0 = p.getD j 0 then cmF p f (i + 1) (j + 1) + 1 else 0
theorem cmF_le (p : List Int) : ∀ (f i j : Nat), cmF p f i j ≤ f
  | 0, _, _ => Nat.le_refl _
  | f + 1, i, j => by
    have := cmF_le p f (i + 1) (j + 1)
    rw [cmF]
    split <;> omega
theorem cmF_step (p : List Int) {f i j : Nat} (h : 0 < f) (he : p.getD i 0 = p.getD j 0) : cmF p f i j = cmF p (f - 1) (i + 1) (j + 1) + 1 := by
  obtain ⟨g, rfl⟩ : ∃ g, f = g + 1 := ⟨f - 1, by omega⟩
  rw [cmF, if_pos he, Nat.add_sub_cancel]
theorem cmF_stop (p : List Int) {f i j : Nat} (he : ¬ p.getD i 0 = p.getD j 0) : cmF p f i j = 0 := by
  cases f with
  | zero => rfl
  | succ f => rw [cmF, if_neg he]

set_option maxHeartbeats 1000000 in
set_option maxRecDepth 100000 in
theorem dsame_any (pv : Value) (p : List Int) (i j : Nat) (w : World) (hp : Rd .u8 anyB w pv p) (hi : i ≤ p.length) (hj : j < i) (hl : p.length ≤ 1073741824) :
    Calls Tryd.prog 88 #[pv, .int .i64 i, .int .i64 j] w fun e w' => e = .returned (.int .i64 (cmF p (min 258 (p.length - i)) i j)) ∧ ∃ m, w' = w.drewN m := by
  obtain ⟨pa, pc, rfl, -, -, -⟩ := hp.form
  have KP := Kept.mk hp
  clear hp
  obtain ⟨F, hF⟩ : ∃ F, min 258 (p.length - i) = F := ⟨_, rfl⟩
  rw [hF]
  have hpl : (p.length : Int) ≤ 1073741824 := by omega
  go_enter Tryd.func88, Tryd.ntmps88
  go_wp2
  go_loopw [7] (fun nv wr => ∃ n m : Nat, nv = .int .i64 n ∧ n ≤ F ∧ n + cmF p (F - n) (i + n) (j + n) = cmF p F i j ∧ wr = w.drewN m) (fun nv _ => F - (intOf nv).toNat)
  case atStart => exact ⟨0, 0, rfl, Nat.zero_le _, by simp, rfl⟩
  case round =>
    obtain ⟨n, m, rfl, hn, he, rfl⟩ := hrel
    have KE := Kept.mk he
    have KF := Kept.mk hF
    clear he
    by_cases h258 : n < 258
    · have hd1 : decide ((n : Int) < 258) = true := by simp; omega
      by_cases hin : i + n < p.length
      · have hd2 : decide ((i : Int) + (n : Int) < (p.length : Int)) = true := by simp; omega
        have hnF : n < F := by omega
        obtain ⟨b, off, pc2, hs0, -, -, -, -, hcells⟩ := KP.out.open (by omega)
        simp only [Value.slice.injEq, true_and] at hs0
        obtain ⟨rfl, rfl⟩ := hs0
        have ci := hcells (i + n) hin
        have cj := hcells (j + n) (by omega)
        have hwi : IntKind.i64.wrap ((i : Int) + (n : Int)) = (i : Int) + (n : Int) := by rw [IntKind.wrap_i64]; omega
        have hwj : IntKind.i64.wrap ((j : Int) + (n : Int)) = (j : Int) + (n : Int) := by rw [IntKind.wrap_i64]; omega
        have hx0 : (0 : Int) ≤ (i : Int) + (n : Int) := by omega
        have hy0 : (0 : Int) ≤ (j : Int) + (n : Int) := by omega
        have hii : (i : Int) + (n : Int) < (p.length : Int) := by omega
        have hjj : (j : Int) + (n : Int) < (p.length : Int) := by omega
        have hti : ((i : Int) + (n : Int)).toNat = i + n := by omega
        have htj : ((j : Int) + (n : Int)).toNat = j + n := by omega
        clear hcells hF
        by_cases heq : p.getD (i + n) 0 = p.getD (j + n) 0
        · have hE : Kept (n + 1 + cmF p (F - (n + 1)) (i + (n + 1)) (j + (n + 1)) = cmF p F i j) := ⟨by
            rw [← KE.out, cmF_step p (by omega) heq, show F - n - 1 = F - (n + 1) from by omega, show i + n + 1 = i + (n + 1) from by omega, show j + n + 1 = j + (n + 1) from by omega]
            omega⟩
          rw [heq] at ci
          generalize p.getD (j + n) 0 = y at *
          clear heq
          go_upto_region 2 with fail
          go_quiet (fail)
          go_wp2
          go_roundw
          case rel => exact ⟨n + 1, _, rfl, by omega, hE.out, rfl⟩
          case measure => simp [intOf]; omega
        · have hE : Kept (cmF p F i j = n) := ⟨by rw [← KE.out, cmF_stop p heq]; omega⟩
          have hd3 : (p.getD (i + n) 0 == p.getD (j + n) 0) = false := by simpa using heq
          generalize p.getD (j + n) 0 = y at *
          generalize p.getD (i + n) 0 = x at *
          clear heq
          go_upto_region 2 with fail
          go_quiet (fail)
          go_wp2
          go_ret
          exact ⟨by rw [hE.out]; rfl, ⟨_, World.drewN_drewN _ _ _⟩⟩
      · have hd2 : decide ((i : Int) + (n : Int) < (p.length : Int)) = false := by simp; omega
        have hE : Kept (cmF p F i j = n) := ⟨by
          have : F - n = 0 := by omega
          rw [← KE.out, this, cmF]
          omega⟩
        clear hF
        go_upto_region 2 with fail
        go_quiet (fail)
        go_wp2
        go_ret
        exact ⟨by rw [hE.out]; rfl, ⟨_, World.drewN_drewN _ _ _⟩⟩
    · have hd1 : decide ((n : Int) < 258) = false := by simp; omega
      have hE : Kept (cmF p F i j = n) := ⟨by
        have : F - n = 0 := by omega
        rw [← KE.out, this, cmF]
        omega⟩
      clear hF
      go_upto_region 2 with fail
      go_quiet (fail)
      go_wp2
      go_ret
      exact ⟨by rw [hE.out]; rfl, ⟨_, World.drewN_drewN _ _ _⟩⟩

open Go.RowKit

/-- How long it is alike with an earlier place. -/
def snF (p : List Int) (i j : Nat) : Nat := cmF p (min 258 (p.length - i)) i j
theorem snF_le (p : List Int) (i j : Nat) : snF p i j ≤ 258 := Nat.le_trans (cmF_le p _ i j) (Nat.min_le_left _ _)
/-- The best of the places below c, and what was best ahead of them. -/
def mtF (p : List Int) (i : Nat) : Nat → Nat → Nat → Nat × Nat
  | 0, best, far => (best, far)
  | c + 1, best, far => if i - c ≤ 32768 then (if 3 ≤ snF p i c ∧ best < snF p i c then mtF p i c (snF p i c) (i - c) else mtF p i c best far) else (best, far)
def mchF (p : List Int) (i : Nat) : Nat × Nat := mtF p i i 0 0

set_option maxHeartbeats 1000000 in
set_option maxRecDepth 100000 in
theorem dmatch_any (pv : Value) (p : List Int) (i : Nat) (w : World) (hp : Rd .u8 anyB w pv p) (hi : i ≤ p.length) (hl : p.length ≤ 1073741824) :
    Calls Tryd.prog 80 #[pv, .int .i64 i] w fun e w' => e = .returned (.tuple #[.int .i64 (mchF p i).1, .int .i64 (mchF p i).2]) ∧ ∃ m, w' = w.drewN m := by
  have KP := Kept.mk hp
  clear hp
  have hii : (i : Int) ≤ 1073741824 := by omega
  go_enter Tryd.func80, Tryd.ntmps80
  go_wp2
  go_loopw [6, 7, 8] (fun bv fv jv wr => ∃ best far c m : Nat, bv = .int .i64 best ∧ fv = .int .i64 far ∧ jv = .int .i64 ((c : Int) - 1) ∧ c ≤ i ∧ best ≤ 258 ∧ mtF p i c best far = mchF p i ∧ wr = w.drewN m) (fun _ _ jv _ => (intOf jv + 1).toNat)
  case atStart => exact ⟨0, 0, i, 0, rfl, rfl, rfl, Nat.le_refl _, by omega, rfl, rfl⟩
  case round =>
    obtain ⟨best, far, c, m, rfl, rfl, rfl, hc, hbest, he, rfl⟩ := hrel
    by_cases h0 : c = 0
    · subst h0
      have KE : Kept (mchF p i = (best, far)) := ⟨by rw [← he, mtF]⟩
      clear he
      go_wp2
      go_ret2
      rw [KE.out]
      exact ⟨rfl, ⟨_, rfl⟩⟩
    · obtain ⟨j, rfl⟩ : ∃ j, c = j + 1 := ⟨c - 1, by omega⟩
      rw [show ((j + 1 : Nat) : Int) - 1 = (j : Int) from by omega]
      rw [mtF] at he
      by_cases h3 : i - j ≤ 32768
      · rw [if_pos h3] at he
        have hd1 : decide ((i : Int) - (j : Int) ≤ 32768) = true := by simp; omega
        have hsn := snF_le p i j
        have KS : Kept (Calls Tryd.prog 88 #[pv, .int .i64 i, .int .i64 j] (w.drewN m) fun e w' => e = .returned (.int .i64 (snF p i j)) ∧ ∃ m', w' = (w.drewN m).drewN m') := ⟨dsame_any pv p i j (w.drewN m) (KP.out.later (below_drewN (Below.refl w.heap.size w) m) (Nat.le_refl _)) hi (by omega) hl⟩
        obtain ⟨n, hn⟩ : ∃ n, snF p i j = n := ⟨_, rfl⟩
        rw [hn] at he hsn KS
        clear hn
        by_cases hb : 3 ≤ n ∧ best < n
        · rw [if_pos hb] at he
          have hd2 : decide ((3 : Int) ≤ (n : Int)) = true := by simp; omega
          have hd3 : decide ((best : Int) < (n : Int)) = true := by simp; omega
          have hd4 : best < n := hb.2
          have KE := Kept.mk he
          clear he hb
          go_wp2_with (go_at_call 88; refine Calls.mono KS.out (fun e w2 hp => ?_); obtain ⟨rfl, m2, rfl⟩ := hp)
          go_roundw
          case rel => exact ⟨n, i - j, j, m + m2, rfl, by congr 1; omega, rfl, by omega, hsn, KE.out, by simp⟩
          case measure => simp [intOf]
        · rw [if_neg hb] at he
          have KE := Kept.mk he
          clear he
          by_cases h3n : 3 ≤ n
          · have hd2 : decide ((3 : Int) ≤ (n : Int)) = true := by simp; omega
            have hd3 : decide ((best : Int) < (n : Int)) = false := by simp; omega
            have hd4 : ¬ best < n := fun e => hb ⟨h3n, e⟩
            clear hb
            go_wp2_with (go_at_call 88; refine Calls.mono KS.out (fun e w2 hp => ?_); obtain ⟨rfl, m2, rfl⟩ := hp)
            go_roundw
            case rel => exact ⟨best, far, j, m + m2, rfl, rfl, rfl, by omega, hbest, KE.out, by simp⟩
            case measure => simp [intOf]
          · have hd2 : decide ((3 : Int) ≤ (n : Int)) = false := by simp; omega
            clear hb
            go_wp2_with (go_at_call 88; refine Calls.mono KS.out (fun e w2 hp => ?_); obtain ⟨rfl, m2, rfl⟩ := hp)
            go_roundw
            case rel => exact ⟨best, far, j, m + m2, rfl, rfl, rfl, by omega, hbest, KE.out, by simp⟩
            case measure => simp [intOf]
      · rw [if_neg h3] at he
        have hd1 : decide ((i : Int) - (j : Int) ≤ 32768) = false := by simp; omega
        have KE : Kept (mchF p i = (best, far)) := ⟨he.symm⟩
        clear he
        go_wp2
        go_ret2
        rw [KE.out]
        exact ⟨rfl, ⟨_, rfl⟩⟩

open Go.RowKit

theorem snF_len (p : List Int) (i j : Nat) : snF p i j ≤ p.length - i := Nat.le_trans (cmF_le p _ i j) (Nat.min_le_right _ _)
/-- What a match may be. -/
def MOk (p : List Int) (i : Nat) (r : Nat × Nat) : Prop := r = (0, 0) ∨ (3 ≤ r.1 ∧ r.1 ≤ 258 ∧ r.1 ≤ p.length - i ∧ 1 ≤ r.2 ∧ r.2 ≤ 32768 ∧ r.2 ≤ i ∧ r.1 = snF p i (i - r.2))
theorem mtF_ok (p : List Int) (i : Nat) : ∀ (c best far : Nat), c ≤ i → MOk p i (best, far) → MOk p i (mtF p i c best far)
  | 0, _, _, _, h => h
  | c + 1, best, far, hc, h => by
    rw [mtF]
    by_cases h3 : i - c ≤ 32768
    · rw [if_pos h3]
      by_cases hb : 3 ≤ snF p i c ∧ best < snF p i c
      · rw [if_pos hb]
        refine mtF_ok p i c _ _ (by omega) (Or.inr ⟨hb.1, snF_le p i c, snF_len p i c, by simp only; omega, h3, by simp only; omega, ?_⟩)
        simp only
        rw [show i - (i - c) = c from by omega]
      · rw [if_neg hb]
        exact mtF_ok p i c best far (by omega) h
    · rw [if_neg h3]
      exact h
theorem mchF_ok (p : List Int) (i : Nat) : MOk p i (mchF p i) := mtF_ok p i i 0 0 (Nat.le_refl _) (Or.inl rfl)

/-- The bits of what stands from a place on. -/
def tkF (p : List Int) : Nat → Nat → List Int
  | 0, _ => []
  | f + 1, i => if i < p.length then (if (mchF p i).1 = 0 then symL (p.getD i 0).toNat ++ tkF p f (i + 1) else lenL ((mchF p i).1 - 3) ++ (distL ((mchF p i).2 - 1) ++ tkF p f (i + (mchF p i).1))) else []
theorem tkF_fuel (p : List Int) : ∀ (f g i : Nat), p.length - i ≤ f → p.length - i ≤ g → tkF p f i = tkF p g i
  | 0, 0, _, _, _ => rfl
  | 0, g + 1, i, h, _ => by rw [tkF, tkF, if_neg (by omega)]
  | f + 1, 0, i, _, h => by rw [tkF, tkF, if_neg (by omega)]
  | f + 1, g + 1, i, h1, h2 => by
    rw [tkF, tkF]
    by_cases hi : i < p.length
    · rw [if_pos hi, if_pos hi]
      by_cases h0 : (mchF p i).1 = 0
      · rw [if_pos h0, if_pos h0, tkF_fuel p f g (i + 1) (by omega) (by omega)]
      · rw [if_neg h0, if_neg h0, tkF_fuel p f g (i + (mchF p i).1) (by omega) (by omega)]
    · rw [if_neg hi, if_neg hi]
def tksL (p : List Int) (i : Nat) : List Int := tkF p p.length i
theorem tksL_end {p : List Int} {i : Nat} (h : p.length ≤ i) : tksL p i = [] := by
  unfold tksL
  cases p.length with
  | zero => rfl
  | succ n => rw [tkF, if_neg (by omega)]
theorem tksL_lit {p : List Int} {i : Nat} (h : i < p.length) (h0 : (mchF p i).1 = 0) : tksL p i = symL (p.getD i 0).toNat ++ tksL p (i + 1) := by
  unfold tksL
  rw [tkF_fuel p p.length (p.length + 1) i (by omega) (by omega), tkF, if_pos h, if_pos h0]
theorem tksL_match {p : List Int} {i : Nat} (h : i < p.length) (h0 : ¬ (mchF p i).1 = 0) : tksL p i = lenL ((mchF p i).1 - 3) ++ (distL ((mchF p i).2 - 1) ++ tksL p (i + (mchF p i).1)) := by
  unfold tksL
  rw [tkF_fuel p p.length (p.length + 1) i (by omega) (by omega), tkF, if_pos h, if_neg h0]
/-- All bits of way 1. -/
def fixL (p : List Int) : List Int := [1] ++ bitsL 1 2 ++ tksL p 0 ++ symL 256

open Go.RowKit

theorem lenLen_all : (List.range 256).all (fun v => decide ((lenL v).length ≤ 14)) = true := by kernel_rfl
theorem lenL_length {v : Nat} (h : v ≤ 255) : (lenL v).length ≤ 14 := by
  have := List.all_eq_true.1 lenLen_all v (by simp; omega)
  simpa using this
theorem distL_length {v : Nat} (h : v < 32768) : (distL v).length ≤ 18 := by
  have g3 := lenN_small (x := v) (k := 15) (by omega)
  unfold distL
  split
  · rw [codeL_length]; omega
  · rw [List.length_append, codeL_length, bitsL_length]; omega

set_option maxHeartbeats 1000000 in
set_option maxRecDepth 100000 in
theorem dFixed_any (pv : Value) (p : List Int) (w : World) (hp : Rd .u8 anyB w pv p) (ha : AllB p) (hl : p.length ≤ 16777216) :
    Calls Tryd.prog 61 #[pv] w fun e w' => ∃ v', e = .returned v' ∧ Own .u8 5 w' w.heap.size v' (packF (fixL p)) ∧ Below w.heap.size w w' := by
  obtain ⟨pa, pc, rfl, -, -, -⟩ := hp.form
  have hpl : (p.length : Int) ≤ 16777216 := by omega
  have KP : Kept (∀ w', Below w.heap.size w w' → Rd .u8 anyB w' (.slice pa p.length pc) p) := ⟨fun w' hb => hp.later hb (Nat.le_refl _)⟩
  have KA := Kept.mk ha
  have hB0 : Bt w (w.alloc (.cells #[.slice none 0 0, .int .i64 0] 110)) w.heap.size none [] :=
    ⟨⟨.slice none 0 0, heap_alloc_new w _, Own.nil .u8 5 _ w.heap.size, rfl⟩, IsBits.nil, (Below.refl _ _).alloc (Nat.le_refl _) _, Nat.le_refl _, by simp, by simp⟩
  have K1 := Kept.mk (bit_any 1 (Or.inr rfl) hB0 (by simp))
  have K2 : Kept (∀ w1 ob1, Bt w w1 w.heap.size ob1 ([] ++ [1]) → Calls Tryd.prog 79 #[.pointer (some ⟨w.heap.size, 0, none⟩), .int .i64 1, .int .i64 2] w1 fun e w' => AfterB w w1 w' w.heap.size ob1 ([1] ++ bitsL 1 2) e) := ⟨fun w1 ob1 hB => dnumber4_any 1 2 (by omega) (by omega) hB (by simp)⟩
  clear hp ha hB0
  go_enter Tryd.func61, Tryd.ntmps61
  go_wp2_with (first | (go_at_call 78; refine Calls.mono K1.out (fun e w1 hp => ?_); obtain ⟨rfl, ob1, hB1, hM1⟩ := hp; have K3 := Kept.mk (K2.out w1 ob1 hB1); clear hB1 hM1) | (go_at_call 79; refine Calls.mono K3.out (fun e w2 hp => ?_); obtain ⟨rfl, ob2, hB2, hM2⟩ := hp; have KB2 := Kept.mk hB2; clear hB2 hM2))
  go_loopw [4] (fun iv wr => ∃ (i : Nat) (ob : Option Nat) (L : List Int), iv = .int .i64 i ∧ i ≤ p.length ∧ Bt w wr w.heap.size ob L ∧ L ++ tksL p i = [1] ++ bitsL 1 2 ++ tksL p 0 ∧ L.length ≤ 32 * i + 3) (fun iv _ => p.length - (intOf iv).toNat)
  case atStart => exact ⟨0, ob2, _, rfl, Nat.zero_le _, KB2.out, rfl, by simp [bitsL_length]⟩
  case round =>
    obtain ⟨i, ob, L, rfl, hi, hB, he, hL⟩ := hrel
    have KB := Kept.mk hB
    by_cases hlt : i < p.length
    · have hlti : (i : Int) < (p.length : Int) := by omega
      have hd1 : decide ((i : Int) < (p.length : Int)) = true := by simp; omega
      have KMt := Kept.mk (dmatch_any _ p i wr (KP.out wr hB.bel) (by omega) (by omega))
      have hok := mchF_ok p i
      by_cases h0 : (mchF p i).1 = 0
      · have he2 := he
        rw [tksL_lit hlt h0, ← List.append_assoc] at he2
        have KE := Kept.mk he2
        obtain ⟨b, off, pc2, hs0, -, -, -, -, hcells⟩ := (KP.out wr hB.bel).open (by omega)
        simp only [Value.slice.injEq, true_and] at hs0
        obtain ⟨rfl, rfl⟩ := hs0
        have ci := hcells i hlt
        have hby := KA.out.getD (by omega) i
        rw [h0] at KMt
        have hsl := symL_length (p.getD i 0).toNat
        have KS : Kept (∀ m, Calls Tryd.prog 81 #[.pointer (some ⟨w.heap.size, 0, none⟩), .int .i64 (p.getD i 0)] (wr.drewN m) fun e w' => AfterB w (wr.drewN m) w' w.heap.size ob (L ++ symL (p.getD i 0).toNat) e) := ⟨fun m => by
          have h5 := dsymbol4_any (p.getD i 0).toNat (by omega) (KB.out.far (w' := wr.drewN m) ⟨rfl, rfl, rfl, Nat.le_refl _, fun _ _ => rfl⟩) (by omega)
          rw [Int.toNat_of_nonneg hby.1] at h5
          exact h5⟩
        clear hok hB he he2 hcells
        generalize p.getD i 0 = y at *
        generalize (mchF p i).2 = far at *
        go_wp2_with (first | (go_at_call 80; refine Calls.mono KMt.out (fun e w2 hp => ?_); obtain ⟨rfl, m, rfl⟩ := hp) | (go_at_call 81; refine Calls.mono (KS.out _) (fun e w3 hp => ?_); obtain ⟨rfl, ob3, hB3, hM3⟩ := hp; have KB3 := Kept.mk hB3; clear hB3 hM3))
        go_roundw
        case rel => exact ⟨i + 1, ob3, _, rfl, by omega, KB3.out, KE.out, by rw [List.length_append]; omega⟩
        case measure => simp [intOf]; omega
      · rcases hok with hok | ⟨q1, q2, q3, q4, q5, q6, -⟩
        · rw [hok] at h0
          exact absurd rfl h0
        have he2 := he
        rw [tksL_match hlt h0, ← List.append_assoc, ← List.append_assoc] at he2
        obtain ⟨v, hv⟩ : ∃ v, (mchF p i).1 = v + 3 := ⟨(mchF p i).1 - 3, by omega⟩
        obtain ⟨d, hd⟩ : ∃ d, (mchF p i).2 = d + 1 := ⟨(mchF p i).2 - 1, by omega⟩
        rw [hv, hd] at KMt he2
        rw [hv] at q1 q2 q3
        rw [hd] at q4 q5 q6
        rw [Nat.add_sub_cancel, Nat.add_sub_cancel] at he2
        have hll := lenL_length (v := v) (by omega)
        have hdl := distL_length (v := d) (by omega)
        have KE := Kept.mk he2
        have KS : Kept (∀ m, Calls Tryd.prog 82 #[.pointer (some ⟨w.heap.size, 0, none⟩), .int .i64 ((v : Int) + 3)] (wr.drewN m) fun e w' => AfterB w (wr.drewN m) w' w.heap.size ob (L ++ lenL v) e) := ⟨fun m => dlength4_any v (by omega) (KB.out.far (w' := wr.drewN m) ⟨rfl, rfl, rfl, Nat.le_refl _, fun _ _ => rfl⟩) (by omega)⟩
        have KD : Kept (∀ w1 ob1, Bt w w1 w.heap.size ob1 (L ++ lenL v) → Calls Tryd.prog 83 #[.pointer (some ⟨w.heap.size, 0, none⟩), .int .i64 ((d : Int) + 1)] w1 fun e w' => AfterB w w1 w' w.heap.size ob1 (L ++ lenL v ++ distL d) e) := ⟨fun w1 ob1 hW => ddistance4_any d (by omega) hW (by rw [List.length_append]; omega)⟩
        have hv1 : (v : Int) ≤ 255 := by omega
        have hd11 : (d : Int) ≤ 32767 := by omega
        have hv0 : ¬ (v : Int) + 3 = 0 := by omega
        clear hB he he2 h0 hv hd
        go_wp2_with (first | (go_at_call 80; refine Calls.mono KMt.out (fun e w2 hp => ?_); obtain ⟨rfl, m, rfl⟩ := hp) | (go_at_call 82; refine Calls.mono (KS.out _) (fun e w3 hp => ?_); obtain ⟨rfl, ob3, hB3, hM3⟩ := hp; have KD3 := Kept.mk (KD.out w3 ob3 hB3); clear hB3 hM3) | (go_at_call 83; refine Calls.mono KD3.out (fun e w4 hp => ?_); obtain ⟨rfl, ob4, hB4, hM4⟩ := hp; have KB4 := Kept.mk hB4; clear hB4 hM4))
        go_roundw
        case rel => exact ⟨i + (v + 3), ob4, _, by congr 1, by omega, KB4.out, KE.out, by simp only [List.length_append]; omega⟩
        case measure => simp [intOf]; omega
    · have hd1 : decide ((i : Int) < (p.length : Int)) = false := by simp; omega
      have hni : ¬ (i : Int) < (p.length : Int) := by omega
      rw [tksL_end (by omega), List.append_nil] at he
      have KE : Kept (L ++ symL 256 = fixL p) := ⟨by rw [he]; rfl⟩
      have KS := Kept.mk (dsymbol4_any 256 (by omega) hB (by omega))
      clear hB he
      go_wp2_with (go_at_call 81; refine Calls.mono KS.out (fun e w3 hp => ?_); obtain ⟨rfl, ob3, hB3, hM3⟩ := hp; obtain ⟨ov, hD3, ho3, -⟩ := hB3.blk; have c03 := hD3.c0; have KO3 := Kept.mk ho3; have KB3 := Kept.mk hB3.bel; clear hB3 hM3 hD3 ho3)
      go_ret
      exact ⟨_, rfl, by rw [← KE.out]; exact KO3.out, KB3.out⟩

open Go.RowKit

/-- A stream, by its way. -/
def dfF (p : List Int) (way : Int) : List Int := if way = 0 then storedL p else if way = 2 ∧ (storedL p).length ≤ (packF (fixL p)).length then storedL p else packF (fixL p)

/-- What Deflate answers: bytes, and an error's number. -/
def dflF (p : List Int) (way : Int) : List Int × Int := if way < 0 ∨ 2 < way then ([], 1) else if 1048576 < p.length then ([], 2) else (dfF p way, 0)

set_option maxHeartbeats 1000000 in
set_option maxRecDepth 100000 in
theorem dDeflate_any (pv : Value) (p : List Int) (way : Int) (w : World) (hp : Rd .u8 anyB w pv p) (ha : AllB p) (hl : p.length ≤ 16777216) :
    Calls Tryd.prog 36 #[pv, .int .i64 way] w fun e w' => ∃ v', e = .returned v' ∧ Own .u8 5 w' w.heap.size v' (dfF p way) ∧ Below w.heap.size w w' := by
  have KS := Kept.mk (dStored_any pv p w hp (by omega))
  have KF : Kept (∀ w', Below w.heap.size w w' → Calls Tryd.prog 61 #[pv] w' fun e w2 => ∃ v', e = .returned v' ∧ Own .u8 5 w2 w'.heap.size v' (packF (fixL p)) ∧ Below w'.heap.size w' w2) := ⟨fun w' hb => dFixed_any pv p w' (hp.later hb (Nat.le_refl _)) ha hl⟩
  clear hp ha
  by_cases h0 : way = 0
  · subst h0
    have KE : Kept (dfF p 0 = storedL p) := ⟨by unfold dfF; rw [if_pos rfl]⟩
    go_enter Tryd.func36, Tryd.ntmps36
    go_wp2_with (go_at_call 60; refine Calls.mono KS.out (fun e w1 hp => ?_); obtain ⟨v1, rfl, ho1, hb1⟩ := hp; have KO1 := Kept.mk ho1; have KB1 := Kept.mk hb1; clear ho1 hb1)
    go_ret
    exact ⟨_, rfl, by rw [KE.out]; exact KO1.out, KB1.out⟩
  · have hd0 : (way == 0) = false := by simpa using h0
    by_cases h2 : way = 2
    · subst h2
      by_cases hc : (storedL p).length ≤ (packF (fixL p)).length
      · have KE : Kept (dfF p 2 = storedL p) := ⟨by unfold dfF; rw [if_neg (by omega), if_pos ⟨rfl, hc⟩]⟩
        have hci : ((storedL p).length : Int) ≤ ((packF (fixL p)).length : Int) := by omega
        generalize packF (fixL p) = F at *
        generalize storedL p = S at *
        go_enter Tryd.func36, Tryd.ntmps36
        go_wp2_with (first | (go_at_call 60; refine Calls.mono KS.out (fun e w1 hp => ?_); obtain ⟨v1, rfl, ho1, hb1⟩ := hp; obtain ⟨a1, c1, rfl, -, -, -⟩ := ho1.rd.form; have KO1 := Kept.mk ho1; have KB1 := Kept.mk hb1; have KF1 := Kept.mk (KF.out w1 hb1); clear ho1 hb1) | (go_at_call 61; refine Calls.mono KF1.out (fun e w2 hp => ?_); obtain ⟨v2, rfl, ho2, hb2⟩ := hp; obtain ⟨a2, c2, rfl, -, -, -⟩ := ho2.rd.form; have KO2 := Kept.mk ho2; have KB2 := Kept.mk hb2; clear ho2 hb2))
        go_ret
        exact ⟨_, rfl, by rw [KE.out]; exact KO1.out.later KB2.out (Nat.le_refl _), KB1.out.trans (KB2.out.mono KB1.out.size)⟩
      · have KE : Kept (dfF p 2 = packF (fixL p)) := ⟨by unfold dfF; rw [if_neg (by omega), if_neg (fun e => hc e.2)]⟩
        have hci : ¬ ((storedL p).length : Int) ≤ ((packF (fixL p)).length : Int) := by omega
        generalize packF (fixL p) = F at *
        generalize storedL p = S at *
        go_enter Tryd.func36, Tryd.ntmps36
        go_wp2_with (first | (go_at_call 60; refine Calls.mono KS.out (fun e w1 hp => ?_); obtain ⟨v1, rfl, ho1, hb1⟩ := hp; obtain ⟨a1, c1, rfl, -, -, -⟩ := ho1.rd.form; have KO1 := Kept.mk ho1; have KB1 := Kept.mk hb1; have KF1 := Kept.mk (KF.out w1 hb1); clear ho1 hb1) | (go_at_call 61; refine Calls.mono KF1.out (fun e w2 hp => ?_); obtain ⟨v2, rfl, ho2, hb2⟩ := hp; obtain ⟨a2, c2, rfl, -, -, -⟩ := ho2.rd.form; have KO2 := Kept.mk ho2; have KB2 := Kept.mk hb2; clear ho2 hb2))
        go_ret
        exact ⟨_, rfl, by rw [KE.out]; exact KO2.out.mono KB1.out.size, KB1.out.trans (KB2.out.mono KB1.out.size)⟩
    · have hd2 : (way == 2) = false := by simpa using h2
      have KE : Kept (dfF p way = packF (fixL p)) := ⟨by unfold dfF; rw [if_neg h0, if_neg (fun e => h2 e.1)]⟩
      generalize packF (fixL p) = F at *
      generalize storedL p = S at *
      go_enter Tryd.func36, Tryd.ntmps36
      go_wp2_with (first | (go_at_call 60; refine Calls.mono KS.out (fun e w1 hp => ?_); obtain ⟨v1, rfl, ho1, hb1⟩ := hp; have KO1 := Kept.mk ho1; have KB1 := Kept.mk hb1; have KF1 := Kept.mk (KF.out w1 hb1); clear ho1 hb1) | (go_at_call 61; refine Calls.mono KF1.out (fun e w2 hp => ?_); obtain ⟨v2, rfl, ho2, hb2⟩ := hp; have KO2 := Kept.mk ho2; have KB2 := Kept.mk hb2; clear ho2 hb2))
      go_ret
      exact ⟨_, rfl, by rw [KE.out]; exact KO2.out.mono KB1.out.size, KB1.out.trans (KB2.out.mono KB1.out.size)⟩
end Go.Proofs.YtjijkcmbbccfmaaDoor
