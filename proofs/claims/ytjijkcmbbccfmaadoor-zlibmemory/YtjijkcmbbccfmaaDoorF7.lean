/-
  Walks: length, distance.
-/
import Derived.Test.YtjijkcmbbccfmaaDoorF3
import Derived.Test.YtjijkcmbbccfmaaDoorR4
namespace Go.Proofs.YtjijkcmbbccfmaaDoor
open Go.RowKit

/-- A length's bits, by the length less 3. -/
def lenL (v : Nat) : List Int := if v = 255 then symL 285 else if v < 8 then symL (257 + v) else symL (257 + 4 * (lenN v - 3) + v / 2 ^ (lenN v - 3)) ++ bitsL ((v % 2 ^ (lenN v - 3) : Nat) : Int) (lenN v - 3)
/-- A distance's bits, by the distance less 1. -/
def distL (v : Nat) : List Int := if v < 4 then codeL v 5 else codeL (2 * (lenN v - 2) + v / 2 ^ (lenN v - 2)) 5 ++ bitsL ((v % 2 ^ (lenN v - 2) : Nat) : Int) (lenN v - 2)

theorem AfterW.next {W0 w w1 w2 : World} {rb : Nat} {ob ob1 : Option Nat} {L : List Int} {e : Ending} (h : Mq rb ob ob1 w w1) (k : AfterW W0 w1 w2 rb ob1 L e) : AfterW W0 w w2 rb ob L e := by
  obtain ⟨rfl, ob', j', h1, h2, h3⟩ := k
  exact ⟨rfl, ob', j', h1, h2, h.trans h3⟩
theorem and_low (v m : Nat) (hv : v < 65536) (hm : m ≤ 16) : bits .and .i64 (v : Int) (2 ^ m - 1) = ((v % 2 ^ m : Nat) : Int) := by
  have hp : (2 : Nat) ^ m ≤ 2 ^ 16 := Nat.pow_le_pow_right (by omega) hm
  have hp0 : 0 < (2 : Nat) ^ m := Nat.pow_pos (by omega)
  have e : (2 : Int) ^ m - 1 = ((2 ^ m - 1 : Nat) : Int) := by
    rw [Int.natCast_sub (by omega)]
    simp
  rw [e, i64_and_nat v (2 ^ m - 1) (by omega) (by omega), Nat.and_two_pow_sub_one_eq_mod]

set_option maxHeartbeats 1000000 in
set_option maxRecDepth 100000 in
theorem wlength_any {W0 w : World} {rb : Nat} {ob : Option Nat} {L : List Int} {j : Nat} (v : Nat) (hv : v ≤ 255) (h : Wt W0 w rb ob L j) (hj : L.length < 8 * j + 8) (hl : L.length + 25 ≤ 1073741824) :
    Calls Tryd.prog 41 #[.pointer (some ⟨rb, 0, none⟩), .int .i64 ((v + 3 : Nat) : Int)] w fun e w' => AfterW W0 w w' rb ob (L ++ lenL v) e := by
  unfold lenL
  by_cases h1 : v = 255
  · subst h1
    rw [if_pos rfl]
    have KC := Kept.mk (wsymbol_any 285 (by omega) h hj (by omega))
    clear h
    go_enter Tryd.func41, Tryd.ntmps41
    go_wp2_with (go_at_call 43; refine Calls.mono KC.out (fun e w2 hp => ?_); obtain ⟨rfl, hW⟩ := hp; have KW := Kept.mk hW; clear hW)
    refine bodyPost_ret (results_none rfl _ _ _) rfl ?_
    exact ⟨rfl, KW.out⟩
  · rw [if_neg h1]
    have hd1 : ¬ (v : Int) = 255 := by omega
    have hd11 : ¬ (v : Int) + 3 = 258 := by omega
    by_cases h2 : v < 8
    · rw [if_pos h2]
      have KC := Kept.mk (wsymbol_any (257 + v) (by omega) h hj (by omega))
      rw [show ((257 + v : Nat) : Int) = 257 + (v : Int) from by omega] at KC
      have hd2 : decide ((v : Int) < 8) = true := by simp; omega
      clear h
      go_enter Tryd.func41, Tryd.ntmps41
      go_wp2_with (go_at_call 43; refine Calls.mono KC.out (fun e w2 hp => ?_); obtain ⟨rfl, hW⟩ := hp; have KW := Kept.mk hW; clear hW)
      refine bodyPost_ret (results_none rfl _ _ _) rfl ?_
      exact ⟨rfl, KW.out⟩
    · rw [if_neg h2]
      have hd2 : decide ((v : Int) < 8) = false := by simp; omega
      have g1 := lenN_lt v
      have g2 := lenN_le (x := v) (by omega)
      have g3 := lenN_small (x := v) (k := 8) (by omega)
      have g4 : 4 ≤ lenN v := by
        rcases Nat.lt_or_ge (lenN v) 4 with g | g
        · have : 2 ^ lenN v ≤ 2 ^ 3 := Nat.pow_le_pow_right (by omega) (by omega)
          omega
        · exact g
      obtain ⟨m, hm⟩ : ∃ m, lenN v = m + 3 := ⟨lenN v - 3, by omega⟩
      have KL := Kept.mk (len_any v (by omega) w)
      rw [hm] at g1 g2 g3 g4 KL ⊢
      rw [show m + 3 - 3 = m from by omega]
      have hp0 : 0 < (2 : Nat) ^ m := Nat.pow_pos (by omega)
      have hp5 : (2 : Nat) ^ m ≤ 2 ^ 5 := Nat.pow_le_pow_right (by omega) (by omega)
      have hq : v / 2 ^ m < 8 := by
        rw [Nat.div_lt_iff_lt_mul hp0, Nat.mul_comm, show (8 : Nat) = 2 ^ 3 from rfl, ← Nat.pow_add]
        exact g1
      have hr : v % 2 ^ m < 2 ^ m := Nat.mod_lt _ hp0
      have hs9 := symL_length (257 + 4 * m + v / 2 ^ m)
      have KS := Kept.mk (wsymbol_any (257 + 4 * m + v / 2 ^ m) (by omega) h hj (by omega))
      rw [show ((257 + 4 * m + v / 2 ^ m : Nat) : Int) = 257 + 4 * (m : Int) + (v : Int) / 2 ^ m from by simp] at KS
      have KN : Kept (∀ w1 ob1 j1, Wt W0 w1 rb ob1 (L ++ symL (257 + 4 * m + v / 2 ^ m)) j1 → (L ++ symL (257 + 4 * m + v / 2 ^ m)).length < 8 * j1 + 8 → Calls Tryd.prog 38 #[.pointer (some ⟨rb, 0, none⟩), .int .i64 ((v % 2 ^ m : Nat) : Int), .int .i64 m] w1 fun e w' => AfterW W0 w1 w' rb ob1 (L ++ (symL (257 + 4 * m + v / 2 ^ m) ++ bitsL ((v % 2 ^ m : Nat) : Int) m)) e) := ⟨fun w1 ob1 j1 hW hlt => by
        have := wnumber_any ((v % 2 ^ m : Nat) : Int) m (by omega) (by exact_mod_cast hr) (by omega) hW hlt (by rw [List.length_append]; omega)
        rw [List.append_assoc] at this
        exact this⟩
      rw [show ((v % 2 ^ m : Nat) : Int) = (v : Int) % 2 ^ m from by simp] at KN
      have hqi : (v : Int) / 2 ^ m < 8 := by exact_mod_cast hq
      have hqi0 : 0 ≤ (v : Int) / 2 ^ m := Int.ediv_nonneg (by omega) (by have : (0 : Int) < 2 ^ m := Int.pow_pos (by omega); omega)
      have hm5 : (m : Int) ≤ 5 := by omega
      have hpi : (2 : Int) ^ m ≤ 32 := by exact_mod_cast hp5
      have hpi0 : (0 : Int) < 2 ^ m := Int.pow_pos (by omega)
      have hand := and_low v m (by omega) (by omega)
      rw [show ((v % 2 ^ m : Nat) : Int) = (v : Int) % 2 ^ m from by simp] at hand ⊢
      clear h g1 g2 hm hq hr hs9 hp0 hp5
      generalize symL (257 + 4 * m + v / 2 ^ m) = S at *
      go_enter Tryd.func41, Tryd.ntmps41
      go_wp2_with (first | (go_at_call 64; refine Calls.mono KL.out (fun e w2 hp => ?_); obtain ⟨rfl, rfl⟩ := hp) | (go_at_call 43; refine Calls.mono KS.out (fun e w2 hp => ?_); obtain ⟨rfl, ob1, j1, hW, hlt, hM⟩ := hp; have KC2 := Kept.mk (KN.out w2 ob1 j1 hW hlt); have KM := Kept.mk hM; clear hW hlt hM) | (go_at_call 38; refine Calls.mono KC2.out (fun e w3 hp => ?_); obtain ⟨rfl, hW⟩ := hp; have KW := Kept.mk hW; clear hW))
      refine bodyPost_end (results_none rfl _ _ _) rfl ?_
      exact AfterW.next KM.out ⟨rfl, KW.out⟩

set_option maxHeartbeats 1000000 in
set_option maxRecDepth 100000 in
theorem wdistance_any {W0 w : World} {rb : Nat} {ob : Option Nat} {L : List Int} {j : Nat} (v : Nat) (hv : v < 32768) (h : Wt W0 w rb ob L j) (hj : L.length < 8 * j + 8) (hl : L.length + 25 ≤ 1073741824) :
    Calls Tryd.prog 42 #[.pointer (some ⟨rb, 0, none⟩), .int .i64 ((v + 1 : Nat) : Int)] w fun e w' => AfterW W0 w w' rb ob (L ++ distL v) e := by
  unfold distL
  by_cases h2 : v < 4
  · rw [if_pos h2]
    have KC := Kept.mk (code_any v 5 (by omega) (by omega) h hj (by omega))
    have hd2 : decide ((v : Int) < 4) = true := by simp; omega
    clear h
    go_enter Tryd.func42, Tryd.ntmps42
    go_wp2_with (go_at_call 65; refine Calls.mono KC.out (fun e w2 hp => ?_); obtain ⟨rfl, hW⟩ := hp; have KW := Kept.mk hW; clear hW)
    refine bodyPost_ret (results_none rfl _ _ _) rfl ?_
    exact ⟨rfl, KW.out⟩
  · rw [if_neg h2]
    have hd2 : decide ((v : Int) < 4) = false := by simp; omega
    have g1 := lenN_lt v
    have g3 := lenN_small (x := v) (k := 15) (by omega)
    have g4 : 3 ≤ lenN v := by
      rcases Nat.lt_or_ge (lenN v) 3 with g | g
      · have : 2 ^ lenN v ≤ 2 ^ 2 := Nat.pow_le_pow_right (by omega) (by omega)
        omega
      · exact g
    obtain ⟨m, hm⟩ : ∃ m, lenN v = m + 2 := ⟨lenN v - 2, by omega⟩
    have KL := Kept.mk (len_any v (by omega) w)
    rw [hm] at g1 g3 g4 KL ⊢
    rw [show m + 2 - 2 = m from by omega]
    have hp0 : 0 < (2 : Nat) ^ m := Nat.pow_pos (by omega)
    have hp5 : (2 : Nat) ^ m ≤ 2 ^ 13 := Nat.pow_le_pow_right (by omega) (by omega)
    have hq : v / 2 ^ m < 4 := by
      rw [Nat.div_lt_iff_lt_mul hp0, Nat.mul_comm, show (4 : Nat) = 2 ^ 2 from rfl, ← Nat.pow_add]
      exact g1
    have hr : v % 2 ^ m < 2 ^ m := Nat.mod_lt _ hp0
    have KS := Kept.mk (code_any (2 * m + v / 2 ^ m) 5 (by omega) (by omega) h hj (by omega))
    rw [show ((2 * m + v / 2 ^ m : Nat) : Int) = 2 * (m : Int) + (v : Int) / 2 ^ m from by simp] at KS
    have hs5 := codeL_length (2 * m + v / 2 ^ m) 5
    have KN : Kept (∀ w1 ob1 j1, Wt W0 w1 rb ob1 (L ++ codeL (2 * m + v / 2 ^ m) 5) j1 → (L ++ codeL (2 * m + v / 2 ^ m) 5).length < 8 * j1 + 8 → Calls Tryd.prog 38 #[.pointer (some ⟨rb, 0, none⟩), .int .i64 ((v % 2 ^ m : Nat) : Int), .int .i64 m] w1 fun e w' => AfterW W0 w1 w' rb ob1 (L ++ (codeL (2 * m + v / 2 ^ m) 5 ++ bitsL ((v % 2 ^ m : Nat) : Int) m)) e) := ⟨fun w1 ob1 j1 hW hlt => by
      have := wnumber_any ((v % 2 ^ m : Nat) : Int) m (by omega) (by exact_mod_cast hr) (by omega) hW hlt (by rw [List.length_append]; omega)
      rw [List.append_assoc] at this
      exact this⟩
    rw [show ((v % 2 ^ m : Nat) : Int) = (v : Int) % 2 ^ m from by simp] at KN
    have hqi : (v : Int) / 2 ^ m < 4 := by exact_mod_cast hq
    have hqi0 : 0 ≤ (v : Int) / 2 ^ m := Int.ediv_nonneg (by omega) (by have : (0 : Int) < 2 ^ m := Int.pow_pos (by omega); omega)
    have hm5 : (m : Int) ≤ 13 := by omega
    have hpi : (2 : Int) ^ m ≤ 8192 := by exact_mod_cast hp5
    have hpi0 : (0 : Int) < 2 ^ m := Int.pow_pos (by omega)
    have hand := and_low v m (by omega) (by omega)
    rw [show ((v % 2 ^ m : Nat) : Int) = (v : Int) % 2 ^ m from by simp] at hand ⊢
    clear h g1 hm hq hr hs5 hp0 hp5
    generalize codeL (2 * m + v / 2 ^ m) 5 = S at *
    go_enter Tryd.func42, Tryd.ntmps42
    go_wp2_with (first | (go_at_call 64; refine Calls.mono KL.out (fun e w2 hp => ?_); obtain ⟨rfl, rfl⟩ := hp) | (go_at_call 65; refine Calls.mono KS.out (fun e w2 hp => ?_); obtain ⟨rfl, ob1, j1, hW, hlt, hM⟩ := hp; have KC2 := Kept.mk (KN.out w2 ob1 j1 hW hlt); have KM := Kept.mk hM; clear hW hlt hM) | (go_at_call 38; refine Calls.mono KC2.out (fun e w3 hp => ?_); obtain ⟨rfl, hW⟩ := hp; have KW := Kept.mk hW; clear hW))
    refine bodyPost_end (results_none rfl _ _ _) rfl ?_
    exact AfterW.next KM.out ⟨rfl, KW.out⟩

open Go.RowKit

/-- Numbers that are laid in a block of their own. -/
theorem Rd.many (k : IntKind) (w : World) (xs : List Int) (t : TypeId) (hm : xs.length ≤ maxLen) : Rd k anyB (w.alloc (.cells (cellsK k xs).toArray t)) (.slice (some ⟨w.heap.size, 0, none⟩) xs.length xs.length) xs := by
  refine ⟨some ⟨w.heap.size, 0, none⟩, xs.length, rfl, Nat.le_refl _, hm, (fun h => by cases h), fun _ => ⟨w.heap.size, 0, rfl, by simp, trivial, fun i hi => ?_⟩⟩
  have hb : (w.alloc (.cells (cellsK k xs).toArray t)).heap[w.heap.size]? = some (.cells (cellsK k xs).toArray t) := heap_alloc_new w _
  simp only [World.cell?, hb, Nat.zero_add]
  simp [cellsK, List.getD, List.getElem?_eq_getElem hi]

theorem not_u8 (x : Nat) (h : x < 256) : bits .xor .u8 IntKind.u8.max (x : Int) = 255 - (x : Int) := by
  have h1 := u8_xor_nat 255 x (by omega) h
  have h2 : (List.range 256).all (fun x => (255 ^^^ x) == 255 - x) = true := by kernel_rfl
  have h3 := List.all_eq_true.1 h2 x (by simpa using h)
  have h4 : 255 ^^^ x = 255 - x := by simpa using h3
  rw [h4] at h1
  have h5 : IntKind.u8.max = ((255 : Nat) : Int) := rfl
  rw [h5, h1]
  omega
/-- What stands ahead of a block of way 0. -/
def hdL (last : Int) (n : Nat) : List Int := [last, (n : Int) % 256, (n : Int) / 256 % 256, 255 - (n : Int) % 256, 255 - (n : Int) / 256 % 256]

set_option maxHeartbeats 1000000 in
set_option maxRecDepth 100000 in
theorem appendStored_any (v pv : Value) (xs p : List Int) (last : Int) (w : World) (base : Nat) (ho : Own .u8 5 w base v xs) (hbw : base ≤ w.heap.size) (hp : Rd .u8 (fun b => b < base) w pv p) (hl : xs.length + p.length + 5 ≤ 70368744177664) :
    Calls Tryd.prog 37 #[v, pv, .int .u8 last] w fun e w' => ∃ v', e = .returned v' ∧ Own .u8 5 w' base v' (xs ++ hdL last p.length ++ p) ∧ Below base w w' := by
  obtain ⟨i0, z0, hi, hz, hs, hb, hc⟩ := info8
  obtain ⟨oa, oc, rfl, -, -, -⟩ := ho.rd.form
  obtain ⟨pa, pc, rfl, -, hlc, hcm⟩ := hp.form
  have hpl : (p.length : Int) ≤ 70368744177664 := by omega
  have KO := Kept.mk ho
  have KP := Kept.mk hp
  clear ho hp hlc hcm
  go_enter Tryd.func37, Tryd.ntmps37
  have hn1 : bits .xor .u8 IntKind.u8.max ((p.length : Int) % 256) = 255 - (p.length : Int) % 256 := by
    have := not_u8 (p.length % 256) (by omega)
    rwa [show ((p.length % 256 : Nat) : Int) = (p.length : Int) % 256 from by omega] at this
  have hn2 : bits .xor .u8 IntKind.u8.max ((p.length : Int) / 256 % 256) = 255 - (p.length : Int) / 256 % 256 := by
    have := not_u8 (p.length / 256 % 256) (by omega)
    rwa [show ((p.length / 256 % 256 : Nat) : Int) = (p.length : Int) / 256 % 256 from by omega] at this
  have hr5 : Kept (Rd .u8 anyB (w.alloc (.cells #[.int .u8 last, .int .u8 ((p.length : Int) % 256), .int .u8 ((p.length : Int) / 256 % 256), .int .u8 (bits .xor .u8 IntKind.u8.max ((p.length : Int) % 256)), .int .u8 (bits .xor .u8 IntKind.u8.max ((p.length : Int) / 256 % 256))] 5)) (.slice (some ⟨w.heap.size, 0, none⟩) 5 5) (hdL last p.length)) := ⟨by rw [hn1, hn2]; exact Rd.many .u8 w (hdL last p.length) 5 (by unfold maxLen hdL; simp)⟩
  have hl5 : (hdL last p.length).length = 5 := rfl
  have KOa := Kept.mk (KO.out.alloc (.cells #[.int .u8 last, .int .u8 ((p.length : Int) % 256), .int .u8 ((p.length : Int) / 256 % 256), .int .u8 (bits .xor .u8 IntKind.u8.max ((p.length : Int) % 256)), .int .u8 (bits .xor .u8 IntKind.u8.max ((p.length : Int) / 256 % 256))] 5))
  have KBa := Kept.mk ((Below.refl base w).alloc hbw (.cells #[.int .u8 last, .int .u8 ((p.length : Int) % 256), .int .u8 ((p.length : Int) / 256 % 256), .int .u8 (bits .xor .u8 IntKind.u8.max ((p.length : Int) % 256)), .int .u8 (bits .xor .u8 IntKind.u8.max ((p.length : Int) / 256 % 256))] 5))
  clear hn1 hn2
  have hl25 : Kept ((xs ++ hdL last p.length).length = xs.length + 5) := ⟨by simp [hl5]⟩
  generalize hdL last p.length = D at *
  go_wp2_with (first | (at_builtin; refine wpList_append_rd _ rfl _ _ 22 rfl .u8 anyB 1 base 5 i0 z0 Tryd.underlying22 hi hz hs hb hc (by omega) (.slice oa xs.length oc) xs rfl KOa.out _ D rfl hr5.out (by simp; omega) (by simp; omega) ?_; intro v2 w2 hown hgrow hat; obtain ⟨na, nc, rfl, -, hl2, hcm2⟩ := hown.rd.form; have KB2 := Kept.mk (KBa.out.grown hgrow (by simp; omega) (fun k hk => (KO.out.lt k hk).1)); have hbw2 := KB2.out.size; rw [hl25.out] at hown; have KO2 := Kept.mk hown; have KP2 : Kept (Rd .u8 anyB w2 (.slice pa p.length pc) p) := ⟨KP.out.far KB2.out.size (fun b _ hb => ⟨trivial, KB2.out.block b hb⟩)⟩; clear hown hgrow hat hl2 hcm2) | (at_builtin; refine wpList_append_rd _ rfl _ _ 22 rfl .u8 anyB 1 base 5 i0 z0 Tryd.underlying22 hi hz hs hb hc (by omega) (.slice na (xs.length + 5) nc) (xs ++ D) rfl KO2.out _ p rfl KP2.out (by simp; omega) (by omega) ?_; intro v3 w3 hown3 hgrow3 hat3; have KB3 := Kept.mk (KB2.out.grown hgrow3 (by omega) (fun k hk => (KO2.out.lt k hk).1)); have KO3 := Kept.mk hown3; clear hown3 hgrow3 hat3))
  go_ret
  refine ⟨_, rfl, ?_, KB3.out⟩
  have h3 := KO3.out
  rw [List.append_assoc] at h3
  exact h3

open Go.RowKit

/-- Blocks of way 0. -/
def stGo : Nat → List Int → List Int
  | 0, p => hdL 1 p.length ++ p
  | f + 1, p => if 65535 < p.length then hdL 0 65535 ++ p.take 65535 ++ stGo f (p.drop 65535) else hdL 1 p.length ++ p
theorem stGo_fuel : ∀ (f g : Nat) (p : List Int), p.length ≤ 65535 * f → p.length ≤ 65535 * g → stGo f p = stGo g p
  | 0, 0, _, _, _ => rfl
  | 0, g + 1, p, h, _ => by rw [stGo, stGo, if_neg (by omega)]
  | f + 1, 0, p, _, h => by rw [stGo, stGo, if_neg (by omega)]
  | f + 1, g + 1, p, h1, h2 => by
    rw [stGo, stGo]
    by_cases hp : 65535 < p.length
    · rw [if_pos hp, if_pos hp, stGo_fuel f g (p.drop 65535) (by simp; omega) (by simp; omega)]
    · rw [if_neg hp, if_neg hp]
def storedL (p : List Int) : List Int := stGo p.length p
theorem storedL_more {p : List Int} (h : 65535 < p.length) : storedL p = hdL 0 65535 ++ p.take 65535 ++ storedL (p.drop 65535) := by
  unfold storedL
  obtain ⟨f, hf⟩ : ∃ f, p.length = f + 1 := ⟨p.length - 1, by omega⟩
  have e : stGo p.length p = stGo (f + 1) p := by rw [hf]
  rw [e, stGo, if_pos h, stGo_fuel f (p.drop 65535).length _ (by simp; omega) (by simp; omega)]
theorem storedL_last {p : List Int} (h : ¬ 65535 < p.length) : storedL p = hdL 1 p.length ++ p := by
  unfold storedL
  by_cases h0 : p.length = 0
  · rw [h0, stGo, h0]
  · obtain ⟨f, hf⟩ : ∃ f, p.length = f + 1 := ⟨p.length - 1, by omega⟩
    have e : stGo p.length p = stGo (f + 1) p := by rw [hf]
    rw [e, stGo, if_neg h]
theorem storedL_length : ∀ (n : Nat) (p : List Int), p.length ≤ n → (storedL p).length ≤ 6 * p.length + 5
  | n, p, h => by
    by_cases hp : 65535 < p.length
    · have := storedL_length (n - 65535) (p.drop 65535) (by simp; omega)
      rw [storedL_more hp]
      simp only [List.length_append, List.length_take, List.length_drop] at this ⊢
      have h5 : (hdL 0 65535).length = 5 := rfl
      omega
    · rw [storedL_last hp, List.length_append]
      have h5 : (hdL 1 p.length).length = 5 := rfl
      omega
termination_by n _ => n
decreasing_by omega

set_option maxHeartbeats 1000000 in
set_option maxRecDepth 100000 in
theorem storedStream_any (pv : Value) (p : List Int) (w : World) (hp : Rd .u8 anyB w pv p) (hl : p.length ≤ 1073741824) :
    Calls Tryd.prog 23 #[pv] w fun e w' => ∃ v', e = .returned v' ∧ Own .u8 5 w' w.heap.size v' (storedL p) ∧ Below w.heap.size w w' := by
  have hp' : Rd .u8 (fun b => b < w.heap.size) w pv p := hp.weak fun b hb _ => hb
  have KP := Kept.mk hp'
  clear hp hp'
  go_enter Tryd.func23, Tryd.ntmps23
  go_wp2
  go_loopw [0, 3] (fun pu ov wr => ∃ q X, Rd .u8 (fun b => b < w.heap.size) wr pu q ∧ Own .u8 5 wr w.heap.size ov X ∧ X ++ storedL q = storedL p ∧ q.length ≤ p.length ∧ Below w.heap.size w wr) (fun pu _ _ => match pu with | .slice _ n _ => n | _ => 0)
  case atStart => exact ⟨p, [], KP.out, Own.nil .u8 5 w w.heap.size, by simp, Nat.le_refl _, Below.refl _ _⟩
  case round =>
    obtain ⟨q, X, hr, hX, he, hq, hbel⟩ := hrel
    obtain ⟨qa, qc, rfl, -, hqc, hqm⟩ := hr.form
    have hsl := storedL_length _ p (Nat.le_refl _)
    have hXl : X.length ≤ 6 * p.length + 5 := by
      rw [← he, List.length_append] at hsl
      omega
    have hwz := hbel.size
    by_cases h6 : 65535 < q.length
    · have h6i : (65535 : Int) < (q.length : Int) := by omega
      obtain ⟨b, off, qc2, hs0, -, -, -, -⟩ := hr.open (by omega)
      simp only [Value.slice.injEq, true_and] at hs0
      obtain ⟨rfl, rfl⟩ := hs0
      obtain ⟨a1, g1, hr1⟩ := hr.piece (i := 0) (j := 65535) (by omega) (by omega)
      obtain ⟨a2, g2, hr2⟩ := hr.piece (i := 65535) (j := q.length) (by omega) (Nat.le_refl _)
      have hq0 : q ≠ [] := by intro e; rw [e] at h6; simp at h6
      have ga1 : a1 = some ⟨b, off, none⟩ := (g1 b off rfl).elim id (fun e => absurd e hq0)
      have ga2 : a2 = some ⟨b, off + 65535, none⟩ := (g2 b off rfl).elim id (fun e => absurd e hq0)
      rw [ga1] at hr1
      rw [ga2] at hr2
      simp only [Nat.sub_zero, List.drop_zero] at hr1
      rw [List.take_length] at hr2
      have ht : (q.take 65535).length = 65535 := by simp; omega
      have KA := Kept.mk (appendStored_any _ _ X (q.take 65535) 0 wr w.heap.size hX hwz hr1 (by rw [ht]; omega))
      have KE : Kept (X ++ hdL 0 65535 ++ q.take 65535 ++ storedL (q.drop 65535) = storedL p) := ⟨by rw [← he, storedL_more h6]; simp only [List.append_assoc]⟩
      have KR2 := Kept.mk hr2
      have KB := Kept.mk hbel
      have hc1 : (q.length : Int) ≤ (qc : Int) := by omega
      have hc2 : (65535 : Int) ≤ (qc : Int) := by omega
      have hc3 : (65535 : Int) ≤ (q.length : Int) := by omega
      clear hr hX he hbel hqm hr1 hr2 g1 g2 ga1 ga2
      go_wp2_with (go_at_call 37; refine Calls.mono KA.out (fun e w2 hp => ?_); obtain ⟨v2, rfl, ho2, hb2⟩ := hp; have KO2 := Kept.mk ho2; have KB2 := Kept.mk hb2; clear ho2 hb2)
      go_roundw
      case rel =>
        refine ⟨q.drop 65535, X ++ hdL 0 65535 ++ q.take 65535, ?_, ?_, KE.out, by simp; omega, KB.out.trans KB2.out⟩
        · exact KR2.out.far KB2.out.size (fun b _ hb => ⟨hb, KB2.out.block b hb⟩)
        · have := KO2.out
          rw [ht] at this
          exact this
      case measure => simp; omega
    · have h6i : ¬ (65535 : Int) < (q.length : Int) := by omega
      have KA := Kept.mk (appendStored_any _ _ X q 1 wr w.heap.size hX hwz hr (by omega))
      have KE : Kept (X ++ hdL 1 q.length ++ q = storedL p) := ⟨by rw [← he, storedL_last h6, List.append_assoc]⟩
      have KB := Kept.mk hbel
      clear hr hX he hbel hqm
      go_wp2_with (go_at_call 37; refine Calls.mono KA.out (fun e w2 hp => ?_); obtain ⟨v2, rfl, ho2, hb2⟩ := hp; have KO2 := Kept.mk ho2; have KB2 := Kept.mk hb2; clear ho2 hb2)
      go_ret
      refine ⟨_, rfl, ?_, KB.out.trans KB2.out⟩
      rw [← KE.out]
      exact KO2.out

open Go.RowKit

/-- The five bytes as the walk lays them. -/
abbrev rawO (last : Int) (n : Nat) : Obj := .cells #[.int .u8 last, .int .u8 ((n : Int) % 256), .int .u8 ((n : Int) / 256 % 256), .int .u8 (bits .xor .u8 IntKind.u8.max ((n : Int) % 256)), .int .u8 (bits .xor .u8 IntKind.u8.max ((n : Int) / 256 % 256))] 5
abbrev rawM : Obj := .cells #[.int .u8 0, .int .u8 255, .int .u8 255, .int .u8 (bits .xor .u8 IntKind.u8.max 255), .int .u8 (bits .xor .u8 IntKind.u8.max 255)] 5
theorem raw_rd (last : Int) (n : Nat) (w : World) : Rd .u8 anyB (w.alloc (rawO last n)) (.slice (some ⟨w.heap.size, 0, none⟩) 5 5) (hdL last n) := by
  have hn1 : bits .xor .u8 IntKind.u8.max ((n : Int) % 256) = 255 - (n : Int) % 256 := by
    have := not_u8 (n % 256) (by omega)
    rwa [show ((n % 256 : Nat) : Int) = (n : Int) % 256 from by omega] at this
  have hn2 : bits .xor .u8 IntKind.u8.max ((n : Int) / 256 % 256) = 255 - (n : Int) / 256 % 256 := by
    have := not_u8 (n / 256 % 256) (by omega)
    rwa [show ((n / 256 % 256 : Nat) : Int) = (n : Int) / 256 % 256 from by omega] at this
  unfold rawO
  rw [hn1, hn2]
  exact Rd.many .u8 w (hdL last n) 5 (by unfold maxLen hdL; simp)
theorem raw_rdM (w : World) : Rd .u8 anyB (w.alloc rawM) (.slice (some ⟨w.heap.size, 0, none⟩) 5 5) (hdL 0 65535) := raw_rd 0 65535 w

set_option maxHeartbeats 1000000 in
set_option maxRecDepth 100000 in
theorem dStored_any (pv : Value) (p : List Int) (w : World) (hp : Rd .u8 anyB w pv p) (hl : p.length ≤ 1073741824) :
    Calls Tryd.prog 60 #[pv] w fun e w' => ∃ v', e = .returned v' ∧ Own .u8 5 w' w.heap.size v' (storedL p) ∧ Below w.heap.size w w' := by
  obtain ⟨i0, z0, hi, hz, hs, hb, hc⟩ := info8
  have hp' : Rd .u8 (fun b => b < w.heap.size) w pv p := hp.weak fun b hb _ => hb
  have KP := Kept.mk hp'
  clear hp hp'
  go_enter Tryd.func60, Tryd.ntmps60
  go_wp2
  go_loopw [0, 3] (fun pu ov wr => ∃ q X, Rd .u8 (fun b => b < w.heap.size) wr pu q ∧ Own .u8 5 wr w.heap.size ov X ∧ X ++ storedL q = storedL p ∧ q.length ≤ p.length ∧ Below w.heap.size w wr) (fun pu _ _ => match pu with | .slice _ n _ => n | _ => 0)
  case atStart => exact ⟨p, [], KP.out, Own.nil .u8 5 w w.heap.size, by simp, Nat.le_refl _, Below.refl _ _⟩
  case round =>
    obtain ⟨q, X, hr, hX, he, hq, hbel⟩ := hrel
    obtain ⟨qa, qc, rfl, hqn, hqc, hqm⟩ := hr.form
    obtain ⟨oa, oc, rfl, -, -, -⟩ := hX.rd.form
    have hsl := storedL_length _ p (Nat.le_refl _)
    have hXl : X.length ≤ 6 * p.length + 5 := by
      rw [← he, List.length_append] at hsl
      omega
    have hwz := hbel.size
    by_cases h6 : 65535 < q.length
    · have h6i : (65535 : Int) ≤ (q.length : Int) := by omega
      have h6n : ¬ (65535 : Int) = (q.length : Int) := by omega
      have hmn : min (q.length : Int) 65535 = 65535 := by omega
      obtain ⟨b, off, qc2, hs0, -, -, -, -⟩ := hr.open (by omega)
      simp only [Value.slice.injEq, true_and] at hs0
      obtain ⟨rfl, rfl⟩ := hs0
      obtain ⟨a1, g1, hr1⟩ := hr.piece (i := 0) (j := 65535) (by omega) (by omega)
      obtain ⟨a2, g2, hr2⟩ := hr.piece (i := 65535) (j := q.length) (by omega) (Nat.le_refl _)
      have hq0 : q ≠ [] := by intro e; rw [e] at h6; simp at h6
      have ga1 : a1 = some ⟨b, off, none⟩ := (g1 b off rfl).elim id (fun e => absurd e hq0)
      have ga2 : a2 = some ⟨b, off + 65535, none⟩ := (g2 b off rfl).elim id (fun e => absurd e hq0)
      rw [ga1] at hr1
      rw [ga2] at hr2
      simp only [Nat.sub_zero, List.drop_zero] at hr1
      rw [List.take_length] at hr2
      have ht : (q.take 65535).length = 65535 := by simp; omega
      have KE : Kept (X ++ hdL 0 65535 ++ q.take 65535 ++ storedL (q.drop 65535) = storedL p) := ⟨by rw [← he, storedL_more h6]; simp only [List.append_assoc]⟩
      have KR1 := Kept.mk hr1
      have KR2 := Kept.mk hr2
      have KB := Kept.mk hbel
      have KX := Kept.mk hX
      have hc1 : (q.length : Int) ≤ (qc : Int) := by omega
      have hc2 : (65535 : Int) ≤ (qc : Int) := by omega
      clear hr hX he hbel hqm hr1 hr2 g1 g2 ga1 ga2
      have hl5 : (hdL 0 65535).length = 5 := rfl
      have KOa := Kept.mk (KX.out.alloc rawM)
      have KBa := Kept.mk ((Below.refl w.heap.size wr).alloc hwz rawM)
      have hr5 := Kept.mk (raw_rdM wr)
      have hl25 : Kept ((X ++ hdL 0 65535).length = X.length + 5) := ⟨by simp [hl5]⟩
      have KT : Kept ((q.take 65535).length = 65535) := ⟨ht⟩
      generalize hdL 0 65535 = D at *
      generalize hQ1 : q.take 65535 = Q1 at *
      have KQ1 := Kept.mk hQ1
      clear hQ1
      go_wp2_with (first | (at_builtin; refine wpList_append_rd _ rfl _ _ 22 rfl .u8 anyB 1 w.heap.size 5 i0 z0 Tryd.underlying22 hi hz hs hb hc (by omega) (.slice oa X.length oc) X rfl KOa.out _ D rfl hr5.out (by simp; omega) (by simp; omega) ?_; intro v2 w2 hown hgrow hat; obtain ⟨na, nc, rfl, -, hl2, hcm2⟩ := hown.rd.form; have KB2 := Kept.mk (KBa.out.grown hgrow (by simp; omega) (fun k hk => (KX.out.lt k hk).1)); have hbw2 := KB2.out.size; rw [hl25.out] at hown; have KO2 := Kept.mk hown; have KP2 : Kept (Rd .u8 anyB w2 (.slice (some ⟨b, off, none⟩) 65535 qc) Q1) := ⟨KR1.out.far KB2.out.size (fun b _ hb => ⟨trivial, KB2.out.block b hb⟩)⟩; clear hown hgrow hat hl2 hcm2) | (at_builtin; refine wpList_append_rd _ rfl _ _ 22 rfl .u8 anyB 1 w.heap.size 5 i0 z0 Tryd.underlying22 hi hz hs hb hc (by omega) (.slice na (X.length + 5) nc) (X ++ D) rfl KO2.out _ Q1 rfl KP2.out (by simp; omega) (by omega) ?_; intro v3 w3 hown3 hgrow3 hat3; have KB3 := Kept.mk (KB2.out.grown hgrow3 (by omega) (fun k hk => (KO2.out.lt k hk).1)); have KO3 := Kept.mk hown3; clear hown3 hgrow3 hat3))
      go_roundw
      case rel => exact ⟨q.drop 65535, X ++ D ++ Q1, KR2.out.far KB3.out.size (fun b _ hb => ⟨hb, KB3.out.block b hb⟩), KO3.out, KE.out, by simp; omega, KB.out.trans KB3.out⟩
      case measure => simp; omega
    · have h6i : (q.length : Int) ≤ 65535 := by omega
      have hmn : min (q.length : Int) 65535 = (q.length : Int) := by omega
      have KE : Kept (X ++ hdL 1 q.length ++ q = storedL p) := ⟨by rw [← he, storedL_last h6, List.append_assoc]⟩
      have KB := Kept.mk hbel
      have KX := Kept.mk hX
      have KR := Kept.mk hr
      clear hr hX he hbel hqm
      have hl5 : (hdL 1 q.length).length = 5 := rfl
      have KOa := Kept.mk (KX.out.alloc (rawO 1 q.length))
      have KBa := Kept.mk ((Below.refl w.heap.size wr).alloc hwz (rawO 1 q.length))
      have hr5 := Kept.mk (raw_rd 1 q.length wr)
      have hl25 : Kept ((X ++ hdL 1 q.length).length = X.length + 5) := ⟨by simp [hl5]⟩
      have hqci : (q.length : Int) ≤ (qc : Int) := by omega
      generalize hdL 1 q.length = D at *
      rcases qa with _ | ⟨ad⟩
      · obtain rfl := hqn rfl
        obtain rfl : q = [] := List.eq_nil_of_length_eq_zero (by omega)
        simp only [List.length_nil] at *
        go_wp2_with (first | (at_builtin; refine wpList_append_rd _ rfl _ _ 22 rfl .u8 anyB 1 w.heap.size 5 i0 z0 Tryd.underlying22 hi hz hs hb hc (by omega) (.slice oa X.length oc) X rfl KOa.out _ D rfl hr5.out (by simp; omega) (by simp; omega) ?_; intro v2 w2 hown hgrow hat; obtain ⟨na, nc, rfl, -, hl2, hcm2⟩ := hown.rd.form; have KB2 := Kept.mk (KBa.out.grown hgrow (by simp; omega) (fun k hk => (KX.out.lt k hk).1)); have hbw2 := KB2.out.size; rw [hl25.out] at hown; have KO2 := Kept.mk hown; have KP2 : Kept (Rd .u8 anyB w2 (.slice none 0 0) []) := ⟨KR.out.far KB2.out.size (fun b _ hb => ⟨trivial, KB2.out.block b hb⟩)⟩; clear hown hgrow hat hl2 hcm2) | (at_builtin; refine wpList_append_rd _ rfl _ _ 22 rfl .u8 anyB 1 w.heap.size 5 i0 z0 Tryd.underlying22 hi hz hs hb hc (by omega) (.slice na (X.length + 5) nc) (X ++ D) rfl KO2.out _ [] rfl KP2.out (by simp; omega) (by omega) ?_; intro v3 w3 hown3 hgrow3 hat3; have KB3 := Kept.mk (KB2.out.grown hgrow3 (by omega) (fun k hk => (KO2.out.lt k hk).1)); have KO3 := Kept.mk hown3; clear hown3 hgrow3 hat3))
        go_ret
        refine ⟨_, rfl, ?_, KB.out.trans KB3.out⟩
        rw [← KE.out]
        exact KO3.out
      · clear hqn
        have e256 : (q.length : Int) / 256 % 256 = (q.length : Int) / 256 := by omega
        unfold rawO at KOa KBa hr5
        rw [e256] at KOa KBa hr5
        clear e256
        go_wp2_with (first | (at_builtin; refine wpList_append_rd _ rfl _ _ 22 rfl .u8 anyB 1 w.heap.size 5 i0 z0 Tryd.underlying22 hi hz hs hb hc (by omega) (.slice oa X.length oc) X rfl KOa.out _ D rfl hr5.out (by simp; omega) (by simp; omega) ?_; intro v2 w2 hown hgrow hat; obtain ⟨na, nc, rfl, -, hl2, hcm2⟩ := hown.rd.form; have KB2 := Kept.mk (KBa.out.grown hgrow (by simp; omega) (fun k hk => (KX.out.lt k hk).1)); have hbw2 := KB2.out.size; rw [hl25.out] at hown; have KO2 := Kept.mk hown; have KP2 : Kept (Rd .u8 anyB w2 (.slice (some ad) q.length qc) q) := ⟨KR.out.far KB2.out.size (fun b _ hb => ⟨trivial, KB2.out.block b hb⟩)⟩; clear hown hgrow hat hl2 hcm2) | (at_builtin; refine wpList_append_rd _ rfl _ _ 22 rfl .u8 anyB 1 w.heap.size 5 i0 z0 Tryd.underlying22 hi hz hs hb hc (by omega) (.slice na (X.length + 5) nc) (X ++ D) rfl KO2.out _ q rfl KP2.out (by simp; omega) (by omega) ?_; intro v3 w3 hown3 hgrow3 hat3; have KB3 := Kept.mk (KB2.out.grown hgrow3 (by omega) (fun k hk => (KO2.out.lt k hk).1)); have KO3 := Kept.mk hown3; clear hown3 hgrow3 hat3))
        all_goals
          go_ret
          refine ⟨_, rfl, ?_, KB.out.trans KB3.out⟩
          rw [← KE.out]
          exact KO3.out
end Go.Proofs.YtjijkcmbbccfmaaDoor
