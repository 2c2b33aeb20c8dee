/-
  formatBits at base eight.
-/
import Derived.Test.YtkbalngddlhlpaaGreatDoorO1
namespace Go.Proofs.YtkbalngddlhlpaaGreatDoor
open Go.RowKit

def bufF (D : List Int) : List Int := List.replicate (65 - D.length) 0 ++ D
theorem bufF_length (D : List Int) (h : D.length ≤ 65) : (bufF D).length = 65 := by simp [bufF]; omega
theorem bufF_put (D : List Int) (x : Int) (h : D.length < 65) : (bufF D).set (64 - D.length) x = bufF (x :: D) := by
  unfold bufF
  rw [List.length_cons, show 65 - D.length = (64 - D.length) + 1 from by omega, List.replicate_succ', List.append_assoc, List.set_append_right _ _ (by simp), List.length_replicate, Nat.sub_self]
  rw [show 65 - (D.length + 1) = 64 - D.length from by omega]
  rfl
theorem octF_step (f u : Nat) (h : 8 ≤ u) : octF (f + 1) u = octF f (u / 8) ++ [48 + ((u % 8 : Nat) : Int)] := by
  rw [octF, if_neg (by omega)]
theorem octF_small (f u : Nat) (h : u < 8) : octF f u = [48 + (u : Int)] := by
  cases f with
  | zero => rfl
  | succ f => rw [octF, if_pos h]
theorem oct_room (u u0 d : Nat) (h0 : u0 < 18446744073709551616) (h8 : 8 ≤ u) (hm : u * 8 ^ d ≤ u0) : d ≤ 20 := by
  rcases Nat.lt_or_ge 20 d with h | h
  · exfalso
    have hp : (8 : Nat) ^ 21 ≤ 8 ^ d := Nat.pow_le_pow_right (by omega) h
    have h2 : 8 * 8 ^ 21 ≤ u * 8 ^ d := Nat.mul_le_mul h8 hp
    have e : 8 * (8 : Nat) ^ 21 = 73786976294838206464 := by decide
    omega
  · exact h
theorem slice65 (w : World) (g j : Nat) (hj : j < 65) : (Instr.sliceAt 155 (.pointer (some ⟨g, 0, none⟩)) (some (.int .i64 (j : Int))) none none).run Tryz.prog w = .ok (.slice (some ⟨g, j, none⟩) (65 - j) (65 - j)) w := by
  have hl : Tryz.prog.arrayLen 155 = 65 := by kernel_rfl
  have he : Tryz.prog.elem 155 = 5 := by kernel_rfl
  have hs : (sizeOf 5).run Tryz.prog w = .ok 1 w := by
    obtain ⟨i, z, hi, hz, hs, hb, hc⟩ := info8
    simp [sizeOf, typeInfo, hi, hs]
  rw [run_sliceAt_array_l w 155 ⟨g, 0, none⟩ (by rw [hl, he]; exact Tryz.underlying155) .i64 (j : Int) (by omega) (by rw [hl]; omega), hl, he, hs]
  simp only [Result.andThen, slicedAt, Int.toNat_natCast, Nat.mul_one]
  rw [if_neg (by omega), add_plain, Nat.zero_add]
theorem rd65 (w : World) (g j : Nat) (D : List Int) (h : Sh.Blk8 w g 155 (bufF D)) (hl : D.length = 65 - j) (hj : j < 65) (hg : g < w.heap.size) : Rd .u8 anyB w (.slice (some ⟨g, j, none⟩) (65 - j) (65 - j)) D := by
  refine ⟨some ⟨g, j, none⟩, 65 - j, by rw [hl], by omega, by unfold maxLen; omega, (fun h => by cases h), fun _ => ⟨g, j, rfl, hg, trivial, fun i hi => ?_⟩⟩
  have hc := h.cell (j + i) (by rw [bufF_length D (by omega)]; omega)
  rw [hc]
  have e : (bufF D).getD (j + i) 0 = D.getD i 0 := by
    unfold bufF
    rw [List.getD_eq_getElem?_getD, List.getD_eq_getElem?_getD, List.getElem?_append_right (by simp; omega), List.length_replicate]
    congr 2
    omega
  rw [e]
set_option maxHeartbeats 1000000 in
set_option maxRecDepth 100000 in
theorem formatBits_any (u0 : Nat) (w : World) (hg : Gv w) (h0 : u0 < 18446744073709551616) :
    Calls Tryz.prog 115 #[.slice none 0 0, .int .u64 (u0 : Int), .int .i64 8, .bool false, .bool false] w fun e w' => e = .returned (.tuple #[.slice none 0 0, .string (strOfNums (octF 22 u0))]) ∧ Below w.heap.size w w' := by
  have KP : Kept (∀ w, Calls Tryz.prog 135 #[.int .i64 8] w fun e w' => e = .returned (.bool true) ∧ w' = w) := ⟨pow2_any⟩
  have KG := Kept.mk hg
  clear hg
  · go_enter Tryz.func115, Tryz.ntmps115
    go_wp2_with fail
    have hB1 : Below w.heap.size w (w.alloc (.cells Tryz.zeroCells155 155)) := (Below.refl _ _).alloc (Nat.le_refl _) _
    have hb1 : Sh.Blk8 (w.alloc (.cells Tryz.zeroCells155 155)) w.heap.size 155 (bufF []) := Sh.blk8_of (heap_alloc_new w _) (by kernel_rfl)
    obtain ⟨w1, hw1⟩ : ∃ w1, w.alloc (.cells Tryz.zeroCells155 155) = w1 := ⟨_, rfl⟩
    rw [hw1] at hB1 hb1 ⊢
    have hlt : w.heap.size < w1.heap.size := by rw [← hw1]; simp
    have KT := Kept.mk (tz_any w1 (by rw [hB1.cell (p := ⟨6, 7, none⟩) (by have := KG.out.lo; show 6 < w.heap.size; omega)]; exact KG.out.tz))
    have KB1 := Kept.mk hB1
    have Kb1 := Kept.mk hb1
    clear hw1 hB1 hb1
    refine Calls.mono (KP.out w1) (fun e w2 hp => ?_)
    obtain ⟨rfl, rfl⟩ := hp
    go_wp2_with fail
    refine Calls.mono KT.out (fun e w2 hp => ?_)
    obtain ⟨rfl, rfl⟩ := hp
    clear KT KP
    go_wp2
    go_loopw [1, 13] (fun uv iv wr => ∃ (u : Nat) (D : List Int), uv = .int .u64 u ∧ iv = .int .i64 ((65 - D.length : Nat) : Int) ∧ D.length ≤ 21 ∧ Sh.Blk8 wr w.heap.size 155 (bufF D) ∧ Below w.heap.size w wr ∧ w.heap.size < wr.heap.size ∧ u * 8 ^ D.length ≤ u0 ∧ octF 22 u0 = octF (22 - D.length) u ++ D) (fun uv _ _ => (intOf uv).toNat)
    case atStart => exact ⟨u0, [], rfl, rfl, by simp, Kb1.out, KB1.out, hlt, by simp, by simp⟩
    case round =>
      obtain ⟨u, D, rfl, rfl, hD, hblk, hbel, hlt2, hm, ho⟩ := hrel
      have KK := Kept.mk hblk
      have KBr := Kept.mk hbel
      have KM := Kept.mk (And.intro hm ho)
      have hu : u < 18446744073709551616 := by
        have : 1 ≤ 8 ^ D.length := Nat.pow_pos (by omega)
        have : u * 1 ≤ u * 8 ^ D.length := Nat.mul_le_mul_left u this
        omega
      obtain ⟨j, hj⟩ : ∃ j, 64 - D.length = j := ⟨_, rfl⟩
      have hj1 : 65 - D.length = j + 1 := by omega
      have hjl : j < 65 := by omega
      have KJ := Kept.mk (And.intro hj hj1)
      have hc := hblk.cell j (by rw [bufF_length D (by omega)]; omega)
      have hf := hblk.frozen8 j
      rw [hj1]
      generalize (bufF D).getD j 0 = old at hc
      by_cases h8 : 8 ≤ u
      · have h8i : (8 : Int) ≤ (u : Int) := by omega
        have hand := and7 u hu
        have hdg := run_digit wr (u % 8) (by omega)
        have hx8 : u % 8 < 8 := by omega
        have KX : Kept (∀ x, u % 8 = x → x = u % 8) := ⟨fun x h => h.symm⟩
        obtain ⟨x, hx⟩ : ∃ x, u % 8 = x := ⟨_, rfl⟩
        rw [hx] at hand hdg
        have KXe := Kept.mk hx
        unfold digits36 at hdg
        clear hx hx8 hblk hbel hm ho hj hj1 hD KX
        go_wp2
        refine ⟨⟨u / 8, (48 + (x : Int)) :: D, by simp, ?_, ?_, ?_, KBr.out.setCell (Nat.le_refl _) _, by simpa [World.setCell] using hlt2, ?_, ?_⟩, ?_⟩
        · have := KJ.out
          rw [List.length_cons, show 65 - (D.length + 1) = j by omega]
        · have h20 := oct_room u u0 D.length h0 h8 KM.out.1
          rw [List.length_cons]
          omega
        · rw [← bufF_put D _ (by have := KJ.out; omega), KJ.out.1]
          exact KK.out.set8 j _
        · rw [List.length_cons, Nat.pow_succ, ← Nat.mul_assoc]
          have h1 : u / 8 * 8 ≤ u := Nat.div_mul_le_self u 8
          have h2 : u / 8 * 8 * 8 ^ D.length ≤ u * 8 ^ D.length := Nat.mul_le_mul_right _ h1
          have h3 := KM.out.1
          have e : u / 8 * 8 ^ D.length * 8 = u / 8 * 8 * 8 ^ D.length := by rw [Nat.mul_assoc, Nat.mul_comm (8 ^ D.length) 8, ← Nat.mul_assoc]
          omega
        · have h20 := oct_room u u0 D.length h0 h8 KM.out.1
          rw [KM.out.2, show 22 - D.length = (22 - (D.length + 1)) + 1 by omega, octF_step _ u h8, List.length_cons, List.append_assoc, KXe.out]
          rfl
        · simp only [intOf]
          omega
      · have h8i : ¬ (8 : Int) ≤ (u : Int) := by omega
        have hdg := run_digit wr u (by omega)
        unfold digits36 at hdg
        have KE : Kept (octF 22 u0 = (48 + (u : Int)) :: D) := ⟨by rw [KM.out.2, octF_small _ u (by omega)]; rfl⟩
        have KK2 : Kept (Sh.Blk8 (wr.setCell ⟨w.heap.size, j, none⟩ (.int .u8 (48 + (u : Int)))) w.heap.size 155 (bufF (octF 22 u0))) := ⟨by
          rw [KE.out, ← bufF_put D _ (by omega), KJ.out.1]
          exact hblk.set8 j _⟩
        have KB2 : Kept (Below w.heap.size w (wr.setCell ⟨w.heap.size, j, none⟩ (.int .u8 (48 + (u : Int))))) := ⟨hbel.setCell (Nat.le_refl _) _⟩
        have KL : Kept ((octF 22 u0).length = 65 - j) := ⟨by rw [KE.out, List.length_cons]; omega⟩
        have hsl := slice65 (wr.setCell ⟨w.heap.size, j, none⟩ (.int .u8 (48 + (u : Int)))) w.heap.size j hjl
        have hcv := (rd65 _ w.heap.size j (octF 22 u0) KK2.out KL.out hjl (by simpa [World.setCell] using hlt2)).str Tryz.underlying27 Tryz.underlying5 9 Tryz.underlying9
        clear hblk hbel hm ho hj hj1 hD
        go_wp2
        go_ret2
        exact ⟨rfl, KB2.out⟩


theorem Gv.later {w w' : World} (h : Gv w) (hb : Below w.heap.size w w') : Gv w' := by
  have hl := h.lo
  exact ⟨var_far gl_pow (hb.block 1 (by omega)) h.pow, h.rnd.far hb h.rnd.1, by rw [hb.cell (p := ⟨6, 7, none⟩) (by show 6 < w.heap.size; omega)]; exact h.tz, Nat.le_trans hl hb.size⟩
theorem itoaV_any (n : Int) (w : World) (hg : Gv w) (h0 : -9223372036854775808 ≤ n) (h1 : n ≤ 9223372036854775807) :
    Calls Tryz.prog 26 #[.int .i64 n] w fun e w' => e = .returned (.string ⟨(Lib.itoa n).toArray⟩) ∧ Below w.heap.size w w' :=
  (Tryz.strconv_Itoa n h0 h1 w hg.pow).mono fun e w' hp => by
    obtain ⟨h1, k, os, rfl⟩ := hp
    exact ⟨h1, below_grow w k os⟩
set_option maxHeartbeats 400000 in
set_option maxRecDepth 100000 in
theorem ifmt_any (n : Nat) (w : World) (hg : Gv w) (h0 : n < 9223372036854775808) :
    Calls Tryz.prog 89 #[.int .i64 (n : Int), .int .i64 8] w fun e w' => e = .returned (.string (strOfNums (octF 22 n))) ∧ Below w.heap.size w w' := by
  have K1 := Kept.mk (formatBits_any n w hg (by omega))
  have hn : ¬ (n : Int) < 0 := by omega
  clear hg
  generalize strOfNums (octF 22 n) = S at *
  go_enter Tryz.func89, Tryz.ntmps89
  go_wp2_with fail
  refine Calls.mono K1.out (fun e w1 hp => ?_)
  obtain ⟨rfl, hb⟩ := hp
  have KB := Kept.mk hb
  clear hb
  go_wp2
  go_ret
  exact ⟨rfl, KB.out⟩
set_option maxHeartbeats 400000 in
set_option maxRecDepth 100000 in
theorem fmt_any (n : Nat) (w : World) (hg : Gv w) (h0 : n < 9223372036854775808) :
    Calls Tryz.prog 60 #[.int .i64 (n : Int), .int .i64 8] w fun e w' => e = .returned (.string (strOfNums (octF 22 n))) ∧ Below w.heap.size w w' := by
  have K1 := Kept.mk (ifmt_any n w hg h0)
  clear hg
  generalize strOfNums (octF 22 n) = S at *
  go_enter Tryz.func60, Tryz.ntmps60
  go_wp2_with fail
  refine Calls.mono K1.out (fun e w1 hp => ?_)
  obtain ⟨rfl, hb⟩ := hp
  have KB := Kept.mk hb
  clear hb
  go_wp2
  go_ret
  exact ⟨rfl, KB.out⟩
set_option maxHeartbeats 400000 in
set_option maxRecDepth 100000 in
theorem modeDigits_any (n : Nat) (w : World) (hg : Gv w) (h0 : n < 9223372036854775808) :
    Calls Tryz.prog 28 #[.int .i64 (n : Int)] w fun e w' => e = .returned (.string (strOfNums (octF 22 n))) ∧ Below w.heap.size w w' := by
  have K1 := Kept.mk (fmt_any n w hg h0)
  clear hg
  generalize strOfNums (octF 22 n) = S at *
  go_enter Tryz.func28, Tryz.ntmps28
  go_wp2_with fail
  refine Calls.mono K1.out (fun e w1 hp => ?_)
  obtain ⟨rfl, hb⟩ := hp
  have KB := Kept.mk hb
  clear hb
  go_wp2
  go_ret
  exact ⟨rfl, KB.out⟩


theorem neg_wrap (u : Nat) (h : u < 18446744073709551616) : IntKind.u64.wrap (-(18446744073709551616 - (u : Int))) = (u : Int) := by
  have e : IntKind.u64.wrap (-(18446744073709551616 - (u : Int))) = (-(18446744073709551616 - (u : Int))) % 18446744073709551616 := rfl
  rw [e]
  omega
set_option maxHeartbeats 1000000 in
set_option maxRecDepth 100000 in
theorem formatBits_neg (u0 : Nat) (w : World) (hg : Gv w) (h1 : 1 ≤ u0) (h0 : u0 < 18446744073709551616) :
    Calls Tryz.prog 115 #[.slice none 0 0, .int .u64 (18446744073709551616 - (u0 : Int)), .int .i64 8, .bool true, .bool false] w fun e w' => e = .returned (.tuple #[.slice none 0 0, .string (strOfNums (45 :: octF 22 u0))]) ∧ Below w.heap.size w w' := by
  have KP : Kept (∀ w, Calls Tryz.prog 135 #[.int .i64 8] w fun e w' => e = .returned (.bool true) ∧ w' = w) := ⟨pow2_any⟩
  have KG := Kept.mk hg
  have hwr : IntKind.u64.wrap (-(18446744073709551616 - (u0 : Int))) = (u0 : Int) := neg_wrap u0 h0
  clear hg
  · go_enter Tryz.func115, Tryz.ntmps115
    go_wp2_with fail
    have hB1 : Below w.heap.size w (w.alloc (.cells Tryz.zeroCells155 155)) := (Below.refl _ _).alloc (Nat.le_refl _) _
    have hb1 : Sh.Blk8 (w.alloc (.cells Tryz.zeroCells155 155)) w.heap.size 155 (bufF []) := Sh.blk8_of (heap_alloc_new w _) (by kernel_rfl)
    obtain ⟨w1, hw1⟩ : ∃ w1, w.alloc (.cells Tryz.zeroCells155 155) = w1 := ⟨_, rfl⟩
    rw [hw1] at hB1 hb1 ⊢
    have hlt : w.heap.size < w1.heap.size := by rw [← hw1]; simp
    have KT := Kept.mk (tz_any w1 (by rw [hB1.cell (p := ⟨6, 7, none⟩) (by have := KG.out.lo; show 6 < w.heap.size; omega)]; exact KG.out.tz))
    have KB1 := Kept.mk hB1
    have Kb1 := Kept.mk hb1
    clear hw1 hB1 hb1
    refine Calls.mono (KP.out w1) (fun e w2 hp => ?_)
    obtain ⟨rfl, rfl⟩ := hp
    go_wp2_with fail
    refine Calls.mono KT.out (fun e w2 hp => ?_)
    obtain ⟨rfl, rfl⟩ := hp
    clear KT KP
    go_wp2
    go_loopw [1, 13] (fun uv iv wr => ∃ (u : Nat) (D : List Int), uv = .int .u64 u ∧ iv = .int .i64 ((65 - D.length : Nat) : Int) ∧ D.length ≤ 21 ∧ Sh.Blk8 wr w.heap.size 155 (bufF D) ∧ Below w.heap.size w wr ∧ w.heap.size < wr.heap.size ∧ u * 8 ^ D.length ≤ u0 ∧ octF 22 u0 = octF (22 - D.length) u ++ D) (fun uv _ _ => (intOf uv).toNat)
    case atStart => exact ⟨u0, [], rfl, rfl, by simp, Kb1.out, KB1.out, hlt, by simp, by simp⟩
    case round =>
      obtain ⟨u, D, rfl, rfl, hD, hblk, hbel, hlt2, hm, ho⟩ := hrel
      have KK := Kept.mk hblk
      have KBr := Kept.mk hbel
      have KM := Kept.mk (And.intro hm ho)
      have hu : u < 18446744073709551616 := by
        have : 1 ≤ 8 ^ D.length := Nat.pow_pos (by omega)
        have : u * 1 ≤ u * 8 ^ D.length := Nat.mul_le_mul_left u this
        omega
      obtain ⟨j, hj⟩ : ∃ j, 64 - D.length = j := ⟨_, rfl⟩
      have hj1 : 65 - D.length = j + 1 := by omega
      have hjl : j < 65 := by omega
      have KJ := Kept.mk (And.intro hj hj1)
      have hc := hblk.cell j (by rw [bufF_length D (by omega)]; omega)
      have hf := hblk.frozen8 j
      rw [hj1]
      generalize (bufF D).getD j 0 = old at hc
      by_cases h8 : 8 ≤ u
      · have h8i : (8 : Int) ≤ (u : Int) := by omega
        have hand := and7 u hu
        have hdg := run_digit wr (u % 8) (by omega)
        have hx8 : u % 8 < 8 := by omega
        have KX : Kept (∀ x, u % 8 = x → x = u % 8) := ⟨fun x h => h.symm⟩
        obtain ⟨x, hx⟩ : ∃ x, u % 8 = x := ⟨_, rfl⟩
        rw [hx] at hand hdg
        have KXe := Kept.mk hx
        unfold digits36 at hdg
        clear hx hx8 hblk hbel hm ho hj hj1 hD KX
        go_wp2
        refine ⟨⟨u / 8, (48 + (x : Int)) :: D, by simp, ?_, ?_, ?_, KBr.out.setCell (Nat.le_refl _) _, by simpa [World.setCell] using hlt2, ?_, ?_⟩, ?_⟩
        · have := KJ.out
          rw [List.length_cons, show 65 - (D.length + 1) = j by omega]
        · have h20 := oct_room u u0 D.length h0 h8 KM.out.1
          rw [List.length_cons]
          omega
        · rw [← bufF_put D _ (by have := KJ.out; omega), KJ.out.1]
          exact KK.out.set8 j _
        · rw [List.length_cons, Nat.pow_succ, ← Nat.mul_assoc]
          have h1 : u / 8 * 8 ≤ u := Nat.div_mul_le_self u 8
          have h2 : u / 8 * 8 * 8 ^ D.length ≤ u * 8 ^ D.length := Nat.mul_le_mul_right _ h1
          have h3 := KM.out.1
          have e : u / 8 * 8 ^ D.length * 8 = u / 8 * 8 * 8 ^ D.length := by rw [Nat.mul_assoc, Nat.mul_comm (8 ^ D.length) 8, ← Nat.mul_assoc]
          omega
        · have h20 := oct_room u u0 D.length h0 h8 KM.out.1
          rw [KM.out.2, show 22 - D.length = (22 - (D.length + 1)) + 1 by omega, octF_step _ u h8, List.length_cons, List.append_assoc, KXe.out]
          rfl
        · simp only [intOf]
          omega
      · have h8i : ¬ (8 : Int) ≤ (u : Int) := by omega
        have hdg := run_digit wr u (by omega)
        unfold digits36 at hdg
        have KE : Kept (octF 22 u0 = (48 + (u : Int)) :: D) := ⟨by rw [KM.out.2, octF_small _ u (by omega)]; rfl⟩
        have KK2 : Kept (Sh.Blk8 (wr.setCell ⟨w.heap.size, j, none⟩ (.int .u8 (48 + (u : Int)))) w.heap.size 155 (bufF (octF 22 u0))) := ⟨by
          rw [KE.out, ← bufF_put D _ (by omega), KJ.out.1]
          exact hblk.set8 j _⟩
        have KB2 : Kept (Below w.heap.size w (wr.setCell ⟨w.heap.size, j, none⟩ (.int .u8 (48 + (u : Int))))) := ⟨hbel.setCell (Nat.le_refl _) _⟩
        have KL : Kept ((octF 22 u0).length = 65 - j) := ⟨by rw [KE.out, List.length_cons]; omega⟩
        obtain ⟨j', rfl⟩ : ∃ j', j = j' + 1 := ⟨j - 1, by omega⟩
        obtain ⟨W2, hW2⟩ : ∃ W2, wr.setCell ⟨w.heap.size, j' + 1, none⟩ (.int .u8 (48 + (u : Int))) = W2 := ⟨_, rfl⟩
        rw [hW2] at KK2 KB2
        have hlt3 : w.heap.size < W2.heap.size := by rw [← hW2]; simpa [World.setCell] using hlt2
        have hoL := octF_length 22 u0
        have hc2 := KK2.out.cell j' (by rw [bufF_length _ (by omega)]; omega)
        have hf2 := KK2.out.frozen8 j'
        generalize (bufF (octF 22 u0)).getD j' 0 = old2 at hc2
        have KK3 : Kept (Sh.Blk8 (W2.setCell ⟨w.heap.size, j', none⟩ (.int .u8 45)) w.heap.size 155 (bufF (45 :: octF 22 u0))) := ⟨by
          have := KL.out
          rw [← bufF_put (octF 22 u0) 45 (by omega), show 64 - (octF 22 u0).length = j' by omega]
          exact KK2.out.set8 j' _⟩
        have KB3 : Kept (Below w.heap.size w (W2.setCell ⟨w.heap.size, j', none⟩ (.int .u8 45))) := ⟨KB2.out.setCell (Nat.le_refl _) _⟩
        have KL3 : Kept ((45 :: octF 22 u0).length = 65 - j') := ⟨by have := KL.out; rw [List.length_cons]; omega⟩
        have hsl := slice65 (W2.setCell ⟨w.heap.size, j', none⟩ (.int .u8 45)) w.heap.size j' (by omega)
        have hcv := (rd65 _ w.heap.size j' (45 :: octF 22 u0) KK3.out KL3.out (by omega) (by simpa [World.setCell] using hlt3)).str Tryz.underlying27 Tryz.underlying5 9 Tryz.underlying9
        clear hoL
        clear hblk hbel hm ho hj hj1 hD
        go_wp2
        go_ret2
        exact ⟨rfl, KB3.out⟩
def octS (n : Int) : List Int := if n < 0 then 45 :: octF 22 n.natAbs else octF 22 n.natAbs
set_option maxHeartbeats 400000 in
set_option maxRecDepth 100000 in
theorem ifmt_all (n : Int) (w : World) (hg : Gv w) (h0 : -9223372036854775808 ≤ n) (h1 : n < 9223372036854775808) :
    Calls Tryz.prog 89 #[.int .i64 n, .int .i64 8] w fun e w' => e = .returned (.string (strOfNums (octS n))) ∧ Below w.heap.size w w' := by
  by_cases hn : n < 0
  · have K1 := formatBits_neg n.natAbs w hg (by omega) (by omega)
    have KE : Kept (octS n = 45 :: octF 22 n.natAbs) := ⟨by unfold octS; rw [if_pos hn]⟩
    rw [← KE.out] at K1
    have hcw : IntKind.u64.wrap n = 18446744073709551616 - (n.natAbs : Int) := by
      have e : IntKind.u64.wrap n = n % 18446744073709551616 := rfl
      rw [e]
      omega
    rw [← hcw] at K1
    have K1 := Kept.mk K1
    clear hg hcw
    generalize strOfNums (octS n) = S at *
    go_enter Tryz.func89, Tryz.ntmps89
    go_wp2_with fail
    refine Calls.mono K1.out (fun e w1 hp => ?_)
    obtain ⟨rfl, hb⟩ := hp
    have KB := Kept.mk hb
    clear hb
    go_wp2
    go_ret
    exact ⟨rfl, KB.out⟩
  · obtain ⟨m, rfl⟩ : ∃ m : Nat, n = (m : Int) := ⟨n.toNat, by omega⟩
    have := ifmt_any m w hg (by omega)
    unfold octS
    rw [if_neg hn, Int.natAbs_natCast]
    exact this
set_option maxHeartbeats 400000 in
set_option maxRecDepth 100000 in
theorem fmt_all (n : Int) (w : World) (hg : Gv w) (h0 : -9223372036854775808 ≤ n) (h1 : n < 9223372036854775808) :
    Calls Tryz.prog 60 #[.int .i64 n, .int .i64 8] w fun e w' => e = .returned (.string (strOfNums (octS n))) ∧ Below w.heap.size w w' := by
  have K1 := Kept.mk (ifmt_all n w hg h0 h1)
  clear hg
  generalize strOfNums (octS n) = S at *
  go_enter Tryz.func60, Tryz.ntmps60
  go_wp2_with fail
  refine Calls.mono K1.out (fun e w1 hp => ?_)
  obtain ⟨rfl, hb⟩ := hp
  have KB := Kept.mk hb
  clear hb
  go_wp2
  go_ret
  exact ⟨rfl, KB.out⟩
set_option maxHeartbeats 400000 in
set_option maxRecDepth 100000 in
theorem modeDigits_all (n : Int) (w : World) (hg : Gv w) (h0 : -9223372036854775808 ≤ n) (h1 : n < 9223372036854775808) :
    Calls Tryz.prog 28 #[.int .i64 n] w fun e w' => e = .returned (.string (strOfNums (octS n))) ∧ Below w.heap.size w w' := by
  have K1 := Kept.mk (fmt_all n w hg h0 h1)
  clear hg
  generalize strOfNums (octS n) = S at *
  go_enter Tryz.func28, Tryz.ntmps28
  go_wp2_with fail
  refine Calls.mono K1.out (fun e w1 hp => ?_)
  obtain ⟨rfl, hb⟩ := hp
  have KB := Kept.mk hb
  clear hb
  go_wp2
  go_ret
  exact ⟨rfl, KB.out⟩
end Go.Proofs.YtkbalngddlhlpaaGreatDoor
