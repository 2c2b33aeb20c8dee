/-
  Walks: Reverse16, code.
-/
import Derived.Test.YtjijkcmbbccfmaaDoorF1
namespace Go.Proofs.YtjijkcmbbccfmaaDoor
open Go.RowKit

/-- Eight bits turned. -/
def r8 (i : Nat) : Nat := i % 2 * 128 + i / 2 % 2 * 64 + i / 4 % 2 * 32 + i / 8 % 2 * 16 + i / 16 % 2 * 8 + i / 32 % 2 * 4 + i / 64 % 2 * 2 + i / 128 % 2
theorem r8_lt (i : Nat) : r8 i < 256 := by unfold r8; omega
theorem and255 (x : Nat) (hx : x < 512) : bits .and .u16 x 255 = (x : Int) % 256 := by
  have h := u16_and_nat x 255 (by omega) (by omega)
  rw [show ((255 : Nat) : Int) = 255 from rfl] at h
  rw [h, show (255 : Nat) = 2 ^ 8 - 1 from rfl, Nat.and_two_pow_sub_one_eq_mod]
  omega

set_option maxHeartbeats 1000000 in
set_option maxRecDepth 100000 in
theorem rev16_any (x : Nat) (hx : x < 512) (w : World) :
    Calls Tryd.prog 86 #[.int .u16 x] w fun e w' => e = .returned (.int .u16 ((r8 (x / 256) + 256 * r8 (x % 256) : Nat) : Int)) ∧ ∃ m, w' = w.drewN m := by
  have ha := and255 x hx
  go_enter Tryd.func86, Tryd.ntmps86
  go_wp2
  generalize hT : Value.string _ = S
  obtain ⟨T, rfl, hTt⟩ : ∃ T : ByteArray, S = Value.string T ∧ (List.range 256).all (fun i => T[i]? == some (UInt8.ofNat (r8 i))) = true := by
    subst hT
    exact ⟨_, rfl, by kernel_rfl⟩
  clear hT
  have hm : ∀ (i : Nat) (W : World), i < 256 → (Instr.index 9 (.string T) (.int .u16 (i : Int))).run Tryd.prog W = .ok (.int .u8 (r8 i)) W := fun i W hi => by
    have h1 := List.all_eq_true.1 hTt i (by simpa using hi)
    have h2 : T[i]? = some (UInt8.ofNat (r8 i)) := by simpa using h1
    obtain ⟨h3, h4⟩ := getElem?_eq_some_iff.1 h2
    have h5 : i < T.size := h3
    rw [run_index_string (P := Tryd.prog) (t := 9) (h := Tryd.underlying9), dif_pos ⟨by omega, by omega⟩]
    have h6 : (T[i]'h3).toNat = r8 i := by
      rw [h4]
      have := r8_lt i
      simp
      omega
    simp only [Int.toNat_natCast, h6]
  have hm1 : ∀ W, (Instr.index 9 (.string T) (.int .u16 ((x : Int) / 256))).run Tryd.prog W = .ok (.int .u8 (r8 (x / 256))) W := fun W => by
    rw [show (x : Int) / 256 = ((x / 256 : Nat) : Int) from by omega]
    exact hm _ W (by omega)
  have hm2 : ∀ W, (Instr.index 9 (.string T) (.int .u16 ((x : Int) % 256))).run Tryd.prog W = .ok (.int .u8 (r8 (x % 256))) W := fun W => by
    rw [show (x : Int) % 256 = ((x % 256 : Nat) : Int) from by omega]
    exact hm _ W (by omega)
  have hr1 := r8_lt (x / 256)
  have hr2 := r8_lt (x % 256)
  obtain ⟨A, hA⟩ : ∃ A, r8 (x / 256) = A := ⟨_, rfl⟩
  obtain ⟨B, hB⟩ : ∃ B, r8 (x % 256) = B := ⟨_, rfl⟩
  rw [hA] at hm1 hr1
  rw [hB] at hm2 hr2
  have KA := Kept.mk hA
  have KB := Kept.mk hB
  clear hA hB
  clear hm hTt
  refine wp_region_last _ 10 (by kernel_rfl) (by kernel_rfl) rfl rfl ?_
  simp only [List.take_succ_cons, List.take_zero]
  repeat (go_big_quiet_step (fail))
  refine wpQuiet_nil ?_
  intro m
  go_wp2
  go_ret
  refine ⟨?_, ⟨_, rfl⟩⟩
  have e : bits .or .u16 (A : Int) ((B : Int) * 256) = ((A + 256 * B : Nat) : Int) := by
    rw [show (B : Int) * 256 = ((B * 256 : Nat) : Int) from by omega, u16_or_nat A (B * 256) (by omega) (by omega), Nat.or_comm, nat_join 8 (B * 256) A (by omega) (by omega)]
    congr 1
    omega
  rw [e, KA.out, KB.out]
  rfl

theorem bitsL_low (v c : Int) (n : Nat) : ∀ k, k ≤ n → bitsL (v + 2 ^ n * c) k = bitsL v k
  | 0, _ => rfl
  | k + 1, h => by
    rw [bitsL, bitsL, bitsL_low v c n k (by omega)]
    congr 2
    obtain ⟨d, rfl⟩ : ∃ d, n = k + 1 + d := ⟨n - (k + 1), by omega⟩
    have hp : (2 : Int) ^ k ≠ 0 := by have : (0 : Int) < 2 ^ k := Int.pow_pos (by omega); omega
    rw [show (2 : Int) ^ (k + 1 + d) * c = 2 ^ k * (2 * (2 ^ d * c)) from by rw [Int.pow_add, Int.pow_succ]; simp only [Int.mul_assoc], Int.add_mul_ediv_left _ _ hp]
    omega
theorem bits_val : ∀ (n : Nat) (l : List Int), l.length = n → IsBits l → bitsL (valL l) n = l
  | 0, l, hl, _ => by rw [List.eq_nil_of_length_eq_zero hl]; rfl
  | n + 1, l, hl, h => by
    have e : l = l.take n ++ [l.getD n 0] := by
      have h1 : l.drop n = [l.getD n 0] := by
        rw [List.drop_eq_getElem_cons (by omega), List.drop_of_length_le (by omega)]
        simp [List.getD, List.getElem?_eq_getElem (show n < l.length by omega)]
      rw [← h1, List.take_append_drop]
    have hb : l.getD n 0 = 0 ∨ l.getD n 0 = 1 := h _ (by
      rw [List.getD_eq_getElem?_getD, List.getElem?_eq_getElem (show n < l.length by omega)]
      exact List.getElem_mem _)
    have ht : (l.take n).length = n := by simp; omega
    have hv := valL_range (h.take n)
    rw [ht] at hv
    have ev : valL l = valL (l.take n) + 2 ^ n * l.getD n 0 := by
      conv => lhs; rw [e]
      rw [valL_append, ht]
      simp [valL]
    rw [bitsL, ev, bitsL_low _ _ n n (Nat.le_refl _), bits_val n (l.take n) ht (h.take n)]
    have hp : (2 : Int) ^ n ≠ 0 := by have : (0 : Int) < 2 ^ n := Int.pow_pos (by omega); omega
    rw [Int.add_mul_ediv_left _ _ hp, Int.ediv_eq_zero_of_lt hv.1 hv.2]
    conv => rhs; rw [e]
    congr 2
    omega

/-- A code's bits, the highest first. -/
def codeL (v n : Nat) : List Int := (bitsL v n).reverse
theorem codeL_length (v n : Nat) : (codeL v n).length = n := by rw [codeL, List.length_reverse, bitsL_length]
theorem codeL_bits (v n : Nat) : IsBits (codeL v n) := (isBits_bitsL v n).rev
def revB (n : Nat) : Bool := (List.range 512).all fun v => (decide (2 ^ n ≤ v)) || ((((r8 (v / 256) + 256 * r8 (v % 256)) / 2 ^ (16 - n) : Nat) : Int) == valL (codeL v n))
theorem rev_ok {v n : Nat} (hn : n = 5 ∨ n = 7 ∨ n = 8 ∨ n = 9) (hv : v < 2 ^ n) : (((r8 (v / 256) + 256 * r8 (v % 256)) / 2 ^ (16 - n) : Nat) : Int) = valL (codeL v n) := by
  have h9 : (2 : Nat) ^ n ≤ 2 ^ 9 := Nat.pow_le_pow_right (by omega) (by omega)
  have hB : revB n = true := by
    rcases hn with rfl | rfl | rfl | rfl <;> kernel_rfl
  have := List.all_eq_true.1 hB v (by simp; omega)
  simp only [Bool.or_eq_true, decide_eq_true_eq, beq_iff_eq] at this
  rcases this with h | h
  · omega
  · exact h
theorem code_bits {v n : Nat} (hn : n = 5 ∨ n = 7 ∨ n = 8 ∨ n = 9) (hv : v < 2 ^ n) : bitsL (((r8 (v / 256) + 256 * r8 (v % 256)) / 2 ^ (16 - n) : Nat) : Int) n = codeL v n := by
  rw [rev_ok hn hv]
  exact bits_val n _ (codeL_length v n) (codeL_bits v n)

set_option maxHeartbeats 1000000 in
set_option maxRecDepth 100000 in
theorem code_any {W0 w : World} {rb : Nat} {ob : Option Nat} {L : List Int} {j : Nat} (v n : Nat) (hv : v < 2 ^ n) (hn : n = 5 ∨ n = 7 ∨ n = 8 ∨ n = 9) (h : Wt W0 w rb ob L j) (hj : L.length < 8 * j + 8) (hl : L.length + n ≤ 1073741824) :
    Calls Tryd.prog 65 #[.pointer (some ⟨rb, 0, none⟩), .int .i64 v, .int .i64 n] w fun e w' => AfterW W0 w w' rb ob (L ++ codeL v n) e := by
  have h9 : (2 : Nat) ^ n ≤ 2 ^ 9 := Nat.pow_le_pow_right (by omega) (by omega)
  have hv9 : v < 512 := by simp only [Nat.reducePow] at h9; omega
  have hv9i : (v : Int) < 512 := by omega
  have hok := Kept.mk (rev_ok hn hv)
  have hr := valL_range (codeL_bits v n)
  rw [codeL_length] at hr
  have KN : Kept (∀ m, Calls Tryd.prog 38 #[.pointer (some ⟨rb, 0, none⟩), .int .i64 (valL (codeL v n)), .int .i64 n] (w.drewN m) fun e w' => AfterW W0 w w' rb ob (L ++ codeL v n) e) := ⟨fun m => by
    have h1 := wnumber_any (valL (codeL v n)) n hr.1 hr.2 (by omega) (h.drewN m) hj hl
    rw [bits_val n _ (codeL_length v n) (codeL_bits v n)] at h1
    refine h1.mono ?_
    rintro e w' ⟨rfl, ob', j', hW, hlt, hM⟩
    exact ⟨rfl, ob', j', hW, hlt, ((Fq.refl rb ob w).drewN m).mv.trans hM⟩⟩
  have KR := Kept.mk (rev16_any v hv9 w)
  have KV := Kept.mk hr
  clear h hj hl hr
  go_enter Tryd.func65, Tryd.ntmps65
  go_wp2_with (go_at_call 86; refine Calls.mono KR.out (fun e w1 hp => ?_); obtain ⟨rfl, m1, rfl⟩ := hp)
  have e1 : wrap64 (((r8 (v / 256) : Int) + 256 * (r8 (v % 256) : Int)) / 2 ^ (16 - n)) = valL (codeL v n) := by
    have h1 := hok.out
    have h2 : ((((r8 (v / 256) + 256 * r8 (v % 256)) / 2 ^ (16 - n) : Nat)) : Int) = ((r8 (v / 256) : Int) + 256 * (r8 (v % 256) : Int)) / 2 ^ (16 - n) := by
      simp
    rw [← h2, h1]
    have h3 := KV.out
    have h4 : (2 : Int) ^ n ≤ 2 ^ 9 := by exact_mod_cast h9
    simp only [Int.reducePow] at h4
    unfold wrap64
    omega
  rw [e1]
  refine Calls.mono (KN.out m1) (fun e w2 hp => ?_)
  obtain ⟨rfl, hW⟩ := hp
  have KW := Kept.mk hW
  clear hW
  go_wp2
  refine bodyPost_end (results_none rfl _ _ _) rfl ?_
  exact ⟨rfl, KW.out⟩

open Go.RowKit

/-- A symbol's bits. -/
def symL (s : Nat) : List Int := if s < 144 then codeL (48 + s) 8 else if s < 256 then codeL (400 + s - 144) 9 else if s < 280 then codeL (s - 256) 7 else codeL (192 + s - 280) 8
theorem symL_length (s : Nat) : (symL s).length ≤ 9 := by
  unfold symL
  split
  · rw [codeL_length]; omega
  · split
    · rw [codeL_length]; omega
    · split
      · rw [codeL_length]; omega
      · rw [codeL_length]; omega
theorem symL_bits (s : Nat) : IsBits (symL s) := by
  unfold symL
  split
  · exact codeL_bits _ _
  · split
    · exact codeL_bits _ _
    · split
      · exact codeL_bits _ _
      · exact codeL_bits _ _

set_option maxHeartbeats 1000000 in
set_option maxRecDepth 100000 in
theorem wsymbol_any {W0 w : World} {rb : Nat} {ob : Option Nat} {L : List Int} {j : Nat} (s : Nat) (hs : s < 288) (h : Wt W0 w rb ob L j) (hj : L.length < 8 * j + 8) (hl : L.length + 9 ≤ 1073741824) :
    Calls Tryd.prog 43 #[.pointer (some ⟨rb, 0, none⟩), .int .i64 s] w fun e w' => AfterW W0 w w' rb ob (L ++ symL s) e := by
  unfold symL
  by_cases h1 : s < 144
  · rw [if_pos h1]
    have KC := Kept.mk (code_any (48 + s) 8 (by omega) (by omega) h hj (by omega))
    have hd1 : decide ((s : Int) < 144) = true := by simp; omega
    clear h
    go_enter Tryd.func43, Tryd.ntmps43
    go_wp2_with (go_at_call 65; refine Calls.mono KC.out (fun e w2 hp => ?_); obtain ⟨rfl, hW⟩ := hp; have KW := Kept.mk hW; clear hW)
    refine bodyPost_end (results_none rfl _ _ _) rfl ?_
    exact ⟨rfl, KW.out⟩
  · rw [if_neg h1]
    have hd1 : decide ((s : Int) < 144) = false := by simp; omega
    by_cases h2 : s < 256
    · rw [if_pos h2]
      have KC := Kept.mk (code_any (400 + s - 144) 9 (by omega) (by omega) h hj (by omega))
      rw [show ((400 + s - 144 : Nat) : Int) = 400 + (s : Int) - 144 from by omega] at KC
      have hd2 : decide ((s : Int) < 256) = true := by simp; omega
      clear h
      go_enter Tryd.func43, Tryd.ntmps43
      go_wp2_with (go_at_call 65; refine Calls.mono KC.out (fun e w2 hp => ?_); obtain ⟨rfl, hW⟩ := hp; have KW := Kept.mk hW; clear hW)
      refine bodyPost_end (results_none rfl _ _ _) rfl ?_
      exact ⟨rfl, KW.out⟩
    · rw [if_neg h2]
      have hd2 : decide ((s : Int) < 256) = false := by simp; omega
      by_cases h3 : s < 280
      · rw [if_pos h3]
        have KC := Kept.mk (code_any (s - 256) 7 (by omega) (by omega) h hj (by omega))
        rw [show ((s - 256 : Nat) : Int) = (s : Int) - 256 from by omega] at KC
        have hd3 : decide ((s : Int) < 280) = true := by simp; omega
        clear h
        go_enter Tryd.func43, Tryd.ntmps43
        go_wp2_with (go_at_call 65; refine Calls.mono KC.out (fun e w2 hp => ?_); obtain ⟨rfl, hW⟩ := hp; have KW := Kept.mk hW; clear hW)
        refine bodyPost_end (results_none rfl _ _ _) rfl ?_
        exact ⟨rfl, KW.out⟩
      · rw [if_neg h3]
        have KC := Kept.mk (code_any (192 + s - 280) 8 (by omega) (by omega) h hj (by omega))
        rw [show ((192 + s - 280 : Nat) : Int) = 192 + (s : Int) - 280 from by omega] at KC
        have hd3 : decide ((s : Int) < 280) = false := by simp; omega
        clear h
        go_enter Tryd.func43, Tryd.ntmps43
        go_wp2_with (go_at_call 65; refine Calls.mono KC.out (fun e w2 hp => ?_); obtain ⟨rfl, hW⟩ := hp; have KW := Kept.mk hW; clear hW)
        refine bodyPost_end (results_none rfl _ _ _) rfl ?_
        exact ⟨rfl, KW.out⟩

open Go.RowKit

theorem packF_tail (L : List Int) (j : Nat) (h0 : 8 * j < L.length) (h8 : L.length < 8 * j + 8) : packF L = packF (L.take (8 * j)) ++ [valL (L.drop (8 * j))] := by
  have e := packF_append j (L.take (8 * j)) (L.drop (8 * j)) (by simp; omega)
  rw [List.take_append_drop] at e
  rw [e, packF_one (l := L.drop (8 * j)) (by simp; omega) (by simp; omega)]

set_option maxHeartbeats 1000000 in
set_option maxRecDepth 100000 in
theorem end_any {W0 w : World} {rb : Nat} {ob : Option Nat} {L : List Int} {j : Nat} (h : Wt W0 w rb ob L j) (hj : L.length < 8 * j + 8) :
    Calls Tryd.prog 45 #[.pointer (some ⟨rb, 0, none⟩)] w fun e w' => ∃ v', e = .returned v' ∧ Own .u8 5 w' W0.heap.size v' (packF L) ∧ Below W0.heap.size W0 w' := by
  obtain ⟨i0, z0, hi, hz, hs, hb, hc⟩ := info8
  obtain ⟨outV, hB, own, hob⟩ := h.blk
  obtain ⟨oa, oc, rfl, -, -, -⟩ := own.rd.form
  have hle := h.le
  have hlb := h.lb
  have hvr := valL_range (h.ib.drop (8 * j))
  rw [List.length_drop] at hvr
  obtain ⟨H1, hH1⟩ : ∃ H1 : Nat, L.length - 8 * j = H1 := ⟨_, rfl⟩
  obtain ⟨V1, hV1⟩ : ∃ V1, valL (L.drop (8 * j)) = V1 := ⟨_, rfl⟩
  rw [hH1, hV1] at hvr hB
  have c0 := hB.c0
  have c1 := hB.c1
  have c2 := hB.c2
  have f0 := hB.fz 0
  have hwz1 := h.bel.size
  have KT := Kept.mk h
  have KO := Kept.mk own
  have KB := Kept.mk hob
  have KR := Kept.mk hB
  clear h own hob hB
  by_cases h0 : H1 = 0
  · subst h0
    have KE : Kept (packF L = packF (L.take (8 * j))) := ⟨by rw [List.take_of_length_le (by omega)]⟩
    clear hV1 hvr
    go_enter Tryd.func45, Tryd.ntmps45
    go_wp2
    go_ret
    exact ⟨_, rfl, by rw [KE.out]; exact KO.out, KT.out.bel⟩
  · have hpos : (0 : Int) < (H1 : Int) := by omega
    have hV8 : 0 ≤ V1 ∧ V1 < 256 := by
      have : (2 : Int) ^ H1 ≤ 2 ^ 8 := by
        have : (2 : Nat) ^ H1 ≤ 2 ^ 8 := Nat.pow_le_pow_right (by omega) (by omega)
        exact_mod_cast this
      simp only [Int.reducePow] at this
      omega
    have hXl : (packF (List.take (8 * j) L)).length ≤ 1073741824 := by
      rw [packF_len _ _ (Nat.le_refl _), List.length_take]
      omega
    have KN : Kept (packF L = packF (List.take (8 * j) L) ++ [IntKind.u8.wrap V1]) := ⟨by
      rw [packF_tail L j (by omega) hj, hV1]
      congr 2
      rw [IntKind.wrap_u8]
      omega⟩
    clear hV1 hvr h0
    generalize packF (List.take (8 * j) L) = X at *
    have KOA : Kept (∀ (w' : World) (o : Obj), w'.heap = (w.alloc o).heap → Own .u8 5 w' W0.heap.size (.slice oa X.length oc) X) := ⟨fun w' o he => (KO.out.alloc o).far fun g _ => by rw [he]⟩
    have KRA : Kept (∀ (w' : World) (x : Int), w'.heap = (w.alloc (.cells #[.int .u8 x] 5)).heap → Rd .u8 anyB w' (.slice (some ⟨w.heap.size, 0, none⟩) 1 1) [x]) := ⟨fun w' x he => (Rd.one .u8 w x 5).far (Nat.le_of_eq (by rw [he])) (fun b _ _ => ⟨trivial, by rw [he]⟩)⟩
    have KG : Kept (∀ (w' w1 : World) (o : Obj), w'.heap = (w.alloc o).heap → w'.os = w.os → w'.tape = w.tape → w'.output = w.output → w'.grownBy w1 (Value.slice oa X.length oc).ownBlock → WB w1 rb (.slice oa X.length oc) V1 H1 ∧ Fq rb ob w w1) := ⟨fun w' w1 o he h1 h2 h3 hg => by
      have hsz : w'.heap.size = w.heap.size + 1 := by rw [he]; simp
      have hlt := KR.out.lt
      constructor
      · refine KR.out.far ?_
        rw [hg.block rb (by omega) (fun e => KT.out.ho (by rw [← KB.out, ← e])), he]
        exact Below.heap_alloc w _ rb hlt
      · refine ⟨hg.os.trans h1, hg.tape.trans h2, hg.output.trans h3, by have := hg.size; omega, fun k hk _ h5 => ?_⟩
        rw [hg.block k (by omega) (by rw [KB.out]; exact h5), he]
        exact Below.heap_alloc w _ k hk⟩
    have cA : ∀ o, (w.alloc o).cell? ⟨rb, 0, none⟩ = some (.slice oa X.length oc) := fun o => (show WB (w.alloc o) rb _ V1 H1 from KR.out.far (Below.heap_alloc w _ rb KR.out.lt)).c0
    go_enter Tryd.func45, Tryd.ntmps45
    go_upto_region 2 with fail
    go_region_law ((refine step_append_rd (by rfl) _ _ 22 (by rfl) .u8 anyB 1 W0.heap.size 5 i0 z0 Tryd.underlying22 hi hz hs hb hc (by omega) (.slice oa X.length oc) X (by rfl) (KOA.out _ _ rfl) _ [IntKind.u8.wrap V1] (by rfl) (KRA.out _ _ rfl) (by simp; omega) (by simp; omega) ?_; intro v1 w1 hown hgrow hat; obtain ⟨na, nc, rfl, -, hl2, hcm2⟩ := hown.rd.form; obtain ⟨hR1, hF1⟩ := KG.out ((w.alloc (.cells #[.int .u8 (IntKind.u8.wrap V1)] 5)).drew) w1 _ rfl rfl rfl rfl hgrow; have c01 := hR1.c0; have f01 := hR1.fz 0; have KR1 := Kept.mk hR1; have KF1 := Kept.mk hF1; have KO1 := Kept.mk hown; have KA1 := Kept.mk hat; clear hR1 hF1 hown hgrow hat hl2 hcm2))
    all_goals
      have hO := KO1.out
      have hat := KA1.out
      simp only [List.length_append, List.length_singleton] at hO hat
      have ho2 : (Value.slice na (X.length + 1) nc).ownBlock ≠ some rb := by
        have hlt := KT.out.rb_lt
        rcases hat with e | e
        · rw [e, KB.out]; exact KT.out.ho
        · rw [e]; simp; omega
      have hFF := Kept.mk (KF1.out.set 0 (.slice na (X.length + 1) nc))
      have KO2 : Kept (Own .u8 5 (w1.setCell ⟨rb, 0, none⟩ (.slice na (X.length + 1) nc)) W0.heap.size (.slice na (X.length + 1) nc) (X ++ [IntKind.u8.wrap V1])) := ⟨hO.far fun g hg => Below.heap_setCell _ _ _ _ (fun e => ho2 (by rw [hg, e]))⟩
      have c02 := (KR1.out.s0 (.slice na (X.length + 1) nc)).c0
      clear hO hat ho2
      go_wp2
      go_ret
      exact ⟨_, rfl, by rw [KN.out]; exact KO2.out, hFF.out.below KT.out.bel KT.out.hb (fun k hk => (KT.out.ob_ge k hk).1) hwz1⟩

open Go.RowKit

/-- How many bits a number has. -/
def lenN (x : Nat) : Nat := if x = 0 then 0 else Nat.log2 x + 1
theorem lenN_lt (x : Nat) : x < 2 ^ lenN x := by
  unfold lenN
  split
  · omega
  · exact Nat.lt_log2_self
theorem lenN_le {x : Nat} (h : 0 < x) : 2 ^ lenN x ≤ 2 * x := by
  unfold lenN
  rw [if_neg (by omega), Nat.pow_succ]
  have := Nat.log2_self_le (n := x) (by omega)
  omega
theorem lenN_uniq {x k : Nat} (h : 0 < x) (h1 : x < 2 ^ k) (h2 : 2 ^ k ≤ 2 * x) : k = lenN x := by
  have h3 := lenN_lt x
  have h4 := lenN_le h
  rcases Nat.lt_trichotomy k (lenN x) with h5 | h5 | h5
  · have : 2 ^ (k + 1) ≤ 2 ^ lenN x := Nat.pow_le_pow_right (by omega) (by omega)
    rw [Nat.pow_succ] at this
    omega
  · exact h5
  · have : 2 ^ (lenN x + 1) ≤ 2 ^ k := Nat.pow_le_pow_right (by omega) (by omega)
    rw [Nat.pow_succ] at this
    omega
theorem lenN_high {x : Nat} (h : 256 ≤ x) : lenN (x / 256) + 8 = lenN x := by
  refine lenN_uniq (by omega) ?_ ?_
  · have := lenN_lt (x / 256)
    rw [Nat.pow_add]
    omega
  · have := lenN_le (x := x / 256) (by omega)
    rw [Nat.pow_add]
    omega
theorem lenN_small {x k : Nat} (h : x < 2 ^ k) : lenN x ≤ k := by
  rcases Nat.lt_or_ge k (lenN x) with h1 | h1
  · exfalso
    by_cases h0 : x = 0
    · subst h0
      simp [lenN] at h1
    · have h2 := lenN_le (x := x) (by omega)
      have : 2 ^ (k + 1) ≤ 2 ^ lenN x := Nat.pow_le_pow_right (by omega) (by omega)
      rw [Nat.pow_succ] at this
      omega
  · exact h1

/-- A table of 256 bytes that is a constant text. -/
theorem index_tab {T : ByteArray} {f : Nat → Nat} (hT : (List.range 256).all (fun i => T[i]? == some (UInt8.ofNat (f i))) = true) (k : IntKind) (i : Nat) (W : World) (hf : f i < 256) (hi : i < 256) :
    (Instr.index 9 (.string T) (.int k (i : Int))).run Tryd.prog W = .ok (.int .u8 (f i)) W := by
  have h1 := List.all_eq_true.1 hT i (by simpa using hi)
  have h2 : T[i]? = some (UInt8.ofNat (f i)) := by simpa using h1
  obtain ⟨h3, h4⟩ := getElem?_eq_some_iff.1 h2
  have h5 : i < T.size := h3
  rw [run_index_string (P := Tryd.prog) (t := 9) (h := Tryd.underlying9), dif_pos ⟨by omega, by omega⟩]
  have h6 : (T[i]'h3).toNat = f i := by
    rw [h4]
    simp
    omega
  simp only [Int.toNat_natCast, h6]

set_option maxHeartbeats 1000000 in
set_option maxRecDepth 100000 in
theorem len64_any (x : Nat) (hx : x < 65536) (w : World) :
    Calls Tryd.prog 85 #[.int .u64 x] w fun e w' => e = .returned (.int .i64 (lenN x)) ∧ w' = w := by
  have hd1 : decide ((4294967296 : Int) ≤ (x : Int)) = false := by simp; omega
  have hd2 : decide ((65536 : Int) ≤ (x : Int)) = false := by simp; omega
  by_cases h8 : x < 256
  · have hd3 : decide ((256 : Int) ≤ (x : Int)) = false := by simp; omega
    have hx8 : (x : Int) < 256 := by omega
    have hl := lenN_small (x := x) (k := 8) (by omega)
    go_enter Tryd.func85, Tryd.ntmps85
    go_upto_region 10 with fail
    generalize hT : Value.string _ = S
    obtain ⟨T, rfl, hTt⟩ : ∃ T : ByteArray, S = Value.string T ∧ (List.range 256).all (fun i => T[i]? == some (UInt8.ofNat (lenN i))) = true := by
      subst hT
      exact ⟨_, rfl, by kernel_rfl⟩
    clear hT
    have hm : ∀ W, (Instr.index 9 (.string T) (.int .u8 (x : Int))).run Tryd.prog W = .ok (.int .u8 (lenN x)) W := fun W => index_tab hTt .u8 x W (by omega) h8
    clear hTt
    obtain ⟨M, hM⟩ : ∃ M, lenN x = M := ⟨_, rfl⟩
    rw [hM] at hm hl
    have KM := Kept.mk hM
    clear hM
    go_wp2
    go_ret
    refine ⟨?_, rfl⟩
    rw [KM.out]
    rfl
  · have hd3 : decide ((256 : Int) ≤ (x : Int)) = true := by simp; omega
    have hxd : (x : Int) / 256 < 256 := by omega
    have hl := lenN_small (x := x / 256) (k := 8) (by omega)
    have hh := Kept.mk (lenN_high (x := x) (by omega))
    go_enter Tryd.func85, Tryd.ntmps85
    go_upto_region 10 with fail
    generalize hT : Value.string _ = S
    obtain ⟨T, rfl, hTt⟩ : ∃ T : ByteArray, S = Value.string T ∧ (List.range 256).all (fun i => T[i]? == some (UInt8.ofNat (lenN i))) = true := by
      subst hT
      exact ⟨_, rfl, by kernel_rfl⟩
    clear hT
    have hm : ∀ W, (Instr.index 9 (.string T) (.int .u8 ((x : Int) / 256))).run Tryd.prog W = .ok (.int .u8 (lenN (x / 256))) W := fun W => by
      rw [show (x : Int) / 256 = ((x / 256 : Nat) : Int) from by omega]
      exact index_tab hTt .u8 (x / 256) W (by omega) (by omega)
    clear hTt
    obtain ⟨M, hM⟩ : ∃ M, lenN (x / 256) = M := ⟨_, rfl⟩
    rw [hM] at hm hl
    have KM := Kept.mk hM
    clear hM
    go_wp2
    go_ret
    refine ⟨?_, rfl⟩
    rw [← hh.out, KM.out, show ((M + 8 : Nat) : Int) = 8 + (M : Int) from by omega]
    rfl

set_option maxHeartbeats 1000000 in
set_option maxRecDepth 100000 in
theorem len_any (x : Nat) (hx : x < 65536) (w : World) :
    Calls Tryd.prog 64 #[.int .u64 x] w fun e w' => e = .returned (.int .i64 (lenN x)) ∧ w' = w := by
  have KC := Kept.mk (len64_any x hx w)
  go_enter Tryd.func64, Tryd.ntmps64
  go_wp2_with (go_at_call 85; refine Calls.mono KC.out (fun e w2 hp => ?_); obtain ⟨rfl, rfl⟩ := hp)
  go_ret
  exact ⟨rfl, rfl⟩
end Go.Proofs.YtjijkcmbbccfmaaDoor
