/-
  strings.ContainsAny at every text, the signs asked for being ASCII.
-/
import Derived.Test.YthkaohkondkhgaaDoorK
import Derived.Test.YthkaohkondkhgaaDoorShelf
import Derived.Laws.RangeAny
import Derived.WalkMore
import Derived.Deep.Cut
import Derived.Lib.OthersKept
namespace Go.Proofs.YthkaohkondkhgaaDoor
open Go.RowKit

/-- What a code point of more than one byte covers is no ASCII. -/
theorem decode_run (s : ByteArray) (pos : Nat) (h : pos < s.size) (ha : 128 ≤ (s[pos]'h).toNat) : ∀ k, k < (Utf8.decode s pos).2 → pos + k < s.size ∧ 128 ≤ (s.get! (pos + k)).toNat := by
  have hn : ¬ (s[pos]'h).toNat < 128 := by omega
  have g0 : (s.get! (pos + 0)).toNat = (s[pos]'h).toNat := by rw [get_at s pos h]
  intro k hk
  simp only [Utf8.decode, get_at s pos h, hn, if_false] at hk
  split at hk
  · rename_i hc
    simp only [Bool.and_eq_true, beq_iff_eq, decide_eq_true_eq] at hc
    split at hk
    · simp only at hk
      rcases (by omega : k = 0 ∨ k = 1) with rfl | rfl
      · rw [g0]; omega
      · omega
    · simp only at hk
      obtain rfl : k = 0 := by omega
      rw [g0]; omega
  · split at hk
    · rename_i hc
      simp only [Bool.and_eq_true, beq_iff_eq, decide_eq_true_eq] at hc
      split at hk
      · simp only at hk
        rcases (by omega : k = 0 ∨ k = 1 ∨ k = 2) with rfl | rfl | rfl
        · rw [g0]; omega
        · omega
        · omega
      · simp only at hk
        obtain rfl : k = 0 := by omega
        rw [g0]; omega
    · split at hk
      · rename_i hc
        simp only [Bool.and_eq_true, beq_iff_eq, decide_eq_true_eq] at hc
        split at hk
        · simp only at hk
          rcases (by omega : k = 0 ∨ k = 1 ∨ k = 2 ∨ k = 3) with rfl | rfl | rfl | rfl
          · rw [g0]; omega
          · omega
          · omega
          · omega
        · simp only at hk
          obtain rfl : k = 0 := by omega
          rw [g0]; omega
      · simp only at hk
        obtain rfl : k = 0 := by omega
        rw [g0]; omega
theorem decode_valid (s : ByteArray) (pos : Nat) : Utf8.valid (Utf8.decode s pos).1 = true := by
  have hb : ∀ k, (s.get! (pos + k)).toNat < 256 := fun k => (s.get! (pos + k)).toNat_lt
  have h0 := hb 0; have h1 := hb 1; have h2 := hb 2; have h3 := hb 3
  simp only [Utf8.decode]
  repeat' split
  all_goals simp_all [Utf8.runeError, Utf8.valid]
  all_goals omega
/-- The bytes of a code point beyond ASCII: two or more, the last one beyond ASCII. -/
theorem ofNat_toNat (n : Nat) : (UInt8.ofNat n).toNat = n % 256 := by simp
theorem encode_last (r : Int) (h : 128 ≤ r) (hv : Utf8.valid r = true) : ∃ n : Nat, 1 ≤ n ∧ n ≤ 3 ∧ (Utf8.encode r).size = n + 1 ∧ ∃ h' : n < (Utf8.encode r).size, 128 ≤ ((Utf8.encode r)[n]'h').toNat := by
  have hn : ¬ r.toNat < 128 := by omega
  have hx : 128 ≤ (UInt8.ofNat (128 + r.toNat % 64)).toNat := by rw [ofNat_toNat]; omega
  simp only [Utf8.encode, hv, if_true, hn, if_false]
  split
  · exact ⟨1, by omega, by omega, rfl, Nat.lt_succ_self 1, hx⟩
  · split
    · exact ⟨2, by omega, by omega, rfl, Nat.lt_succ_self 2, hx⟩
    · exact ⟨3, by omega, by omega, rfl, Nat.lt_succ_self 3, hx⟩
def AsciiB (s : ByteArray) : Prop := ∀ (j : Nat) b, s.data.toList[j]? = some b → b.toNat < 128
theorem indexByte_high {l : List UInt8} {c : UInt8} (h : ∀ b ∈ l, b.toNat < 128) (hc : 128 ≤ c.toNat) : Lib.indexByte l c = -1 := by
  induction l with
  | nil => rfl
  | cons b l ih =>
    have hb : ¬ b = c := fun e => by have := h b (by simp); rw [e] at this; omega
    have := ih (fun x hx => h x (by simp [hx]))
    unfold Lib.indexByte
    simp [hb, this]

set_option maxHeartbeats 2000000 in
set_option maxRecDepth 100000 in
/-- Of a code point beyond ASCII there is none among ASCII signs. -/
theorem indexRune_high (s : ByteArray) (r : Int) (w : World) (ha : AsciiB s) (h0 : 128 ≤ r) (h1 : r ≤ 1114111) (hv : Utf8.valid r = true) (he : ¬ r = 65533) :
    Calls Tryd.prog 117 #[.string s, .int .i32 r] w fun e w' => e = .returned (.int .i64 (-1)) ∧ Below w.heap.size w w' := by
  obtain ⟨n, hn1, hn3, hsz, hlt, hlast⟩ := encode_last r h0 hv
  obtain ⟨E, hE⟩ : ∃ E, Utf8.encode r = E := ⟨_, rfl⟩
  have hvr : Lib.validRune r = true := by
    unfold Lib.validRune
    unfold Utf8.valid at hv
    simp only [Bool.or_eq_true, Bool.and_eq_true, decide_eq_true_eq] at hv ⊢
    omega
  have KV := Tryd.utf8_ValidRune r w
  rw [hvr] at KV
  have KV := Kept.mk KV
  simp only [hE] at hsz hlt hlast
  obtain ⟨x, hx⟩ : ∃ x : UInt8, E[n]'hlt = x := ⟨_, rfl⟩
  rw [hx] at hlast
  have g1 : ¬ r < 128 := by omega
  have g2 : 0 ≤ r := by omega
  have g3 : (r == 65533) = false := by simpa using he
  have hEl : (E.size : Int) - 1 = (n : Int) := by omega
  go_enter Tryd.func117, Tryd.ntmps117
  go_wp2_with fail
  refine Calls.mono KV.out (fun e w1 hp => ?_)
  obtain ⟨rfl, rfl⟩ := hp
  clear KV hv hvr
  go_wp2
  go_step3
  go_wp2
  go_loopw [9, 10, 11, 12] (fun iv _ _ _ wr => iv = .int .i64 n ∧ wr = w1) (fun _ _ _ _ _ => 0)
  case atStart => exact ⟨rfl, rfl⟩
  case round =>
    obtain ⟨rfl, rfl⟩ := hrel
    by_cases hns : n < s.size
    · have hnsi : (n : Int) < (s.size : Int) := by omega
      obtain ⟨y, hy⟩ : ∃ y : UInt8, s[n]'hns = y := ⟨_, rfl⟩
      have hyl : y.toNat < 128 := ha n y (by rw [← hy]; exact Lib.data_getElem? s n hns)
      have hne : ((y.toNat : Int) == (x.toNat : Int)) = false := by simp; omega
      have hEi : (n : Int) < (E.size : Int) := by omega
      go_wp2
      go_step3
      go_upto_region 6 with fail
      go_quiet (fail)
      have hneg : ∀ (t : ByteArray), (∀ b ∈ t.data.toList, b.toNat < 128) → Lib.indexByte t.data.toList ((x.toNat : Int).toNat.toUInt8) = -1 := fun t ht => by
        have e : ((x.toNat : Int).toNat.toUInt8) = x := by simp
        rw [e]
        exact indexByte_high ht hlast
      have KI : Kept (∀ w', Calls Tryd.prog 126 #[.string (s.extract (n + 1) s.size), .int .u8 x.toNat] w' fun e w'' => e = .returned (.int .i64 (-1)) ∧ w'' = w') := ⟨fun w' => by
        have h := Tryd.strings_IndexByte (s.extract (n + 1) s.size) (x.toNat : Int) w'
        rw [hneg _ (fun b hb => by
          simp only [ByteArray.data_extract, Array.toList_extract] at hb
          obtain ⟨j, hj⟩ := List.getElem?_of_mem hb
          rw [List.extract_eq_take_drop] at hj
          simp only [List.getElem?_take, List.getElem?_drop] at hj
          split at hj
          · exact ha _ b hj
          · cases hj)] at h
        exact h⟩
      clear hneg
      go_wp2
      have hbq := below_drewN (Below.refl wr.heap.size wr) nq
      obtain ⟨w2, hw2⟩ : ∃ w2, wr.drewN nq = w2 := ⟨_, rfl⟩
      rw [hw2] at hbq ⊢
      have KBq := Kept.mk hbq
      clear hbq hw2
      go_quiet ((go_at_call 126; exact Calls.quiet_of_same (KI.out _)))
      go_wp2
      simp (config := { zetaDelta := true }) only [Exit.noGoto_ret, Exit.inBlock]
      change bodyPost Tryd.prog Tryd.f117 (fun e w' => e = .returned (.int .i64 (-1)) ∧ Below wr.heap.size wr w') Exit.ret _ _
      go_ret
      exact ⟨rfl, below_drewN KBq.out _⟩
    · have hnsi : ¬ (n : Int) < (s.size : Int) := by omega
      go_wp2
      go_ret
      exact ⟨rfl, Below.refl _ _⟩


set_option maxHeartbeats 2000000 in
set_option maxRecDepth 100000 in
theorem indexRune_err (s : ByteArray) (w : World) (ha : AsciiB s) :
    Calls Tryd.prog 117 #[.string s, .int .i32 65533] w fun e w' => e = .returned (.int .i64 (-1)) ∧ Below w.heap.size w w' := by
  have HA := Kept.mk ha
  clear ha
  go_enter Tryd.func117, Tryd.ntmps117
  go_wp2
  go_loopw [5, 6] (fun _ _ wr => ∃ i : Nat, i ≤ s.size ∧ wr = w.iter s i) (fun _ _ wr => s.size - wr.iterPos w.heap.size)
  case atStart => exact ⟨0, Nat.zero_le _, rfl⟩
  case round =>
    obtain ⟨i, hi, rfl⟩ := hrel
    by_cases hlt : i < s.size
    · obtain ⟨x, hx⟩ : ∃ x : UInt8, s[i]'hlt = x := ⟨_, rfl⟩
      have hx128 : x.toNat < 128 := HA.out i x (by rw [← hx]; exact Lib.data_getElem? s i hlt)
      have hnx := fun ty => run_next_ascii (P := Tryd.prog) w s i ty hlt (by rw [hx]; exact hx128)
      rw [hx] at hnx
      have hne : ((x.toNat : Int) == 65533) = false := by simp; omega
      go_wp2
      go_roundw
      case rel => exact ⟨i + 1, by omega, rfl⟩
      case measure => simp; omega
    · have hnx := fun ty => run_next_end (P := Tryd.prog) w s i ty hlt
      go_wp2
      go_ret
      exact ⟨rfl, (Below.refl _ _).alloc (Nat.le_refl _) _⟩
theorem indexRune_beyond (s : ByteArray) (r : Int) (w : World) (ha : AsciiB s) (h0 : 128 ≤ r) (h1 : r ≤ 1114111) (hv : Utf8.valid r = true) :
    Calls Tryd.prog 117 #[.string s, .int .i32 r] w fun e w' => e = .returned (.int .i64 (-1)) ∧ Below w.heap.size w w' := by
  by_cases he : r = 65533
  · subst he
    exact indexRune_err s w ha
  · exact indexRune_high s r w ha h0 h1 hv he

theorem get_bang (s : ByteArray) (k : Nat) (b : UInt8) (h : s.data.toList[k]? = some b) : s.get! k = b := by
  have hk : k < s.size := by
    rw [Lib.size_eq]
    exact (List.getElem?_eq_some_iff.1 h).1
  have e : s.get! k = s[k]'hk := get_at s k hk
  rw [e]
  have := Lib.data_getElem? s k hk
  rw [h] at this
  injection this with this
  exact this.symm
theorem noAny_run {s chars : ByteArray} {i : Nat} (h : Lib.NoAny s.data.toList chars.data.toList i) (hc : AsciiB chars) (hlt : i < s.size) (ha : 128 ≤ (s[i]'hlt).toNat) : Lib.NoAny s.data.toList chars.data.toList (i + (Utf8.decode s i).2) ∧ i + (Utf8.decode s i).2 ≤ s.size := by
  have hr := decode_run s i hlt ha
  have hw := decode_high s i hlt ha
  refine ⟨fun j b hj hb => ?_, ?_⟩
  · by_cases hji : j < i
    · exact h j b hji hb
    · have h1 := hr (j - i) (by omega)
      rw [show i + (j - i) = j from by omega, get_bang s j b hb] at h1
      cases hcb : chars.data.toList.contains b with
      | false => rfl
      | true =>
        have hm : b ∈ chars.data.toList := by simpa using hcb
        obtain ⟨q, hq⟩ := List.getElem?_of_mem hm
        have := hc q b hq
        omega
  · have := (hr ((Utf8.decode s i).2 - 1) (by omega)).1
    omega

set_option maxHeartbeats 2000000 in
set_option maxRecDepth 100000 in
theorem indexAny_short (s chars : ByteArray) (w : World) (h2 : 2 ≤ chars.size) (h8 : s.size ≤ 8) (hc : AsciiB chars) :
    Calls Tryd.prog 109 #[.string s, .string chars] w fun e w' => e = .returned (.int .i64 (Lib.indexAny s.data.toList chars.data.toList)) ∧ Below w.heap.size w w' := by
  have HC := Kept.mk hc
  clear hc
  have hemp : chars.toList.isEmpty = false := by
    rw [Lib.toList_data]
    cases h : chars.data.toList with
    | nil => have := Lib.size_eq chars; rw [h, List.length_nil] at this; omega
    | cons _ _ => rfl
  have hn1 : ((chars.size : Int) == 1) = false := beq_eq_false_iff_ne.2 (by omega)
  have h8z : decide ((8 : Int) < (s.size : Int)) = false := decide_eq_false (by omega)
  go_enter Tryd.func109, Tryd.ntmps109
  go_wp2_with (go_at_call 118; refine (Tryd.strings_shouldUseASCIISet _ _).mono ?_; rintro e w' ⟨rfl, hw⟩; rw [hw, h8z])
  have KB0 := Kept.mk ((Below.refl w.heap.size w).alloc (Nat.le_refl _) (.stringIter s 0))
  have hh0 : (w.iter s 0).heap[w.heap.size]? = some (.stringIter s 0) := World.iter_heap w s 0
  have KH0 := Kept.mk hh0
  clear hh0
  go_loopw [9, 10] (fun _ _ wr => ∃ i : Nat, i ≤ s.size ∧ wr.heap[w.heap.size]? = some (.stringIter s i) ∧ Below w.heap.size w wr ∧ Lib.NoAny s.data.toList chars.data.toList i) (fun _ _ wr => s.size - wr.iterPos w.heap.size)
  case atStart => exact ⟨0, Nat.zero_le _, KH0.out, KB0.out, Lib.NoAny.zero _ _⟩
  case round =>
    obtain ⟨i, hi, hk, hbel, hno⟩ := hrel
    have hpos : wr.iterPos w.heap.size = i := by simp [World.iterPos, hk]
    have KK := Kept.mk hk
    have KB := Kept.mk hbel
    have KN := Kept.mk hno
    clear hno
    by_cases hlt : i < s.size
    · have hb1 : ∀ p, Below w.heap.size w (wr.iterAt w.heap.size s p) := fun p => ⟨hbel.os, hbel.tape, hbel.output, by rw [Lib.iterAt_size]; exact hbel.size, fun q hq => by rw [Lib.iterAt_other _ _ _ _ _ (by omega)]; exact hbel.block q hq⟩
      have hsz : w.heap.size < wr.heap.size := (Array.getElem?_eq_some_iff.1 hk).1
      obtain ⟨x, hx⟩ : ∃ x : UInt8, s[i]'hlt = x := ⟨_, rfl⟩
      have hxl : s.data.toList[i]? = some x := by rw [← hx]; exact Lib.data_getElem? s i hlt
      by_cases hx128 : x.toNat < 128
      · have hnx := fun ty => Lib.run_next_ascii_at (P := Tryd.prog) wr w.heap.size s i ty hk hlt (by rw [hx]; exact hx128)
        rw [hx] at hnx
        have Hx := Kept.mk hxl
        have hback : ((x.toNat : Int)).toNat.toUInt8 = x := by simp
        have hcon := Lib.contains_iff_indexByte chars.data.toList x
        have h1 := Lib.iterAt_heap wr w.heap.size s i (i + 1) hk
        have K1 := Kept.mk (And.intro h1 (hb1 (i + 1)))
        clear hxl hx hb1 hbel h1 hk
        obtain ⟨w2, hw2⟩ : ∃ w2, wr.iterAt w.heap.size s (i + 1) = w2 := ⟨_, rfl⟩
        rw [hw2] at K1
        simp only [hw2] at hnx
        clear hw2
        have KR := Tryd.strings_IndexRune_ascii chars (x.toNat : Int) w2 (by omega) (by omega)
        rw [hback] at KR
        have KR := Kept.mk KR
        cases hin : chars.data.toList.contains x
        · rw [hin] at hcon
          have hlt0 : ¬ ((0 : Int) ≤ Lib.indexByte chars.data.toList x) := of_decide_eq_false hcon.symm
          have Hin := Kept.mk hin
          clear hcon hin
          go_wp2_with (go_at_call 117; refine Calls.mono KR.out (fun e w3 hp => ?_); obtain ⟨rfl, rfl⟩ := hp)
          go_roundw
          case rel => exact ⟨i + 1, by omega, K1.out.1, K1.out.2, KN.out.succ Hx.out Hin.out⟩
          case measure =>
            have e1 : w3.iterPos w.heap.size = i + 1 := by simp [World.iterPos, K1.out.1]
            rw [e1, hpos]
            omega
        · rw [hin] at hcon
          have hle0 : (0 : Int) ≤ Lib.indexByte chars.data.toList x := of_decide_eq_true hcon.symm
          have Hin := Kept.mk hin
          clear hcon hin
          go_wp2_with (go_at_call 117; refine Calls.mono KR.out (fun e w3 hp => ?_); obtain ⟨rfl, rfl⟩ := hp)
          go_ret
          exact ⟨by rw [Lib.indexAny_hit KN.out Hx.out Hin.out]; rfl, K1.out.2⟩
      · have hxh : 128 ≤ (s[i]'hlt).toNat := by rw [hx]; omega
        have hnx := fun ty => Lib.run_next_any_at (P := Tryd.prog) wr w.heap.size s i ty hk hlt
        have hd := decode_high s i hlt hxh
        have hdv := decode_valid s i
        have hrun := noAny_run KN.out HC.out hlt hxh
        obtain ⟨r, hr⟩ : ∃ r, (Utf8.decode s i).1 = r := ⟨_, rfl⟩
        obtain ⟨d, hdd⟩ : ∃ d, (Utf8.decode s i).2 = d := ⟨_, rfl⟩
        simp only [hr, hdd] at hnx hd hdv hrun
        have hr1 : (r : Int) ≤ 1114111 := by
          unfold Utf8.valid at hdv
          simp only [Bool.or_eq_true, Bool.and_eq_true, decide_eq_true_eq] at hdv
          omega
        have h1 := Lib.iterAt_heap wr w.heap.size s i (i + d) hk
        have K1 := Kept.mk (And.intro h1 (hb1 (i + d)))
        have hsz2 := Lib.iterAt_size wr w.heap.size s (i + d)
        clear hxl hx hb1 hbel h1 hk hr hdd
        obtain ⟨w2, hw2⟩ : ∃ w2, wr.iterAt w.heap.size s (i + d) = w2 := ⟨_, rfl⟩
        rw [hw2] at K1 hsz2
        simp only [hw2] at hnx
        have KR := Kept.mk (indexRune_beyond chars (r : Int) w2 HC.out (by omega) hr1 hdv)
        have KRun := Kept.mk hrun
        clear hw2 hdv hrun
        go_wp2_with (go_at_call 117; refine Calls.mono KR.out (fun e w3 hp => ?_); obtain ⟨rfl, hb3⟩ := hp; have KB3 := Kept.mk hb3; clear hb3)
        have e3 : w3.heap[w.heap.size]? = some (.stringIter s (i + d)) := by rw [KB3.out.block _ (by omega)]; exact K1.out.1
        go_roundw
        case rel => exact ⟨i + d, KRun.out.2, e3, K1.out.2.trans (KB3.out.mono K1.out.2.size), KRun.out.1⟩
        case measure =>
          have e1 : w3.iterPos w.heap.size = i + d := by simp [World.iterPos, e3]
          rw [e1, hpos]
          omega
    · have hnx := fun ty => Lib.run_next_end_at (P := Tryd.prog) wr w.heap.size s i ty hk hlt
      have hie : i = s.size := by omega
      clear hk hbel
      go_wp2
      go_ret
      exact ⟨by rw [Lib.indexAny_none (by rw [← Lib.size_eq, ← hie]; exact KN.out)]; rfl, KB.out⟩

theorem zero59 (w : World) : (zeroValue 132).run Tryd.prog w = .ok (.agg (Array.replicate 256 (.bool false))) w := by kernel_rfl

set_option maxHeartbeats 1000000 in
set_option maxRecDepth 100000 in
theorem containsAny_any (s chars : ByteArray) (w : World) (hs : s.size < 4294967281) (h2 : 2 ≤ chars.size) (hcs : chars.size < 4294967281) (hc : AsciiB chars) :
    Calls Tryd.prog 95 #[.string s, .string chars] w fun e w' => e = .returned (.bool (Lib.containsAny s.data.toList chars.data.toList)) ∧ Below w.heap.size w w' := by
  have KI : Kept (Calls Tryd.prog 109 #[.string s, .string chars] w fun e w' => e = .returned (.int .i64 (Lib.indexAny s.data.toList chars.data.toList)) ∧ Below w.heap.size w w') := ⟨by
    by_cases h8 : s.size ≤ 8
    · exact indexAny_short s chars w h2 h8 hc
    · refine (Tryd.strings_IndexAny_long zero59 s chars w h2 (by omega) hs hcs hc).mono fun e w' hp => ⟨hp.1, ?_⟩
      rw [hp.2]
      exact ((Below.refl _ _).alloc (Nat.le_refl _) _).alloc (by simp) _⟩
  unfold Lib.containsAny
  generalize Lib.indexAny s.data.toList chars.data.toList = q at *
  go_enter Tryd.func95, Tryd.ntmps95
  go_wp2_with fail
  refine Calls.mono KI.out (fun e w1 hp => ?_)
  obtain ⟨rfl, hb⟩ := hp
  have KB := Kept.mk hb
  clear hb
  go_wp2
  go_ret
  exact ⟨rfl, KB.out⟩
end Go.Proofs.YthkaohkondkhgaaDoor
