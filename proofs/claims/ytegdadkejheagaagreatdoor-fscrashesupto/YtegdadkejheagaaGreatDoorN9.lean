/-
  strings.ContainsAny at every text, the signs asked for being ASCII.
-/
import Derived.Test.YtegdadkejheagaaGreatDoorK
import Derived.Test.YtegdadkejheagaaGreatDoorShelf
import Derived.Laws.RangeAny
import Derived.WalkMore
import Derived.Deep.Cut
import Derived.Lib.OthersKept
import Derived.Lib.LaidTab
import Derived.Sort.Grow
namespace Go.Proofs.YtegdadkejheagaaGreatDoor
open Go.RowKit

/-- What a code point of more than one byte covers is no ASCII. -/
theorem decode_run (s : ByteArray) (pos : Nat) (h : pos < s.size) (ha : 128 ≤ (s[pos]'h).toNat) : ∀ k, k < (Utf8.decode s pos).2 → pos + k < s.size ∧ 128 ≤ (s.get! (pos + k)).toNat := by
  have hn : ¬ (s[pos]'h).toNat < 128 := by omega
  have g0 : (s.get! (pos + 0)).toNat = (s[pos]'h).toNat := by rw [get_at s pos h]
  intro k hk
  simp only [Utf8.decode, get_at s pos h, hn, if_false] at hk
  split at hk
  · rename_i hc
    simp only [Bool.and_eq_true, beq_iff_eq, decide_eq_true_eq] at hc
    split at hk
    · simp only at hk
      rcases (by omega : k = 0 ∨ k = 1) with rfl | rfl
      · rw [g0]; omega
      · omega
    · simp only at hk
      obtain rfl : k = 0 := by omega
      rw [g0]; omega
  · split at hk
    · rename_i hc
      simp only [Bool.and_eq_true, beq_iff_eq, decide_eq_true_eq] at hc
      split at hk
      · simp only at hk
        rcases (by omega : k = 0 ∨ k = 1 ∨ k = 2) with rfl | rfl | rfl
        · rw [g0]; omega
        · omega
        · omega
      · simp only at hk
        obtain rfl : k = 0 := by omega
        rw [g0]; omega
    · split at hk
      · rename_i hc
        simp only [Bool.and_eq_true, beq_iff_eq, decide_eq_true_eq] at hc
        split at hk
        · simp only at hk
          rcases (by omega : k = 0 ∨ k = 1 ∨ k = 2 ∨ k = 3) with rfl | rfl | rfl | rfl
          · rw [g0]; omega
          · omega
          · omega
          · omega
        · simp only at hk
          obtain rfl : k = 0 := by omega
          rw [g0]; omega
      · simp only at hk
        obtain rfl : k = 0 := by omega
        rw [g0]; omega
theorem decode_valid (s : ByteArray) (pos : Nat) : Utf8.valid (Utf8.decode s pos).1 = true := by
  have hb : ∀ k, (s.get! (pos + k)).toNat < 256 := fun k => (s.get! (pos + k)).toNat_lt
  have h0 := hb 0; have h1 := hb 1; have h2 := hb 2; have h3 := hb 3
  simp only [Utf8.decode]
  repeat' split
  all_goals simp_all [Utf8.runeError, Utf8.valid]
  all_goals omega
/-- The bytes of a code point beyond ASCII: two or more, the last one beyond ASCII. -/
theorem ofNat_toNat (n : Nat) : (UInt8.ofNat n).toNat = n % 256 := by simp
theorem encode_last (r : Int) (h : 128 ≤ r) (hv : Utf8.valid r = true) : ∃ n : Nat, 1 ≤ n ∧ n ≤ 3 ∧ (Utf8.encode r).size = n + 1 ∧ ∃ h' : n < (Utf8.encode r).size, 128 ≤ ((Utf8.encode r)[n]'h').toNat := by
  have hn : ¬ r.toNat < 128 := by omega
  have hx : 128 ≤ (UInt8.ofNat (128 + r.toNat % 64)).toNat := by rw [ofNat_toNat]; omega
  simp only [Utf8.encode, hv, if_true, hn, if_false]
  split
  · exact ⟨1, by omega, by omega, rfl, Nat.lt_succ_self 1, hx⟩
  · split
    · exact ⟨2, by omega, by omega, rfl, Nat.lt_succ_self 2, hx⟩
    · exact ⟨3, by omega, by omega, rfl, Nat.lt_succ_self 3, hx⟩
def AsciiB (s : ByteArray) : Prop := ∀ (j : Nat) b, s.data.toList[j]? = some b → b.toNat < 128
theorem indexByte_high {l : List UInt8} {c : UInt8} (h : ∀ b ∈ l, b.toNat < 128) (hc : 128 ≤ c.toNat) : Lib.indexByte l c = -1 := by
  induction l with
  | nil => rfl
  | cons b l ih =>
    have hb : ¬ b = c := fun e => by have := h b (by simp); rw [e] at this; omega
    have := ih (fun x hx => h x (by simp [hx]))
    unfold Lib.indexByte
    simp [hb, this]

set_option maxHeartbeats 2000000 in
set_option maxRecDepth 100000 in
/-- Of a code point beyond ASCII there is none among ASCII signs. -/
theorem indexRune_high (s : ByteArray) (r : Int) (w : World) (ha : AsciiB s) (h0 : 128 ≤ r) (h1 : r ≤ 1114111) (hv : Utf8.valid r = true) (he : ¬ r = 65533) :
    Calls Tryz.prog 109 #[.string s, .int .i32 r] w fun e w' => e = .returned (.int .i64 (-1)) ∧ Below w.heap.size w w' := by
  obtain ⟨n, hn1, hn3, hsz, hlt, hlast⟩ := encode_last r h0 hv
  obtain ⟨E, hE⟩ : ∃ E, Utf8.encode r = E := ⟨_, rfl⟩
  have hvr : Lib.validRune r = true := by
    unfold Lib.validRune
    unfold Utf8.valid at hv
    simp only [Bool.or_eq_true, Bool.and_eq_true, decide_eq_true_eq] at hv ⊢
    omega
  have KV := Tryz.utf8_ValidRune r w
  rw [hvr] at KV
  have KV := Kept.mk KV
  simp only [hE] at hsz hlt hlast
  obtain ⟨x, hx⟩ : ∃ x : UInt8, E[n]'hlt = x := ⟨_, rfl⟩
  rw [hx] at hlast
  have g1 : ¬ r < 128 := by omega
  have g2 : 0 ≤ r := by omega
  have g3 : (r == 65533) = false := by simpa using he
  have hEl : (E.size : Int) - 1 = (n : Int) := by omega
  go_enter Tryz.func109, Tryz.ntmps109
  go_wp2_with fail
  refine Calls.mono KV.out (fun e w1 hp => ?_)
  obtain ⟨rfl, rfl⟩ := hp
  clear KV hv hvr
  go_wp2
  go_step3
  go_wp2
  go_loopw [9, 10, 11, 12] (fun iv _ _ _ wr => iv = .int .i64 n ∧ wr = w1) (fun _ _ _ _ _ => 0)
  case atStart => exact ⟨rfl, rfl⟩
  case round =>
    obtain ⟨rfl, rfl⟩ := hrel
    by_cases hns : n < s.size
    · have hnsi : (n : Int) < (s.size : Int) := by omega
      obtain ⟨y, hy⟩ : ∃ y : UInt8, s[n]'hns = y := ⟨_, rfl⟩
      have hyl : y.toNat < 128 := ha n y (by rw [← hy]; exact Lib.data_getElem? s n hns)
      have hne : ((y.toNat : Int) == (x.toNat : Int)) = false := by simp; omega
      have hEi : (n : Int) < (E.size : Int) := by omega
      go_wp2
      go_step3
      go_upto_region 6 with fail
      go_quiet (fail)
      have hneg : ∀ (t : ByteArray), (∀ b ∈ t.data.toList, b.toNat < 128) → Lib.indexByte t.data.toList ((x.toNat : Int).toNat.toUInt8) = -1 := fun t ht => by
        have e : ((x.toNat : Int).toNat.toUInt8) = x := by simp
        rw [e]
        exact indexByte_high ht hlast
      have KI : Kept (∀ w', Calls Tryz.prog 118 #[.string (s.extract (n + 1) s.size), .int .u8 x.toNat] w' fun e w'' => e = .returned (.int .i64 (-1)) ∧ w'' = w') := ⟨fun w' => by
        have h := Tryz.strings_IndexByte (s.extract (n + 1) s.size) (x.toNat : Int) w'
        rw [hneg _ (fun b hb => by
          simp only [ByteArray.data_extract, Array.toList_extract] at hb
          obtain ⟨j, hj⟩ := List.getElem?_of_mem hb
          rw [List.extract_eq_take_drop] at hj
          simp only [List.getElem?_take, List.getElem?_drop] at hj
          split at hj
          · exact ha _ b hj
          · cases hj)] at h
        exact h⟩
      clear hneg
      go_wp2
      have hbq := below_drewN (Below.refl wr.heap.size wr) nq
      obtain ⟨w2, hw2⟩ : ∃ w2, wr.drewN nq = w2 := ⟨_, rfl⟩
      rw [hw2] at hbq ⊢
      have KBq := Kept.mk hbq
      clear hbq hw2
      go_quiet ((go_at_call 118; exact Calls.quiet_of_same (KI.out _)))
      go_wp2
      simp (config := { zetaDelta := true }) only [Exit.noGoto_ret, Exit.inBlock]
      change bodyPost Tryz.prog Tryz.f109 (fun e w' => e = .returned (.int .i64 (-1)) ∧ Below wr.heap.size wr w') Exit.ret _ _
      go_ret
      exact ⟨rfl, below_drewN KBq.out _⟩
    · have hnsi : ¬ (n : Int) < (s.size : Int) := by omega
      go_wp2
      go_ret
      exact ⟨rfl, Below.refl _ _⟩


set_option maxHeartbeats 2000000 in
set_option maxRecDepth 100000 in
theorem indexRune_err (s : ByteArray) (w : World) (ha : AsciiB s) :
    Calls Tryz.prog 109 #[.string s, .int .i32 65533] w fun e w' => e = .returned (.int .i64 (-1)) ∧ Below w.heap.size w w' := by
  have HA := Kept.mk ha
  clear ha
  go_enter Tryz.func109, Tryz.ntmps109
  go_wp2
  go_loopw [5, 6] (fun _ _ wr => ∃ i : Nat, i ≤ s.size ∧ wr = w.iter s i) (fun _ _ wr => s.size - wr.iterPos w.heap.size)
  case atStart => exact ⟨0, Nat.zero_le _, rfl⟩
  case round =>
    obtain ⟨i, hi, rfl⟩ := hrel
    by_cases hlt : i < s.size
    · obtain ⟨x, hx⟩ : ∃ x : UInt8, s[i]'hlt = x := ⟨_, rfl⟩
      have hx128 : x.toNat < 128 := HA.out i x (by rw [← hx]; exact Lib.data_getElem? s i hlt)
      have hnx := fun ty => run_next_ascii (P := Tryz.prog) w s i ty hlt (by rw [hx]; exact hx128)
      rw [hx] at hnx
      have hne : ((x.toNat : Int) == 65533) = false := by simp; omega
      go_wp2
      go_roundw
      case rel => exact ⟨i + 1, by omega, rfl⟩
      case measure => simp; omega
    · have hnx := fun ty => run_next_end (P := Tryz.prog) w s i ty hlt
      go_wp2
      go_ret
      exact ⟨rfl, (Below.refl _ _).alloc (Nat.le_refl _) _⟩
theorem indexRune_beyond (s : ByteArray) (r : Int) (w : World) (ha : AsciiB s) (h0 : 128 ≤ r) (h1 : r ≤ 1114111) (hv : Utf8.valid r = true) :
    Calls Tryz.prog 109 #[.string s, .int .i32 r] w fun e w' => e = .returned (.int .i64 (-1)) ∧ Below w.heap.size w w' := by
  by_cases he : r = 65533
  · subst he
    exact indexRune_err s w ha
  · exact indexRune_high s r w ha h0 h1 hv he

theorem get_bang (s : ByteArray) (k : Nat) (b : UInt8) (h : s.data.toList[k]? = some b) : s.get! k = b := by
  have hk : k < s.size := by
    rw [Lib.size_eq]
    exact (List.getElem?_eq_some_iff.1 h).1
  have e : s.get! k = s[k]'hk := get_at s k hk
  rw [e]
  have := Lib.data_getElem? s k hk
  rw [h] at this
  injection this with this
  exact this.symm
theorem noAny_run {s chars : ByteArray} {i : Nat} (h : Lib.NoAny s.data.toList chars.data.toList i) (hc : AsciiB chars) (hlt : i < s.size) (ha : 128 ≤ (s[i]'hlt).toNat) : Lib.NoAny s.data.toList chars.data.toList (i + (Utf8.decode s i).2) ∧ i + (Utf8.decode s i).2 ≤ s.size := by
  have hr := decode_run s i hlt ha
  have hw := decode_high s i hlt ha
  refine ⟨fun j b hj hb => ?_, ?_⟩
  · by_cases hji : j < i
    · exact h j b hji hb
    · have h1 := hr (j - i) (by omega)
      rw [show i + (j - i) = j from by omega, get_bang s j b hb] at h1
      cases hcb : chars.data.toList.contains b with
      | false => rfl
      | true =>
        have hm : b ∈ chars.data.toList := by simpa using hcb
        obtain ⟨q, hq⟩ := List.getElem?_of_mem hm
        have := hc q b hq
        omega
  · have := (hr ((Utf8.decode s i).2 - 1) (by omega)).1
    omega

set_option maxHeartbeats 2000000 in
set_option maxRecDepth 100000 in
theorem indexAny_short (s chars : ByteArray) (w : World) (h2 : 2 ≤ chars.size) (h8 : s.size ≤ 8) (hc : AsciiB chars) :
    Calls Tryz.prog 102 #[.string s, .string chars] w fun e w' => e = .returned (.int .i64 (Lib.indexAny s.data.toList chars.data.toList)) ∧ Below w.heap.size w w' := by
  have HC := Kept.mk hc
  clear hc
  have hemp : chars.toList.isEmpty = false := by
    rw [Lib.toList_data]
    cases h : chars.data.toList with
    | nil => have := Lib.size_eq chars; rw [h, List.length_nil] at this; omega
    | cons _ _ => rfl
  have hn1 : ((chars.size : Int) == 1) = false := beq_eq_false_iff_ne.2 (by omega)
  have h8z : decide ((8 : Int) < (s.size : Int)) = false := decide_eq_false (by omega)
  go_enter Tryz.func102, Tryz.ntmps102
  go_wp2_with (go_at_call 110; refine (Tryz.strings_shouldUseASCIISet _ _).mono ?_; rintro e w' ⟨rfl, hw⟩; rw [hw, h8z])
  have KB0 := Kept.mk ((Below.refl w.heap.size w).alloc (Nat.le_refl _) (.stringIter s 0))
  have hh0 : (w.iter s 0).heap[w.heap.size]? = some (.stringIter s 0) := World.iter_heap w s 0
  have KH0 := Kept.mk hh0
  clear hh0
  go_loopw [9, 10] (fun _ _ wr => ∃ i : Nat, i ≤ s.size ∧ wr.heap[w.heap.size]? = some (.stringIter s i) ∧ Below w.heap.size w wr ∧ Lib.NoAny s.data.toList chars.data.toList i) (fun _ _ wr => s.size - wr.iterPos w.heap.size)
  case atStart => exact ⟨0, Nat.zero_le _, KH0.out, KB0.out, Lib.NoAny.zero _ _⟩
  case round =>
    obtain ⟨i, hi, hk, hbel, hno⟩ := hrel
    have hpos : wr.iterPos w.heap.size = i := by simp [World.iterPos, hk]
    have KK := Kept.mk hk
    have KB := Kept.mk hbel
    have KN := Kept.mk hno
    clear hno
    by_cases hlt : i < s.size
    · have hb1 : ∀ p, Below w.heap.size w (wr.iterAt w.heap.size s p) := fun p => ⟨hbel.os, hbel.tape, hbel.output, by rw [Lib.iterAt_size]; exact hbel.size, fun q hq => by rw [Lib.iterAt_other _ _ _ _ _ (by omega)]; exact hbel.block q hq⟩
      have hsz : w.heap.size < wr.heap.size := (Array.getElem?_eq_some_iff.1 hk).1
      obtain ⟨x, hx⟩ : ∃ x : UInt8, s[i]'hlt = x := ⟨_, rfl⟩
      have hxl : s.data.toList[i]? = some x := by rw [← hx]; exact Lib.data_getElem? s i hlt
      by_cases hx128 : x.toNat < 128
      · have hnx := fun ty => Lib.run_next_ascii_at (P := Tryz.prog) wr w.heap.size s i ty hk hlt (by rw [hx]; exact hx128)
        rw [hx] at hnx
        have Hx := Kept.mk hxl
        have hback : ((x.toNat : Int)).toNat.toUInt8 = x := by simp
        have hcon := Lib.contains_iff_indexByte chars.data.toList x
        have h1 := Lib.iterAt_heap wr w.heap.size s i (i + 1) hk
        have K1 := Kept.mk (And.intro h1 (hb1 (i + 1)))
        clear hxl hx hb1 hbel h1 hk
        obtain ⟨w2, hw2⟩ : ∃ w2, wr.iterAt w.heap.size s (i + 1) = w2 := ⟨_, rfl⟩
        rw [hw2] at K1
        simp only [hw2] at hnx
        clear hw2
        have KR := Tryz.strings_IndexRune_ascii chars (x.toNat : Int) w2 (by omega) (by omega)
        rw [hback] at KR
        have KR := Kept.mk KR
        cases hin : chars.data.toList.contains x
        · rw [hin] at hcon
          have hlt0 : ¬ ((0 : Int) ≤ Lib.indexByte chars.data.toList x) := of_decide_eq_false hcon.symm
          have Hin := Kept.mk hin
          clear hcon hin
          go_wp2_with (go_at_call 109; refine Calls.mono KR.out (fun e w3 hp => ?_); obtain ⟨rfl, rfl⟩ := hp)
          go_roundw
          case rel => exact ⟨i + 1, by omega, K1.out.1, K1.out.2, KN.out.succ Hx.out Hin.out⟩
          case measure =>
            have e1 : w3.iterPos w.heap.size = i + 1 := by simp [World.iterPos, K1.out.1]
            rw [e1, hpos]
            omega
        · rw [hin] at hcon
          have hle0 : (0 : Int) ≤ Lib.indexByte chars.data.toList x := of_decide_eq_true hcon.symm
          have Hin := Kept.mk hin
          clear hcon hin
          go_wp2_with (go_at_call 109; refine Calls.mono KR.out (fun e w3 hp => ?_); obtain ⟨rfl, rfl⟩ := hp)
          go_ret
          exact ⟨by rw [Lib.indexAny_hit KN.out Hx.out Hin.out]; rfl, K1.out.2⟩
      · have hxh : 128 ≤ (s[i]'hlt).toNat := by rw [hx]; omega
        have hnx := fun ty => Lib.run_next_any_at (P := Tryz.prog) wr w.heap.size s i ty hk hlt
        have hd := decode_high s i hlt hxh
        have hdv := decode_valid s i
        have hrun := noAny_run KN.out HC.out hlt hxh
        obtain ⟨r, hr⟩ : ∃ r, (Utf8.decode s i).1 = r := ⟨_, rfl⟩
        obtain ⟨d, hdd⟩ : ∃ d, (Utf8.decode s i).2 = d := ⟨_, rfl⟩
        simp only [hr, hdd] at hnx hd hdv hrun
        have hr1 : (r : Int) ≤ 1114111 := by
          unfold Utf8.valid at hdv
          simp only [Bool.or_eq_true, Bool.and_eq_true, decide_eq_true_eq] at hdv
          omega
        have h1 := Lib.iterAt_heap wr w.heap.size s i (i + d) hk
        have K1 := Kept.mk (And.intro h1 (hb1 (i + d)))
        have hsz2 := Lib.iterAt_size wr w.heap.size s (i + d)
        clear hxl hx hb1 hbel h1 hk hr hdd
        obtain ⟨w2, hw2⟩ : ∃ w2, wr.iterAt w.heap.size s (i + d) = w2 := ⟨_, rfl⟩
        rw [hw2] at K1 hsz2
        simp only [hw2] at hnx
        have KR := Kept.mk (indexRune_beyond chars (r : Int) w2 HC.out (by omega) hr1 hdv)
        have KRun := Kept.mk hrun
        clear hw2 hdv hrun
        go_wp2_with (go_at_call 109; refine Calls.mono KR.out (fun e w3 hp => ?_); obtain ⟨rfl, hb3⟩ := hp; have KB3 := Kept.mk hb3; clear hb3)
        have e3 : w3.heap[w.heap.size]? = some (.stringIter s (i + d)) := by rw [KB3.out.block _ (by omega)]; exact K1.out.1
        go_roundw
        case rel => exact ⟨i + d, KRun.out.2, e3, K1.out.2.trans (KB3.out.mono K1.out.2.size), KRun.out.1⟩
        case measure =>
          have e1 : w3.iterPos w.heap.size = i + d := by simp [World.iterPos, e3]
          rw [e1, hpos]
          omega
    · have hnx := fun ty => Lib.run_next_end_at (P := Tryz.prog) wr w.heap.size s i ty hk hlt
      have hie : i = s.size := by omega
      clear hk hbel
      go_wp2
      go_ret
      exact ⟨by rw [Lib.indexAny_none (by rw [← Lib.size_eq, ← hie]; exact KN.out)]; rfl, KB.out⟩

theorem zero59 (w : World) : (zeroValue 156).run Tryz.prog w = .ok (.agg (Array.replicate 256 (.bool false))) w := by kernel_rfl

set_option maxHeartbeats 1000000 in
set_option maxRecDepth 100000 in
theorem containsAny_any (s chars : ByteArray) (w : World) (hs : s.size < 4294967281) (h2 : 2 ≤ chars.size) (hcs : chars.size < 4294967281) (hc : AsciiB chars) :
    Calls Tryz.prog 90 #[.string s, .string chars] w fun e w' => e = .returned (.bool (Lib.containsAny s.data.toList chars.data.toList)) ∧ Below w.heap.size w w' := by
  have KI : Kept (Calls Tryz.prog 102 #[.string s, .string chars] w fun e w' => e = .returned (.int .i64 (Lib.indexAny s.data.toList chars.data.toList)) ∧ Below w.heap.size w w') := ⟨by
    by_cases h8 : s.size ≤ 8
    · exact indexAny_short s chars w h2 h8 hc
    · refine (Tryz.strings_IndexAny_long zero59 s chars w h2 (by omega) hs hcs hc).mono fun e w' hp => ⟨hp.1, ?_⟩
      rw [hp.2]
      exact ((Below.refl _ _).alloc (Nat.le_refl _) _).alloc (by simp) _⟩
  unfold Lib.containsAny
  generalize Lib.indexAny s.data.toList chars.data.toList = q at *
  go_enter Tryz.func90, Tryz.ntmps90
  go_wp2_with fail
  refine Calls.mono KI.out (fun e w1 hp => ?_)
  obtain ⟨rfl, hb⟩ := hp
  have KB := Kept.mk hb
  clear hb
  go_wp2
  go_ret
  exact ⟨rfl, KB.out⟩


/-- The worlds in which all that lay in W lies as it lay. -/
def CC (W w' : World) : Prop := Below W.heap.size W w'
theorem CC.refl (W : World) : CC W W := Below.refl _ _
theorem CC.on {W w' w'' : World} (h : CC W w') (hb : Below w'.heap.size w' w'') : CC W w'' := Below.trans h (hb.mono (Below.size h))
theorem CC.cell {W w' : World} (h : CC W w') {p : Addr} (hp : p.block < W.heap.size) : w'.cell? p = W.cell? p := Below.cell h hp
theorem quiet_run {P : Program} {C : World → Prop} {K : Act → Prop} {o : Oper} {a : Act} {v : Value} (h : ∀ w, C w → (execOp a.eval o).run P w = .ok (.value v) w) (hk : K (a.put o.dst v)) : o.quiet P a C K :=
  ⟨v, fun w hw => by
    unfold Oper.quietAt
    rw [h w hw]
    exact ⟨rfl, rfl⟩, hk⟩
theorem wp_region_quietC {P : Program} {C : World → Prop} {id : Nat} {Q : Exit → Act → World → Prop} {a : Act} {w : World} {l : List Oper} (hm : P.follows .mixedOrders = true) (hB : Region.lexB .any l.toArray = true) (hC : C { w with drawn := w.drawn + 1 })
    (h : wpQuiet P l.toArray C (fun a' => ∀ w', C w' → Q .normal a' w') l a) : (Code.region id l.toArray true).wp P Q a w :=
  wp_region_quiet hm hB hC (by simpa using h)

/-- What the package variables hold. -/
structure Gl (w : World) : Prop where
  mx : ∃ m, w.cell? ⟨0, 0, none⟩ = some (.int .i64 m)
  lo : 3 ≤ w.heap.size
theorem Gl.later {w w' : World} (h : Gl w) (hb : Below w.heap.size w w') : Gl w' := by
  have hl := h.lo
  obtain ⟨m, hm⟩ := h.mx
  exact ⟨⟨m, by rw [hb.cell (p := ⟨0, 0, none⟩) (by simp only; omega)]; exact hm⟩, by have := hb.size; omega⟩

theorem below_grow (w : World) (k : Nat) (os : Array Obj) : Below w.heap.size w (Sort.grow (w.drewN k) os) :=
  ⟨rfl, rfl, rfl, by simp, fun q hq => by
    show (w.heap ++ os)[q]? = w.heap[q]?
    rw [Array.getElem?_append_left hq]⟩
theorem alloc_cell (w : World) (cs : Array Value) (t : TypeId) (k : Nat) (v : Value) (h : cs[k]? = some v) : (w.alloc (.cells cs t)).cell? ⟨w.heap.size, k, none⟩ = some v := by
  have hh := heap_alloc_new w (.cells cs t)
  unfold World.cell?
  simp only [hh]
  exact h
def whoF (s : ByteArray) : Bool := decide (s.size ≤ 100) && !Lib.containsAny s.data.toList [0, 10, 60, 62]
structure Idt where
  nm : ByteArray
  em : ByteArray
  tm : Int
  zn : Int
def Idt.v (i : Idt) : Value := .agg #[.string i.nm, .string i.em, .int .i64 i.tm, .int .i64 i.zn]
def idF (i : Idt) : Bool := whoF i.nm && whoF i.em && decide (0 ≤ i.tm) && decide (i.tm ≤ 1099511627776) && decide (-1439 ≤ i.zn) && decide (i.zn ≤ 1439)
theorem wr64 {x : Int} (h0 : -9223372036854775808 ≤ x) (h1 : x ≤ 9223372036854775807) : IntKind.i64.wrap x = x := by
  rw [IntKind.wrap_i64]; omega


def lowN (n : Nat) : Nat := if 65 ≤ n ∧ n ≤ 90 then n + 32 else n
set_option maxHeartbeats 400000 in
set_option maxRecDepth 100000 in
theorem lower_any (n : Nat) (w : World) (hn : n < 256) : Calls Tryz.prog 103 #[.int .u8 n] w fun e w' => e = .returned (.int .u8 (lowN n)) ∧ w' = w := by
  unfold lowN
  by_cases h1 : 65 ≤ n
  · have h1i : (65 : Int) ≤ (n : Int) := by omega
    by_cases h2 : n ≤ 90
    · have h2i : (n : Int) ≤ 90 := by omega
      go_enter Tryz.func103, Tryz.ntmps103
      go_wp2
      go_ret
      have e : (n : Int) - 65 + 97 = (n : Int) + 32 := by omega
      rw [← e]
      exact ⟨rfl, rfl⟩
    · have h2i : ¬ (n : Int) ≤ 90 := by omega
      go_enter Tryz.func103, Tryz.ntmps103
      go_wp2
      go_ret
      exact ⟨rfl, rfl⟩
  · have h1i : ¬ (65 : Int) ≤ (n : Int) := by omega
    go_enter Tryz.func103, Tryz.ntmps103
    go_wp2
    go_ret
    exact ⟨rfl, rfl⟩

/-- Is it .git, in whatever letters? -/
def gitF (s : ByteArray) : Bool := decide (s.data.toList.map (fun b => lowN b.toNat) = [46, 103, 105, 116])
theorem four {s : ByteArray} (h : s.size = 4) : ∃ a b c d : UInt8, s = ⟨#[a, b, c, d]⟩ := by
  obtain ⟨⟨l⟩⟩ := s
  have hl : l.length = 4 := h
  match l, hl with
  | [a, b, c, d], _ => exact ⟨a, b, c, d, rfl⟩

set_option maxHeartbeats 1000000 in
set_option maxRecDepth 100000 in
theorem isDotGit_any (s : ByteArray) (w : World) : Calls Tryz.prog 91 #[.string s] w fun e w' => e = .returned (.bool (gitF s)) ∧ Below w.heap.size w w' := by
  by_cases h4 : s.size = 4
  · obtain ⟨x0, x1, x2, x3, rfl⟩ := four h4
    clear h4
    have KL : Kept (∀ (x : UInt8) w', Calls Tryz.prog 103 #[.int .u8 x.toNat] w' fun e w'' => e = .returned (.int .u8 (lowN x.toNat)) ∧ w'' = w') := ⟨fun x w' => lower_any x.toNat w' x.toNat_lt⟩
    have KE : Kept (gitF ⟨#[x0, x1, x2, x3]⟩ = decide (lowN x0.toNat = 46 ∧ lowN x1.toNat = 103 ∧ lowN x2.toNat = 105 ∧ lowN x3.toNat = 116)) := ⟨by unfold gitF; simp⟩
    go_enter Tryz.func91, Tryz.ntmps91
    go_wp2
    go_loopw [3, 9] (fun _ iv wr => ∃ i m : Nat, i ≤ 4 ∧ iv = .int .i64 i ∧ wr = w.drewN m ∧ (1 ≤ i → lowN x0.toNat = 46) ∧ (2 ≤ i → lowN x1.toNat = 103) ∧ (3 ≤ i → lowN x2.toNat = 105) ∧ (4 ≤ i → lowN x3.toNat = 116)) (fun _ iv _ => 4 - (intOf iv).toNat)
    case atStart => exact ⟨0, 0, by omega, rfl, rfl, by omega, by omega, by omega, by omega⟩
    case round =>
      obtain ⟨i, m, hi, rfl, rfl, q0, q1, q2, q3⟩ := hrel
      have KQ := Kept.mk (And.intro q0 (And.intro q1 (And.intro q2 q3)))
      clear q0 q1 q2 q3
      rcases (by omega : i = 0 ∨ i = 1 ∨ i = 2 ∨ i = 3 ∨ i = 4) with rfl | rfl | rfl | rfl | rfl
      · have KL0 : Kept (∀ w', Calls Tryz.prog 103 #[.int .u8 x0.toNat] w' fun e w'' => e = .returned (.int .u8 (lowN x0.toNat)) ∧ w'' = w') := ⟨KL.out x0⟩
        by_cases hx : lowN x0.toNat = 46
        · have KX := Kept.mk hx
          rw [hx] at KL0
          clear hx
          go_upto_region 6 with fail
          go_quiet ((exact (KL0.out _).mono (fun e w'' hp => ⟨hp.1, _, hp.2⟩)))
          go_wp2
          have hx := KX.out
          go_roundw
          case rel => exact ⟨1, _, by omega, rfl, rfl, (fun _ => hx), (fun h => by omega), (fun h => by omega), (fun h => by omega)⟩
          case measure => simp [intOf]
        · have hxi : ((lowN x0.toNat : Int) == 46) = false := by simp; omega
          have KX := Kept.mk hx
          generalize hL : lowN x0.toNat = L at *
          have KH := Kept.mk hL
          have hxn : ¬ (L : Int) = 46 := by omega
          have hxz : ((L : Int) != 46) = true := by simp; omega
          have hxm : ((L : Int) != (((⟨#[46, 103, 105, 116]⟩ : ByteArray)[0]'(by decide)).toNat : Int)) = true := hxz
          clear hxz
          clear hx hL
          go_upto_region 6 with fail
          go_quiet ((exact (KL0.out _).mono (fun e w'' hp => ⟨hp.1, _, hp.2⟩)))
          go_wp2
          go_ret
          have hne := KX.out
          refine ⟨?_, below_drewN (below_drewN (Below.refl _ _) _) _⟩
          rw [KE.out, decide_eq_false (fun h => hne (by have := KH.out; omega))]
          rfl
      · have KL0 : Kept (∀ w', Calls Tryz.prog 103 #[.int .u8 x1.toNat] w' fun e w'' => e = .returned (.int .u8 (lowN x1.toNat)) ∧ w'' = w') := ⟨KL.out x1⟩
        by_cases hx : lowN x1.toNat = 103
        · have KX := Kept.mk hx
          rw [hx] at KL0
          clear hx
          go_upto_region 6 with fail
          go_quiet ((exact (KL0.out _).mono (fun e w'' hp => ⟨hp.1, _, hp.2⟩)))
          go_wp2
          have hx := KX.out
          go_roundw
          case rel => exact ⟨2, _, by omega, rfl, rfl, (fun _ => KQ.out.1 (by omega)), (fun _ => hx), (fun h => by omega), (fun h => by omega)⟩
          case measure => simp [intOf]
        · have hxi : ((lowN x1.toNat : Int) == 103) = false := by simp; omega
          have KX := Kept.mk hx
          generalize hL : lowN x1.toNat = L at *
          have KH := Kept.mk hL
          have hxn : ¬ (L : Int) = 103 := by omega
          have hxz : ((L : Int) != 103) = true := by simp; omega
          have hxm : ((L : Int) != (((⟨#[46, 103, 105, 116]⟩ : ByteArray)[1]'(by decide)).toNat : Int)) = true := hxz
          clear hxz
          clear hx hL
          go_upto_region 6 with fail
          go_quiet ((exact (KL0.out _).mono (fun e w'' hp => ⟨hp.1, _, hp.2⟩)))
          go_wp2
          go_ret
          have hne := KX.out
          refine ⟨?_, below_drewN (below_drewN (Below.refl _ _) _) _⟩
          rw [KE.out, decide_eq_false (fun h => hne (by have := KH.out; omega))]
          rfl
      · have KL0 : Kept (∀ w', Calls Tryz.prog 103 #[.int .u8 x2.toNat] w' fun e w'' => e = .returned (.int .u8 (lowN x2.toNat)) ∧ w'' = w') := ⟨KL.out x2⟩
        by_cases hx : lowN x2.toNat = 105
        · have KX := Kept.mk hx
          rw [hx] at KL0
          clear hx
          go_upto_region 6 with fail
          go_quiet ((exact (KL0.out _).mono (fun e w'' hp => ⟨hp.1, _, hp.2⟩)))
          go_wp2
          have hx := KX.out
          go_roundw
          case rel => exact ⟨3, _, by omega, rfl, rfl, (fun _ => KQ.out.1 (by omega)), (fun _ => KQ.out.2.1 (by omega)), (fun _ => hx), (fun h => by omega)⟩
          case measure => simp [intOf]
        · have hxi : ((lowN x2.toNat : Int) == 105) = false := by simp; omega
          have KX := Kept.mk hx
          generalize hL : lowN x2.toNat = L at *
          have KH := Kept.mk hL
          have hxn : ¬ (L : Int) = 105 := by omega
          have hxz : ((L : Int) != 105) = true := by simp; omega
          have hxm : ((L : Int) != (((⟨#[46, 103, 105, 116]⟩ : ByteArray)[2]'(by decide)).toNat : Int)) = true := hxz
          clear hxz
          clear hx hL
          go_upto_region 6 with fail
          go_quiet ((exact (KL0.out _).mono (fun e w'' hp => ⟨hp.1, _, hp.2⟩)))
          go_wp2
          go_ret
          have hne := KX.out
          refine ⟨?_, below_drewN (below_drewN (Below.refl _ _) _) _⟩
          rw [KE.out, decide_eq_false (fun h => hne (by have := KH.out; omega))]
          rfl
      · have KL0 : Kept (∀ w', Calls Tryz.prog 103 #[.int .u8 x3.toNat] w' fun e w'' => e = .returned (.int .u8 (lowN x3.toNat)) ∧ w'' = w') := ⟨KL.out x3⟩
        by_cases hx : lowN x3.toNat = 116
        · have KX := Kept.mk hx
          rw [hx] at KL0
          clear hx
          go_upto_region 6 with fail
          go_quiet ((exact (KL0.out _).mono (fun e w'' hp => ⟨hp.1, _, hp.2⟩)))
          go_wp2
          have hx := KX.out
          go_roundw
          case rel => exact ⟨4, _, by omega, rfl, rfl, (fun _ => KQ.out.1 (by omega)), (fun _ => KQ.out.2.1 (by omega)), (fun _ => KQ.out.2.2.1 (by omega)), (fun _ => hx)⟩
          case measure => simp [intOf]
        · have hxi : ((lowN x3.toNat : Int) == 116) = false := by simp; omega
          have KX := Kept.mk hx
          generalize hL : lowN x3.toNat = L at *
          have KH := Kept.mk hL
          have hxn : ¬ (L : Int) = 116 := by omega
          have hxz : ((L : Int) != 116) = true := by simp; omega
          have hxm : ((L : Int) != (((⟨#[46, 103, 105, 116]⟩ : ByteArray)[3]'(by decide)).toNat : Int)) = true := hxz
          clear hxz
          clear hx hL
          go_upto_region 6 with fail
          go_quiet ((exact (KL0.out _).mono (fun e w'' hp => ⟨hp.1, _, hp.2⟩)))
          go_wp2
          go_ret
          have hne := KX.out
          refine ⟨?_, below_drewN (below_drewN (Below.refl _ _) _) _⟩
          rw [KE.out, decide_eq_false (fun h => hne (by have := KH.out; omega))]
          rfl
      · have KT : Kept (gitF ⟨#[x0, x1, x2, x3]⟩ = true) := ⟨by rw [KE.out]; exact decide_eq_true ⟨KQ.out.1 (by omega), KQ.out.2.1 (by omega), KQ.out.2.2.1 (by omega), KQ.out.2.2.2 (by omega)⟩⟩
        go_wp2
        go_ret
        exact ⟨by rw [KT.out]; rfl, below_drewN (Below.refl _ _) _⟩
  · have h4i : ¬ (s.size : Int) = 4 := by omega
    have hd : ((s.size : Int) == 4) = false := by simpa using h4i
    have KE : Kept (gitF s = false) := ⟨by
      unfold gitF
      apply decide_eq_false
      intro e
      have := congrArg List.length e
      simp at this
      exact h4 this⟩
    go_enter Tryz.func91, Tryz.ntmps91
    go_wp2
    go_ret
    exact ⟨by rw [KE.out]; rfl, Below.refl _ _⟩


/-- May it be a name? -/
def nameF (s : ByteArray) : Bool := decide (1 ≤ s.size) && decide (s.size ≤ 100) && !Lib.containsAny s.data.toList [47, 0] && !decide (s = ⟨#[46]⟩) && !decide (s = ⟨#[46, 46]⟩) && !gitF s
theorem ascii2 : AsciiB ⟨#[47, 0]⟩ := by
  intro j b h
  have hm : b ∈ ([47, 0] : List UInt8) := List.mem_of_getElem? h
  have key : ∀ b ∈ ([47, 0] : List UInt8), b.toNat < 128 := by decide
  exact key b hm
theorem toList_lit (s : ByteArray) (l : List UInt8) : s.toList = l ↔ s = ⟨l.toArray⟩ := by
  rw [Lib.toList_data]
  constructor
  · intro h
    obtain ⟨⟨a⟩⟩ := s
    have h' : a = l := h
    rw [h']
  · intro h
    rw [h]
set_option maxHeartbeats 1000000 in
set_option maxRecDepth 100000 in
theorem name_any (s : ByteArray) (w : World) : Calls Tryz.prog 74 #[.string s] w fun e w' => e = .returned (.bool (nameF s)) ∧ Below w.heap.size w w' := by
  by_cases h1 : 1 ≤ s.size
  · have h1i : ¬ (s.size : Int) < 1 := by omega
    by_cases h2 : s.size ≤ 100
    · have h2i : ¬ (100 : Int) < (s.size : Int) := by omega
      have KC : Kept (Calls Tryz.prog 90 #[.string s, .string ⟨#[47, 0]⟩] w fun e w' => e = .returned (.bool (Lib.containsAny s.data.toList [47, 0])) ∧ Below w.heap.size w w') := ⟨containsAny_any s ⟨#[47, 0]⟩ w (by omega) (by decide) (by decide) ascii2⟩
      have KG := Kept.mk (isDotGit_any s)
      have KE : Kept (nameF s = (!Lib.containsAny s.data.toList [47, 0] && !decide (s = ⟨#[46]⟩) && !decide (s = ⟨#[46, 46]⟩) && !gitF s)) := ⟨by unfold nameF; rw [decide_eq_true h1, decide_eq_true h2]; simp⟩
      have t1 := toList_lit s [46]
      have t2 := toList_lit s [46, 46]
      generalize Lib.containsAny s.data.toList [47, 0] = q at *
      generalize gitF s = g at *
      cases q
      · by_cases e1 : s = ⟨#[46]⟩
        · have KE2 : Kept (nameF s = false) := ⟨by rw [KE.out, decide_eq_true e1]; simp⟩
          have u1 : s.toList = [46] := t1.2 e1
          clear e1 KE t2 t1
          go_enter Tryz.func74, Tryz.ntmps74
          go_wp2_with fail
          refine Calls.mono KC.out (fun e w1 hp => ?_)
          obtain ⟨rfl, hb⟩ := hp
          have KB := Kept.mk hb
          clear hb
          go_wp2
          go_ret
          exact ⟨by rw [KE2.out]; rfl, KB.out⟩
        · have u1 : ¬ s.toList = [46] := fun h => e1 (t1.1 h)
          clear t1
          by_cases e2 : s = ⟨#[46, 46]⟩
          · have u2 : s.toList = [46, 46] := t2.2 e2
            have KE2 : Kept (nameF s = false) := ⟨by rw [KE.out, decide_eq_true e2]; simp⟩
            clear e1 e2 KE t2
            go_enter Tryz.func74, Tryz.ntmps74
            go_wp2_with fail
            refine Calls.mono KC.out (fun e w1 hp => ?_)
            obtain ⟨rfl, hb⟩ := hp
            have KB := Kept.mk hb
            clear hb
            go_wp2
            go_ret
            exact ⟨by rw [KE2.out]; rfl, KB.out⟩
          · have u2 : ¬ s.toList = [46, 46] := fun h => e2 (t2.1 h)
            clear t2
            have KE2 : Kept (nameF s = !g) := ⟨by rw [KE.out, decide_eq_false e1, decide_eq_false e2]; simp⟩
            clear e1 e2 KE
            go_enter Tryz.func74, Tryz.ntmps74
            go_wp2_with fail
            refine Calls.mono KC.out (fun e w1 hp => ?_)
            obtain ⟨rfl, hb⟩ := hp
            have KB := Kept.mk hb
            have KG1 := Kept.mk (KG.out w1)
            clear hb
            go_wp2_with fail
            refine Calls.mono KG1.out (fun e w2 hp => ?_)
            obtain ⟨rfl, hb⟩ := hp
            have KB2 := Kept.mk (KB.out.trans (hb.mono KB.out.size))
            clear hb
            go_wp2
            go_ret
            exact ⟨by rw [KE2.out]; simp [u1, u2], KB2.out⟩
      · have KE2 : Kept (nameF s = false) := ⟨by rw [KE.out]; simp⟩
        clear KE t1 t2
        go_enter Tryz.func74, Tryz.ntmps74
        go_wp2_with fail
        refine Calls.mono KC.out (fun e w1 hp => ?_)
        obtain ⟨rfl, hb⟩ := hp
        have KB := Kept.mk hb
        clear hb
        go_wp2
        go_ret
        exact ⟨by rw [KE2.out]; rfl, KB.out⟩
    · have h2i : (100 : Int) < (s.size : Int) := by omega
      have KE2 : Kept (nameF s = false) := ⟨by unfold nameF; rw [decide_eq_false h2]; simp⟩
      go_enter Tryz.func74, Tryz.ntmps74
      go_wp2
      go_ret
      exact ⟨by rw [KE2.out]; rfl, Below.refl _ _⟩
  · have h1i : (s.size : Int) < 1 := by omega
    have KE2 : Kept (nameF s = false) := ⟨by unfold nameF; rw [decide_eq_false h1]; simp⟩
    go_enter Tryz.func74, Tryz.ntmps74
    go_wp2
    go_ret
    exact ⟨by rw [KE2.out]; rfl, Below.refl _ _⟩

/-- The parts of a path. -/
def partsB (s : ByteArray) : List ByteArray := Lib.splitB ⟨#[47]⟩ 0 (Lib.countB s ⟨#[47]⟩) s
def pathF (s : ByteArray) : Bool := decide (s.size ≤ 200) && (partsB s).all nameF
theorem partsB_length (s : ByteArray) : (partsB s).length = Lib.countB s ⟨#[47]⟩ + 1 := Lib.splitB_all ⟨#[47]⟩ (by decide) 0 _ s rfl
theorem partsB_le (s : ByteArray) : (partsB s).length ≤ s.size + 1 := by
  rw [partsB_length]
  have := Lib.countB_le ⟨#[47]⟩ (by decide) s.size s (Nat.le_refl _)
  omega

set_option maxHeartbeats 1000000 in
set_option maxRecDepth 100000 in
theorem path_any (s : ByteArray) (w : World) (hg : Gl w) : Calls Tryz.prog 65 #[.string s] w fun e w' => e = .returned (.bool (pathF s)) ∧ Below w.heap.size w w' := by
  by_cases h2 : s.size ≤ 200
  · have h2i : ¬ (200 : Int) < (s.size : Int) := by omega
    obtain ⟨m, hm⟩ := hg.mx
    have KS := Tryz.strings_Split s ⟨#[47]⟩ m w (by omega) hm (by decide)
    have hl := partsB_length s
    have hle := partsB_le s
    have KE : Kept (pathF s = (partsB s).all nameF) := ⟨by unfold pathF; rw [decide_eq_true h2]; simp⟩
    have KS : Kept (Calls Tryz.prog 73 #[.string s, .string ⟨#[47]⟩] w fun e w' => e = .returned (.slice (some ⟨w.heap.size, 0, none⟩) (partsB s).length (partsB s).length) ∧ w' = w.alloc (.cells ((partsB s).map Value.string).toArray 9)) := ⟨by rw [hl]; exact KS⟩
    generalize partsB s = L at *
    clear hl hg
    have KH := Kept.mk (heap_alloc_new w (.cells (L.map Value.string).toArray 9))
    have KB0 := Kept.mk ((Below.refl w.heap.size w).alloc (Nat.le_refl _) (.cells (L.map Value.string).toArray 9))
    have KN := Kept.mk name_any
    go_enter Tryz.func65, Tryz.ntmps65
    go_wp2_with fail
    refine Calls.mono KS.out (fun e w1 hp => ?_)
    obtain ⟨rfl, rfl⟩ := hp
    obtain ⟨w1, hw1⟩ : ∃ w1, w.alloc (.cells (L.map Value.string).toArray 9) = w1 := ⟨_, rfl⟩
    rw [hw1] at KH KB0 ⊢
    clear hw1
    have hLl : (L.length : Int) ≤ 201 := by omega
    go_wp2
    go_loopw [4, 11] (fun _ kv wr => ∃ k : Nat, k ≤ L.length ∧ kv = .int .i64 k ∧ wr.heap[w.heap.size]? = some (.cells (L.map Value.string).toArray 9) ∧ Below w.heap.size w wr ∧ (L.take k).all nameF = true) (fun _ kv _ => L.length - (intOf kv).toNat)
    case atStart => exact ⟨0, Nat.zero_le _, rfl, KH.out, KB0.out, rfl⟩
    case round =>
      obtain ⟨k, hk, rfl, hh, hbel, hall⟩ := hrel
      have KHr := Kept.mk hh
      have KBr := Kept.mk hbel
      have KA := Kept.mk hall
      have hsz : w.heap.size < wr.heap.size := (Array.getElem?_eq_some_iff.1 hh).1
      clear hbel hall
      by_cases hlt : k < L.length
      · have hki : (k : Int) < (L.length : Int) := by omega
        have hc : wr.cell? ⟨w.heap.size, k, none⟩ = some (.string (L[k]'hlt)) := by
          unfold World.cell?
          simp only [hh]
          simp [hlt]
        obtain ⟨P, hP⟩ : ∃ P, L[k]'hlt = P := ⟨_, rfl⟩
        rw [hP] at hc
        have KP := Kept.mk hP
        have KN1 := Kept.mk (KN.out P wr)
        clear hh hP
        by_cases hq : nameF P = true
        · rw [hq] at KN1
          have KQ := Kept.mk hq
          clear hq
          go_wp2_with fail
          refine Calls.mono KN1.out (fun e w3 hp => ?_)
          obtain ⟨rfl, hb3⟩ := hp
          have KB3 := Kept.mk hb3
          clear hb3
          go_wp2
          go_roundw
          case rel => exact ⟨k + 1, by omega, rfl, by rw [KB3.out.block _ hsz]; exact KHr.out, KBr.out.trans (KB3.out.mono KBr.out.size), by
            rw [List.take_add_one, List.all_append, KA.out, List.getElem?_eq_getElem hlt, KP.out]
            simp [KQ.out]⟩
          case measure => simp [intOf]; omega
        · have hqf : nameF P = false := by simpa using hq
          rw [hqf] at KN1
          have KF : Kept (L.all nameF = false) := ⟨by
            rw [List.all_eq_false]
            exact ⟨P, by rw [← KP.out]; exact List.getElem_mem hlt, by simp [hqf]⟩⟩
          clear hq hqf
          go_wp2_with fail
          refine Calls.mono KN1.out (fun e w3 hp => ?_)
          obtain ⟨rfl, hb3⟩ := hp
          have KB3 := Kept.mk hb3
          clear hb3
          go_wp2
          go_ret
          exact ⟨by rw [KE.out, KF.out]; rfl, KBr.out.trans (KB3.out.mono KBr.out.size)⟩
      · have hki : ¬ (k : Int) < (L.length : Int) := by omega
        have KT : Kept (L.all nameF = true) := ⟨by
          have := KA.out
          rwa [List.take_of_length_le (by omega)] at this⟩
        clear hh
        go_wp2
        go_ret
        exact ⟨by rw [KE.out, KT.out]; rfl, KBr.out⟩
  · have h2i : (200 : Int) < (s.size : Int) := by omega
    have KE2 : Kept (pathF s = false) := ⟨by unfold pathF; rw [decide_eq_false h2]; simp⟩
    go_enter Tryz.func65, Tryz.ntmps65
    go_wp2
    go_ret
    exact ⟨by rw [KE2.out]; rfl, Below.refl _ _⟩
end Go.Proofs.YtegdadkejheagaaGreatDoor
