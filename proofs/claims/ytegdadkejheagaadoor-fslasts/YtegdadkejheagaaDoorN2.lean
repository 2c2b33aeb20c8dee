/-
  strings.ContainsAny at every text, the signs asked for being ASCII.
-/
import Derived.Test.YtegdadkejheagaaDoorN1
import Derived.Lib.OthersKept
namespace Go.Proofs.YtegdadkejheagaaDoor
open Go.RowKit

set_option maxHeartbeats 2000000 in
set_option maxRecDepth 100000 in
theorem indexRune_err (s : ByteArray) (w : World) (ha : AsciiB s) :
    Calls Tryd.prog 73 #[.string s, .int .i32 65533] w fun e w' => e = .returned (.int .i64 (-1)) ∧ Below w.heap.size w w' := by
  have HA := Kept.mk ha
  clear ha
  go_enter Tryd.func73, Tryd.ntmps73
  go_wp2
  go_loopw [5, 6] (fun _ _ wr => ∃ i : Nat, i ≤ s.size ∧ wr = w.iter s i) (fun _ _ wr => s.size - wr.iterPos w.heap.size)
  case atStart => exact ⟨0, Nat.zero_le _, rfl⟩
  case round =>
    obtain ⟨i, hi, rfl⟩ := hrel
    by_cases hlt : i < s.size
    · obtain ⟨x, hx⟩ : ∃ x : UInt8, s[i]'hlt = x := ⟨_, rfl⟩
      have hx128 : x.toNat < 128 := HA.out i x (by rw [← hx]; exact Lib.data_getElem? s i hlt)
      have hnx := fun ty => run_next_ascii (P := Tryd.prog) w s i ty hlt (by rw [hx]; exact hx128)
      rw [hx] at hnx
      have hne : ((x.toNat : Int) == 65533) = false := by simp; omega
      go_wp2
      go_roundw
      case rel => exact ⟨i + 1, by omega, rfl⟩
      case measure => simp; omega
    · have hnx := fun ty => run_next_end (P := Tryd.prog) w s i ty hlt
      go_wp2
      go_ret
      exact ⟨rfl, (Below.refl _ _).alloc (Nat.le_refl _) _⟩
theorem indexRune_beyond (s : ByteArray) (r : Int) (w : World) (ha : AsciiB s) (h0 : 128 ≤ r) (h1 : r ≤ 1114111) (hv : Utf8.valid r = true) :
    Calls Tryd.prog 73 #[.string s, .int .i32 r] w fun e w' => e = .returned (.int .i64 (-1)) ∧ Below w.heap.size w w' := by
  by_cases he : r = 65533
  · subst he
    exact indexRune_err s w ha
  · exact indexRune_high s r w ha h0 h1 hv he

theorem get_bang (s : ByteArray) (k : Nat) (b : UInt8) (h : s.data.toList[k]? = some b) : s.get! k = b := by
  have hk : k < s.size := by
    rw [Lib.size_eq]
    exact (List.getElem?_eq_some_iff.1 h).1
  have e : s.get! k = s[k]'hk := get_at s k hk
  rw [e]
  have := Lib.data_getElem? s k hk
  rw [h] at this
  injection this with this
  exact this.symm
theorem noAny_run {s chars : ByteArray} {i : Nat} (h : Lib.NoAny s.data.toList chars.data.toList i) (hc : AsciiB chars) (hlt : i < s.size) (ha : 128 ≤ (s[i]'hlt).toNat) : Lib.NoAny s.data.toList chars.data.toList (i + (Utf8.decode s i).2) ∧ i + (Utf8.decode s i).2 ≤ s.size := by
  have hr := decode_run s i hlt ha
  have hw := decode_high s i hlt ha
  refine ⟨fun j b hj hb => ?_, ?_⟩
  · by_cases hji : j < i
    · exact h j b hji hb
    · have h1 := hr (j - i) (by omega)
      rw [show i + (j - i) = j from by omega, get_bang s j b hb] at h1
      cases hcb : chars.data.toList.contains b with
      | false => rfl
      | true =>
        have hm : b ∈ chars.data.toList := by simpa using hcb
        obtain ⟨q, hq⟩ := List.getElem?_of_mem hm
        have := hc q b hq
        omega
  · have := (hr ((Utf8.decode s i).2 - 1) (by omega)).1
    omega

set_option maxHeartbeats 2000000 in
set_option maxRecDepth 100000 in
theorem indexAny_short (s chars : ByteArray) (w : World) (h2 : 2 ≤ chars.size) (h8 : s.size ≤ 8) (hc : AsciiB chars) :
    Calls Tryd.prog 62 #[.string s, .string chars] w fun e w' => e = .returned (.int .i64 (Lib.indexAny s.data.toList chars.data.toList)) ∧ Below w.heap.size w w' := by
  have HC := Kept.mk hc
  clear hc
  have hemp : chars.toList.isEmpty = false := by
    rw [Lib.toList_data]
    cases h : chars.data.toList with
    | nil => have := Lib.size_eq chars; rw [h, List.length_nil] at this; omega
    | cons _ _ => rfl
  have hn1 : ((chars.size : Int) == 1) = false := beq_eq_false_iff_ne.2 (by omega)
  have h8z : decide ((8 : Int) < (s.size : Int)) = false := decide_eq_false (by omega)
  go_enter Tryd.func62, Tryd.ntmps62
  go_wp2_with (go_at_call 74; refine (Tryd.strings_shouldUseASCIISet _ _).mono ?_; rintro e w' ⟨rfl, hw⟩; rw [hw, h8z])
  have KB0 := Kept.mk ((Below.refl w.heap.size w).alloc (Nat.le_refl _) (.stringIter s 0))
  have hh0 : (w.iter s 0).heap[w.heap.size]? = some (.stringIter s 0) := World.iter_heap w s 0
  have KH0 := Kept.mk hh0
  clear hh0
  go_loopw [9, 10] (fun _ _ wr => ∃ i : Nat, i ≤ s.size ∧ wr.heap[w.heap.size]? = some (.stringIter s i) ∧ Below w.heap.size w wr ∧ Lib.NoAny s.data.toList chars.data.toList i) (fun _ _ wr => s.size - wr.iterPos w.heap.size)
  case atStart => exact ⟨0, Nat.zero_le _, KH0.out, KB0.out, Lib.NoAny.zero _ _⟩
  case round =>
    obtain ⟨i, hi, hk, hbel, hno⟩ := hrel
    have hpos : wr.iterPos w.heap.size = i := by simp [World.iterPos, hk]
    have KK := Kept.mk hk
    have KB := Kept.mk hbel
    have KN := Kept.mk hno
    clear hno
    by_cases hlt : i < s.size
    · have hb1 : ∀ p, Below w.heap.size w (wr.iterAt w.heap.size s p) := fun p => ⟨hbel.os, hbel.tape, hbel.output, by rw [Lib.iterAt_size]; exact hbel.size, fun q hq => by rw [Lib.iterAt_other _ _ _ _ _ (by omega)]; exact hbel.block q hq⟩
      have hsz : w.heap.size < wr.heap.size := (Array.getElem?_eq_some_iff.1 hk).1
      obtain ⟨x, hx⟩ : ∃ x : UInt8, s[i]'hlt = x := ⟨_, rfl⟩
      have hxl : s.data.toList[i]? = some x := by rw [← hx]; exact Lib.data_getElem? s i hlt
      by_cases hx128 : x.toNat < 128
      · have hnx := fun ty => Lib.run_next_ascii_at (P := Tryd.prog) wr w.heap.size s i ty hk hlt (by rw [hx]; exact hx128)
        rw [hx] at hnx
        have Hx := Kept.mk hxl
        have hback : ((x.toNat : Int)).toNat.toUInt8 = x := by simp
        have hcon := Lib.contains_iff_indexByte chars.data.toList x
        have h1 := Lib.iterAt_heap wr w.heap.size s i (i + 1) hk
        have K1 := Kept.mk (And.intro h1 (hb1 (i + 1)))
        clear hxl hx hb1 hbel h1 hk
        obtain ⟨w2, hw2⟩ : ∃ w2, wr.iterAt w.heap.size s (i + 1) = w2 := ⟨_, rfl⟩
        rw [hw2] at K1
        simp only [hw2] at hnx
        clear hw2
        have KR := Tryd.strings_IndexRune_ascii chars (x.toNat : Int) w2 (by omega) (by omega)
        rw [hback] at KR
        have KR := Kept.mk KR
        cases hin : chars.data.toList.contains x
        · rw [hin] at hcon
          have hlt0 : ¬ ((0 : Int) ≤ Lib.indexByte chars.data.toList x) := of_decide_eq_false hcon.symm
          have Hin := Kept.mk hin
          clear hcon hin
          go_wp2_with (go_at_call 73; refine Calls.mono KR.out (fun e w3 hp => ?_); obtain ⟨rfl, rfl⟩ := hp)
          go_roundw
          case rel => exact ⟨i + 1, by omega, K1.out.1, K1.out.2, KN.out.succ Hx.out Hin.out⟩
          case measure =>
            have e1 : w3.iterPos w.heap.size = i + 1 := by simp [World.iterPos, K1.out.1]
            rw [e1, hpos]
            omega
        · rw [hin] at hcon
          have hle0 : (0 : Int) ≤ Lib.indexByte chars.data.toList x := of_decide_eq_true hcon.symm
          have Hin := Kept.mk hin
          clear hcon hin
          go_wp2_with (go_at_call 73; refine Calls.mono KR.out (fun e w3 hp => ?_); obtain ⟨rfl, rfl⟩ := hp)
          go_ret
          exact ⟨by rw [Lib.indexAny_hit KN.out Hx.out Hin.out]; rfl, K1.out.2⟩
      · have hxh : 128 ≤ (s[i]'hlt).toNat := by rw [hx]; omega
        have hnx := fun ty => Lib.run_next_any_at (P := Tryd.prog) wr w.heap.size s i ty hk hlt
        have hd := decode_high s i hlt hxh
        have hdv := decode_valid s i
        have hrun := noAny_run KN.out HC.out hlt hxh
        obtain ⟨r, hr⟩ : ∃ r, (Utf8.decode s i).1 = r := ⟨_, rfl⟩
        obtain ⟨d, hdd⟩ : ∃ d, (Utf8.decode s i).2 = d := ⟨_, rfl⟩
        simp only [hr, hdd] at hnx hd hdv hrun
        have hr1 : (r : Int) ≤ 1114111 := by
          unfold Utf8.valid at hdv
          simp only [Bool.or_eq_true, Bool.and_eq_true, decide_eq_true_eq] at hdv
          omega
        have h1 := Lib.iterAt_heap wr w.heap.size s i (i + d) hk
        have K1 := Kept.mk (And.intro h1 (hb1 (i + d)))
        have hsz2 := Lib.iterAt_size wr w.heap.size s (i + d)
        clear hxl hx hb1 hbel h1 hk hr hdd
        obtain ⟨w2, hw2⟩ : ∃ w2, wr.iterAt w.heap.size s (i + d) = w2 := ⟨_, rfl⟩
        rw [hw2] at K1 hsz2
        simp only [hw2] at hnx
        have KR := Kept.mk (indexRune_beyond chars (r : Int) w2 HC.out (by omega) hr1 hdv)
        have KRun := Kept.mk hrun
        clear hw2 hdv hrun
        go_wp2_with (go_at_call 73; refine Calls.mono KR.out (fun e w3 hp => ?_); obtain ⟨rfl, hb3⟩ := hp; have KB3 := Kept.mk hb3; clear hb3)
        have e3 : w3.heap[w.heap.size]? = some (.stringIter s (i + d)) := by rw [KB3.out.block _ (by omega)]; exact K1.out.1
        go_roundw
        case rel => exact ⟨i + d, KRun.out.2, e3, K1.out.2.trans (KB3.out.mono K1.out.2.size), KRun.out.1⟩
        case measure =>
          have e1 : w3.iterPos w.heap.size = i + d := by simp [World.iterPos, e3]
          rw [e1, hpos]
          omega
    · have hnx := fun ty => Lib.run_next_end_at (P := Tryd.prog) wr w.heap.size s i ty hk hlt
      have hie : i = s.size := by omega
      clear hk hbel
      go_wp2
      go_ret
      exact ⟨by rw [Lib.indexAny_none (by rw [← Lib.size_eq, ← hie]; exact KN.out)]; rfl, KB.out⟩

theorem zero59 (w : World) : (zeroValue 108).run Tryd.prog w = .ok (.agg (Array.replicate 256 (.bool false))) w := by kernel_rfl

set_option maxHeartbeats 1000000 in
set_option maxRecDepth 100000 in
theorem containsAny_any (s chars : ByteArray) (w : World) (hs : s.size < 4294967281) (h2 : 2 ≤ chars.size) (hcs : chars.size < 4294967281) (hc : AsciiB chars) :
    Calls Tryd.prog 51 #[.string s, .string chars] w fun e w' => e = .returned (.bool (Lib.containsAny s.data.toList chars.data.toList)) ∧ Below w.heap.size w w' := by
  have KI : Kept (Calls Tryd.prog 62 #[.string s, .string chars] w fun e w' => e = .returned (.int .i64 (Lib.indexAny s.data.toList chars.data.toList)) ∧ Below w.heap.size w w') := ⟨by
    by_cases h8 : s.size ≤ 8
    · exact indexAny_short s chars w h2 h8 hc
    · refine (Tryd.strings_IndexAny_long zero59 s chars w h2 (by omega) hs hcs hc).mono fun e w' hp => ⟨hp.1, ?_⟩
      rw [hp.2]
      exact ((Below.refl _ _).alloc (Nat.le_refl _) _).alloc (by simp) _⟩
  unfold Lib.containsAny
  generalize Lib.indexAny s.data.toList chars.data.toList = q at *
  go_enter Tryd.func51, Tryd.ntmps51
  go_wp2_with fail
  refine Calls.mono KI.out (fun e w1 hp => ?_)
  obtain ⟨rfl, hb⟩ := hp
  have KB := Kept.mk hb
  clear hb
  go_wp2
  go_ret
  exact ⟨rfl, KB.out⟩
end Go.Proofs.YtegdadkejheagaaDoor
