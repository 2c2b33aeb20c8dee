/-
  strings.ContainsAny at every text, the signs asked for being ASCII.
-/
import Derived.Test.YtegdadkejheagaaDoorK
import Derived.Test.YtegdadkejheagaaDoorShelf
import Derived.Laws.RangeAny
import Derived.WalkMore
import Derived.Deep.Cut
namespace Go.Proofs.YtegdadkejheagaaDoor
open Go.RowKit

/-- What a code point of more than one byte covers is no ASCII. -/
theorem decode_run (s : ByteArray) (pos : Nat) (h : pos < s.size) (ha : 128 ≤ (s[pos]'h).toNat) : ∀ k, k < (Utf8.decode s pos).2 → pos + k < s.size ∧ 128 ≤ (s.get! (pos + k)).toNat := by
  have hn : ¬ (s[pos]'h).toNat < 128 := by omega
  have g0 : (s.get! (pos + 0)).toNat = (s[pos]'h).toNat := by rw [get_at s pos h]
  intro k hk
  simp only [Utf8.decode, get_at s pos h, hn, if_false] at hk
  split at hk
  · rename_i hc
    simp only [Bool.and_eq_true, beq_iff_eq, decide_eq_true_eq] at hc
    split at hk
    · simp only at hk
      rcases (by omega : k = 0 ∨ k = 1) with rfl | rfl
      · rw [g0]; omega
      · omega
    · simp only at hk
      obtain rfl : k = 0 := by omega
      rw [g0]; omega
  · split at hk
    · rename_i hc
      simp only [Bool.and_eq_true, beq_iff_eq, decide_eq_true_eq] at hc
      split at hk
      · simp only at hk
        rcases (by omega : k = 0 ∨ k = 1 ∨ k = 2) with rfl | rfl | rfl
        · rw [g0]; omega
        · omega
        · omega
      · simp only at hk
        obtain rfl : k = 0 := by omega
        rw [g0]; omega
    · split at hk
      · rename_i hc
        simp only [Bool.and_eq_true, beq_iff_eq, decide_eq_true_eq] at hc
        split at hk
        · simp only at hk
          rcases (by omega : k = 0 ∨ k = 1 ∨ k = 2 ∨ k = 3) with rfl | rfl | rfl | rfl
          · rw [g0]; omega
          · omega
          · omega
          · omega
        · simp only at hk
          obtain rfl : k = 0 := by omega
          rw [g0]; omega
      · simp only at hk
        obtain rfl : k = 0 := by omega
        rw [g0]; omega
theorem decode_valid (s : ByteArray) (pos : Nat) : Utf8.valid (Utf8.decode s pos).1 = true := by
  have hb : ∀ k, (s.get! (pos + k)).toNat < 256 := fun k => (s.get! (pos + k)).toNat_lt
  have h0 := hb 0; have h1 := hb 1; have h2 := hb 2; have h3 := hb 3
  simp only [Utf8.decode]
  repeat' split
  all_goals simp_all [Utf8.runeError, Utf8.valid]
  all_goals omega
/-- The bytes of a code point beyond ASCII: two or more, the last one beyond ASCII. -/
theorem ofNat_toNat (n : Nat) : (UInt8.ofNat n).toNat = n % 256 := by simp
theorem encode_last (r : Int) (h : 128 ≤ r) (hv : Utf8.valid r = true) : ∃ n : Nat, 1 ≤ n ∧ n ≤ 3 ∧ (Utf8.encode r).size = n + 1 ∧ ∃ h' : n < (Utf8.encode r).size, 128 ≤ ((Utf8.encode r)[n]'h').toNat := by
  have hn : ¬ r.toNat < 128 := by omega
  have hx : 128 ≤ (UInt8.ofNat (128 + r.toNat % 64)).toNat := by rw [ofNat_toNat]; omega
  simp only [Utf8.encode, hv, if_true, hn, if_false]
  split
  · exact ⟨1, by omega, by omega, rfl, Nat.lt_succ_self 1, hx⟩
  · split
    · exact ⟨2, by omega, by omega, rfl, Nat.lt_succ_self 2, hx⟩
    · exact ⟨3, by omega, by omega, rfl, Nat.lt_succ_self 3, hx⟩
def AsciiB (s : ByteArray) : Prop := ∀ (j : Nat) b, s.data.toList[j]? = some b → b.toNat < 128
theorem indexByte_high {l : List UInt8} {c : UInt8} (h : ∀ b ∈ l, b.toNat < 128) (hc : 128 ≤ c.toNat) : Lib.indexByte l c = -1 := by
  induction l with
  | nil => rfl
  | cons b l ih =>
    have hb : ¬ b = c := fun e => by have := h b (by simp); rw [e] at this; omega
    have := ih (fun x hx => h x (by simp [hx]))
    unfold Lib.indexByte
    simp [hb, this]

set_option maxHeartbeats 2000000 in
set_option maxRecDepth 100000 in
/-- Of a code point beyond ASCII there is none among ASCII signs. -/
theorem indexRune_high (s : ByteArray) (r : Int) (w : World) (ha : AsciiB s) (h0 : 128 ≤ r) (h1 : r ≤ 1114111) (hv : Utf8.valid r = true) (he : ¬ r = 65533) :
    Calls Tryd.prog 73 #[.string s, .int .i32 r] w fun e w' => e = .returned (.int .i64 (-1)) ∧ Below w.heap.size w w' := by
  obtain ⟨n, hn1, hn3, hsz, hlt, hlast⟩ := encode_last r h0 hv
  obtain ⟨E, hE⟩ : ∃ E, Utf8.encode r = E := ⟨_, rfl⟩
  have hvr : Lib.validRune r = true := by
    unfold Lib.validRune
    unfold Utf8.valid at hv
    simp only [Bool.or_eq_true, Bool.and_eq_true, decide_eq_true_eq] at hv ⊢
    omega
  have KV := Tryd.utf8_ValidRune r w
  rw [hvr] at KV
  have KV := Kept.mk KV
  simp only [hE] at hsz hlt hlast
  obtain ⟨x, hx⟩ : ∃ x : UInt8, E[n]'hlt = x := ⟨_, rfl⟩
  rw [hx] at hlast
  have g1 : ¬ r < 128 := by omega
  have g2 : 0 ≤ r := by omega
  have g3 : (r == 65533) = false := by simpa using he
  have hEl : (E.size : Int) - 1 = (n : Int) := by omega
  go_enter Tryd.func73, Tryd.ntmps73
  go_wp2_with fail
  refine Calls.mono KV.out (fun e w1 hp => ?_)
  obtain ⟨rfl, rfl⟩ := hp
  clear KV hv hvr
  go_wp2
  go_step3
  go_wp2
  go_loopw [9, 10, 11, 12] (fun iv _ _ _ wr => iv = .int .i64 n ∧ wr = w1) (fun _ _ _ _ _ => 0)
  case atStart => exact ⟨rfl, rfl⟩
  case round =>
    obtain ⟨rfl, rfl⟩ := hrel
    by_cases hns : n < s.size
    · have hnsi : (n : Int) < (s.size : Int) := by omega
      obtain ⟨y, hy⟩ : ∃ y : UInt8, s[n]'hns = y := ⟨_, rfl⟩
      have hyl : y.toNat < 128 := ha n y (by rw [← hy]; exact Lib.data_getElem? s n hns)
      have hne : ((y.toNat : Int) == (x.toNat : Int)) = false := by simp; omega
      have hEi : (n : Int) < (E.size : Int) := by omega
      go_wp2
      go_step3
      go_upto_region 6 with fail
      go_quiet (fail)
      have hneg : ∀ (t : ByteArray), (∀ b ∈ t.data.toList, b.toNat < 128) → Lib.indexByte t.data.toList ((x.toNat : Int).toNat.toUInt8) = -1 := fun t ht => by
        have e : ((x.toNat : Int).toNat.toUInt8) = x := by simp
        rw [e]
        exact indexByte_high ht hlast
      have KI : Kept (∀ w', Calls Tryd.prog 93 #[.string (s.extract (n + 1) s.size), .int .u8 x.toNat] w' fun e w'' => e = .returned (.int .i64 (-1)) ∧ w'' = w') := ⟨fun w' => by
        have h := Tryd.strings_IndexByte (s.extract (n + 1) s.size) (x.toNat : Int) w'
        rw [hneg _ (fun b hb => by
          simp only [ByteArray.data_extract, Array.toList_extract] at hb
          obtain ⟨j, hj⟩ := List.getElem?_of_mem hb
          rw [List.extract_eq_take_drop] at hj
          simp only [List.getElem?_take, List.getElem?_drop] at hj
          split at hj
          · exact ha _ b hj
          · cases hj)] at h
        exact h⟩
      clear hneg
      go_wp2
      have hbq := below_drewN (Below.refl wr.heap.size wr) nq
      obtain ⟨w2, hw2⟩ : ∃ w2, wr.drewN nq = w2 := ⟨_, rfl⟩
      rw [hw2] at hbq ⊢
      have KBq := Kept.mk hbq
      clear hbq hw2
      go_quiet ((go_at_call 93; exact Calls.quiet_of_same (KI.out _)))
      go_wp2
      simp (config := { zetaDelta := true }) only [Exit.noGoto_ret, Exit.inBlock]
      change bodyPost Tryd.prog Tryd.f73 (fun e w' => e = .returned (.int .i64 (-1)) ∧ Below wr.heap.size wr w') Exit.ret _ _
      go_ret
      exact ⟨rfl, below_drewN KBq.out _⟩
    · have hnsi : ¬ (n : Int) < (s.size : Int) := by omega
      go_wp2
      go_ret
      exact ⟨rfl, Below.refl _ _⟩
end Go.Proofs.YtegdadkejheagaaDoor
