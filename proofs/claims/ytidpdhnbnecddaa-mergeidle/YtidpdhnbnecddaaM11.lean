/-
  Walks: the document's long.
-/
import Derived.Test.YtidpdhnbnecddaaM8
namespace Go.Proofs.Ytidpdhnbnecddaa
open Go.RowKit

/-- Does the last line not end? -/
def opn (xs : List Int) : Nat := if xs = [] ∨ xs.getLast? = some 10 then 0 else 1
theorem lnsF_ne {xs : List Int} (h : xs ≠ []) : lnsF xs ≠ [] := by rw [lnsF_step h]; simp
theorem lnsF_count : ∀ xs : List Int, (lnsF xs).length = xs.count 10 + opn xs
  | [] => rfl
  | x :: r => by
    have ih := lnsF_count r
    rw [lnsF]
    by_cases hx : x = 10
    · subst hx
      rw [if_pos rfl, List.length_cons, ih, List.count_cons_self]
      have : opn (10 :: r) = opn r := by
        unfold opn
        cases r with
        | nil => simp
        | cons y s => simp [List.getLast?_cons_cons]
      omega
    · rw [if_neg hx, List.count_cons_of_ne (by simpa using hx)]
      cases r with
      | nil => simp [lnsF, opn, hx]
      | cons y s =>
        have hn := lnsF_ne (xs := y :: s) (by simp)
        have ho : opn (x :: y :: s) = opn (y :: s) := by unfold opn; simp [List.getLast?_cons_cons]
        rw [ho, ← ih]
        cases h : lnsF (y :: s) with
        | nil => exact absurd h hn
        | cons l ls => simp
theorem bigT_count (xs : List Int) (h : ¬ 1048576 < xs.length) : bigT xs = decide (1000 < xs.count 10 + opn xs) := by
  unfold bigT lnS
  rw [List.length_map, lnsF_count]
  simp [h]
set_option maxHeartbeats 1000000 in
set_option maxRecDepth 100000 in
theorem long_doc {S : Nat → Prop} (v : Value) (xs : List Int) (w : World) (h : Rd .u8 S w v xs) :
    Calls Try.prog 27 #[v] w fun e w' => e = .returned (.bool (bigT xs)) ∧ w' = w := by
  have KR := Kept.mk h
  obtain ⟨a, c, rfl, -, -, -⟩ := h.form
  clear h
  by_cases hx : 1048576 < xs.length
  · have hxi : (1048576 : Int) < (xs.length : Int) := by omega
    have KE : Kept (bigT xs = true) := ⟨by unfold bigT; simp [hx]⟩
    go_enter Try.func27, Try.ntmps27
    go_wp2
    go_ret
    exact ⟨by rw [KE.out]; rfl, rfl⟩
  · have hxi : ¬ (1048576 : Int) < (xs.length : Int) := by omega
    have KE := Kept.mk (bigT_count xs hx)
    have KC : Kept (∀ k, k < xs.length → ∃ b off, a = some ⟨b, off, none⟩ ∧ w.cell? ⟨b, off + k, none⟩ = some (.int .u8 (xs.getD k 0))) := ⟨fun k hk => by
      obtain ⟨b, off, c', hv, -, -, -, -, hcs⟩ := KR.out.open (by omega)
      injection hv with e1 e2 e3
      exact ⟨b, off, e1, hcs k hk⟩⟩
    go_enter Try.func27, Try.ntmps27
    go_upto_region 5 with fail
    go_loopw [3, 11] (fun nv iv wr => ∃ k : Nat, k ≤ xs.length ∧ iv = .int .i64 k ∧ nv = .int .i64 ((xs.take k).count 10 : Nat) ∧ wr = w) (fun _ iv _ => xs.length - (intOf iv).toNat)
    case atStart => exact ⟨0, Nat.zero_le _, rfl, rfl, rfl⟩
    case round =>
      obtain ⟨k, hk, rfl, rfl, rfl⟩ := hrel
      have hcl : (xs.take k).count 10 ≤ k := by
        have h1 := List.count_le_length (a := (10 : Int)) (l := xs.take k)
        rw [List.length_take] at h1
        omega
      by_cases hlt : k < xs.length
      · obtain ⟨b, off, rfl, hcell⟩ := KC.out k hlt
        have hki : (k : Int) < (xs.length : Int) := by omega
        have n0 : (0 : Int) ≤ (k : Int) := by omega
        have e1 : IntKind.i64.wrap ((k : Int) + 1) = (k : Int) + 1 := wr64 (by omega) (by omega)
        have e2 : IntKind.i64.wrap ((((xs.take k).count 10 : Nat) : Int) + 1) = (((xs.take k).count 10 : Nat) : Int) + 1 := wr64 (by omega) (by omega)
        have Kt : Kept ((xs.take (k + 1)).count 10 = (xs.take k).count 10 + if xs.getD k 0 = 10 then 1 else 0) := ⟨by
          rw [List.take_add_one, List.getElem?_eq_getElem hlt, Option.toList_some, List.count_append, List.getD, List.getElem?_eq_getElem hlt]
          simp [List.count_singleton]⟩
        generalize xs.getD k 0 = z at *
        generalize hn : (xs.take k).count 10 = n at *
        clear hn
        by_cases hz : z = 10
        · subst hz
          go_wp2
          go_roundw
          case rel => exact ⟨k + 1, hlt, by go_num, by rw [Kt.out, if_pos rfl]; go_num, trivial⟩
          case measure => simp [intOf]; omega
        · go_wp2
          go_roundw
          case rel => exact ⟨k + 1, hlt, by go_num, by rw [Kt.out, if_neg hz]; go_num, trivial⟩
          case measure => simp [intOf]; omega
      · obtain rfl : k = xs.length := by omega
        have hki : ¬ (xs.length : Int) < (xs.length : Int) := by omega
        rw [List.take_length] at hcl ⊢
        generalize hn : xs.count 10 = n at *
        by_cases h1 : 1000 < n
        · have h1i : (1000 : Int) < (n : Int) := by omega
          have KF : Kept (bigT xs = true) := ⟨by rw [KE.out]; simp; omega⟩
          go_wp2
          go_ret
          exact ⟨by rw [KF.out]; rfl, rfl⟩
        · have h1i : ¬ (1000 : Int) < (n : Int) := by omega
          by_cases h2 : n = 1000
          · subst h2
            have hl0 : 0 < xs.length := by omega
            obtain ⟨b, off, rfl, hcell⟩ := KC.out (xs.length - 1) (by omega)
            obtain ⟨m, hm⟩ : ∃ m, xs.length = m + 1 := ⟨xs.length - 1, by omega⟩
            have hlast : xs.getLast? = some (xs.getD m 0) := by
              rw [List.getLast?_eq_getElem?, hm, Nat.add_sub_cancel, List.getD, List.getElem?_eq_getElem (by omega)]
              rfl
            have hne : xs ≠ [] := fun e => by rw [e] at hl0; cases hl0
            have KF : Kept (bigT xs = decide (xs.getD m 0 ≠ 10)) := ⟨by
              rw [KE.out]
              unfold opn
              by_cases hz : xs.getD m 0 = 10
              · rw [if_pos (.inr (by rw [hlast, hz])), decide_eq_false (show ¬ 1000 < 1000 + 0 by omega), decide_eq_false (fun h => h hz)]
              · rw [if_neg (by rintro (e | e); exact hne e; rw [hlast] at e; injection e with e; exact hz e), decide_eq_true (show 1000 < 1000 + 1 by omega), decide_eq_true hz]⟩
            rw [hm, Nat.add_sub_cancel] at hcell
            have l0 : (0 : Int) < ((m + 1 : Nat) : Int) := by omega
            have e4 : IntKind.i64.wrap (((m + 1 : Nat) : Int) - 1) = (m : Int) := by rw [wr64 (by omega) (by omega)]; omega
            have m0 : (0 : Int) ≤ (m : Int) := by omega
            have m1 : (m : Int) < ((m + 1 : Nat) : Int) := by omega
            rw [show ((1000 : Nat) : Int) = 1000 from rfl, hm]
            generalize xs.getD m 0 = z at *
            clear hlast hki hcl
            by_cases hz : z = 10
            · subst hz
              go_wp2
              go_ret
              exact ⟨by rw [KF.out]; rfl, rfl⟩
            · have hz2 : (z != 10) = true := by simpa using hz
              have hz3 : (z == 10) = false := by simpa using hz
              go_wp2
              go_ret
              exact ⟨by rw [KF.out, decide_eq_true hz]; rfl, rfl⟩
          · have h2i : ¬ ((n : Int) = 1000) := by omega
            have KF : Kept (bigT xs = false) := ⟨by
              rw [KE.out]
              have : opn xs ≤ 1 := by unfold opn; split <;> omega
              simp
              omega⟩
            go_wp2
            go_ret
            exact ⟨by rw [KF.out]; rfl, rfl⟩


/-- Letter i of a text, as a number. -/
def sN (s : ByteArray) (i : Nat) : Int := ((s.data.getD i 0).toNat : Int)
theorem sN_range (s : ByteArray) (i : Nat) : 0 ≤ sN s i ∧ sN s i < 256 := by
  unfold sN
  have := (s.data.getD i 0).toNat_lt
  omega
theorem run_index_text (w : World) (s : ByteArray) (k : IntKind) (i : Nat) (hi : i < s.size) : (Instr.index 9 (.string s) (.int k i)).run Try.prog w = .ok (.int .u8 (sN s i)) w := by
  rw [run_index_string (P := Try.prog) (t := 9) (s := s) (k := k) (i := (i : Int)) (h := Try.underlying9)]
  rw [dif_pos ⟨by omega, by omega⟩]
  have e : s[((i : Int)).toNat]'(by omega) = s.data.getD i 0 := by
    simp only [Array.getD, Int.toNat_natCast]
    rw [dif_pos (show i < s.data.size from hi)]
    rfl
  rw [e]
  rfl
def hasF (s : ByteArray) (c : UInt8) : Bool := s.data.toList.contains c
theorem sN_eq (s : ByteArray) (c : UInt8) {i : Nat} (hi : i < s.size) : sN s i = (c.toNat : Int) ↔ s.data.toList[i]? = some c := by
  unfold sN
  have hi' : i < s.data.size := hi
  have e : s.data.toList[i]? = some (s.data.getD i 0) := by
    rw [Array.getElem?_toList, Array.getElem?_eq_getElem hi', Array.getD, dif_pos hi']; rfl
  rw [e]
  constructor
  · intro h
    congr 1
    exact UInt8.toNat_inj.1 (by omega)
  · intro h
    rw [Option.some.inj h]
theorem has_yes (s : ByteArray) (c : UInt8) {i : Nat} (hi : i < s.size) (h : sN s i = (c.toNat : Int)) : hasF s c = true := by
  have := (sN_eq s c hi).1 h
  unfold hasF
  rw [List.contains_iff_mem]
  exact List.mem_of_getElem? this
theorem has_no (s : ByteArray) (c : UInt8) (h : ∀ i, i < s.size → sN s i ≠ (c.toNat : Int)) : hasF s c = false := by
  unfold hasF
  cases e : s.data.toList.contains c with
  | false => rfl
  | true =>
    exfalso
    have hm := List.contains_iff_mem.1 e
    obtain ⟨i, hi, he⟩ := List.getElem_of_mem hm
    have hi' : i < s.size := by simpa using hi
    exact h i hi' ((sN_eq s c hi').2 (by rw [List.getElem?_eq_getElem hi, he]))

set_option maxHeartbeats 1000000 in
set_option maxRecDepth 100000 in
theorem has_any (s : ByteArray) (c : UInt8) (b : Int) (hb : b = (c.toNat : Int)) (w : World) (hs : s.size < 9223372036854775807) : Calls Try.prog 29 #[.string s, .int .u8 b] w fun e w' => e = .returned (.bool (hasF s c)) ∧ Below w.heap.size w w' := by
  have KY : Kept (∀ i, i < s.size → sN s i = b → hasF s c = true) := ⟨fun i hi h => has_yes s c hi (by rw [h, hb])⟩
  have KN : Kept ((∀ i, i < s.size → sN s i ≠ b) → hasF s c = false) := ⟨fun h => has_no s c (by rw [← hb]; exact h)⟩
  clear hb
  go_enter Try.func29, Try.ntmps29
  go_wp2
  go_loopw [5] (fun iv wr => ∃ k : Nat, k ≤ s.size ∧ iv = .int .i64 k ∧ wr = w ∧ ∀ j, j < k → sN s j ≠ b) (fun iv _ => s.size - (intOf iv).toNat)
  case atStart => exact ⟨0, by omega, rfl, rfl, fun j hj => by omega⟩
  case round =>
    obtain ⟨k, hk, rfl, rfl, hp⟩ := hrel
    have KP := Kept.mk hp
    clear hp
    by_cases hlt : k < s.size
    · have hd : ((k : Int) < (s.size : Int)) := by omega
      have hi := run_index_text wr s .i64 k hlt
      by_cases hx : sN s k = b
      · have KE := Kept.mk (KY.out k hlt hx)
        rw [hx] at hi
        clear hx
        go_wp2
        go_ret
        exact ⟨by rw [KE.out]; rfl, Below.refl _ _⟩
      · have KX := Kept.mk hx
        have hxb : (sN s k == b) = false := by simpa using hx
        generalize sN s k = x at hi hxb
        clear hx
        go_wp2
        refine ⟨⟨k + 1, by omega, by simp, trivial, fun j hj => ?_⟩, by simp [intOf]; omega⟩
        rcases Nat.lt_or_ge j k with h' | h'
        · exact KP.out j h'
        · rw [show j = k by omega]
          exact KX.out
    · have hd : ¬ ((k : Int) < (s.size : Int)) := by omega
      have KE := Kept.mk (KN.out (fun i hi => KP.out i (by omega)))
      go_wp2
      go_ret
      exact ⟨by rw [KE.out]; rfl, Below.refl _ _⟩

set_option maxHeartbeats 400000 in
set_option maxRecDepth 100000 in
theorem if_any (so : Bool) (e : Int) (w : World) : Calls Try.prog 26 #[.bool so, .int .i64 e] w fun x w' => x = .returned (.int .i64 (if so then e else 0)) ∧ w' = w := by
  cases so
  · go_enter Try.func26, Try.ntmps26
    go_wp2
    go_ret
    exact ⟨rfl, rfl⟩
  · go_enter Try.func26, Try.ntmps26
    go_wp2
    go_ret
    exact ⟨rfl, rfl⟩
/-- The least of errors that is one. -/
def lsF (l e : Int) : Int := if e ≠ 0 ∧ (l = 0 ∨ e < l) then e else l
set_option maxHeartbeats 1000000 in
set_option maxRecDepth 100000 in
theorem least_two (a b : Int) (g : Nat) (w : World) (hr : w.heap[g]? = some (.cells #[.int .i64 a, .int .i64 b] 26)) :
    Calls Try.prog 25 #[.slice (some ⟨g, 0, none⟩) 2 2] w fun e w' => e = .returned (.int .i64 (lsF (lsF 0 a) b)) ∧ w' = w := by
  have c0 : w.cell? ⟨g, 0, none⟩ = some (.int .i64 a) := by rw [cell_of_row w g 0 _ _ (0, 0) hr]; rfl
  have c1 : w.cell? ⟨g, 1, none⟩ = some (.int .i64 b) := by rw [cell_of_row w g 1 _ _ (0, 0) hr]; rfl
  clear hr
  have S : ∀ l e : Int, lsF l e = if e = 0 then l else if l = 0 then e else if e < l then e else l := by
    intro l e
    unfold lsF
    by_cases h1 : e = 0
    · rw [if_neg (by omega), if_pos h1]
    · rw [if_neg h1]
      by_cases h2 : l = 0
      · rw [if_pos (by omega), if_pos h2]
      · rw [if_neg h2]
        by_cases h3 : e < l
        · rw [if_pos (by omega), if_pos h3]
        · rw [if_neg (by omega), if_neg h3]
  have KS := Kept.mk S
  clear S
  go_enter Try.func25, Try.ntmps25
  go_wp2
  go_loopw [3, 5, 8] (fun lv _ kv wr => wr = w ∧ ((kv = .int .i64 0 ∧ lv = .int .i64 0) ∨ (kv = .int .i64 1 ∧ lv = .int .i64 (lsF 0 a)) ∨ (kv = .int .i64 2 ∧ lv = .int .i64 (lsF (lsF 0 a) b)))) (fun _ _ kv _ => 2 - (intOf kv).toNat)
  case atStart => exact ⟨rfl, Or.inl ⟨rfl, rfl⟩⟩
  case round =>
    obtain ⟨rfl, ⟨rfl, rfl⟩ | ⟨rfl, rfl⟩ | ⟨rfl, rfl⟩⟩ := hrel
    · by_cases ha : a = 0
      · have KE : Kept (lsF 0 a = 0) := ⟨by rw [KS.out, if_pos ha]⟩
        subst ha
        clear c1
        go_wp2
        go_roundw
        case rel => exact ⟨trivial, Or.inr (Or.inl ⟨rfl, by rw [KE.out]⟩)⟩
        case measure => simp [intOf]
      · have KE : Kept (lsF 0 a = a) := ⟨by rw [KS.out, if_neg ha, if_pos rfl]⟩
        have hb : (a != 0) = true := by simpa using ha
        clear c1 ha
        go_wp2
        go_roundw
        case rel => exact ⟨trivial, Or.inr (Or.inl ⟨rfl, by rw [KE.out]⟩)⟩
        case measure => simp [intOf]
    · generalize lsF 0 a = l at *
      by_cases ha : b = 0
      · have KE : Kept (lsF l b = l) := ⟨by rw [KS.out, if_pos ha]⟩
        subst ha
        clear c0
        go_wp2
        go_roundw
        case rel => exact ⟨trivial, Or.inr (Or.inr ⟨rfl, by rw [KE.out]⟩)⟩
        case measure => simp [intOf]
      · have hb : (b != 0) = true := by simpa using ha
        by_cases h2 : l = 0
        · have KE : Kept (lsF l b = b) := ⟨by rw [KS.out, if_neg ha, if_pos h2]⟩
          subst h2
          clear c0 ha
          go_wp2
          go_roundw
          case rel => exact ⟨trivial, Or.inr (Or.inr ⟨rfl, by rw [KE.out]⟩)⟩
          case measure => simp [intOf]
        · have hl : (l == 0) = false := by simpa using h2
          by_cases h3 : b < l
          · have KE : Kept (lsF l b = b) := ⟨by rw [KS.out, if_neg ha, if_neg h2, if_pos h3]⟩
            clear c0 ha h2
            go_wp2
            go_roundw
            case rel => exact ⟨trivial, Or.inr (Or.inr ⟨rfl, by rw [KE.out]⟩)⟩
            case measure => simp [intOf]
          · have KE : Kept (lsF l b = l) := ⟨by rw [KS.out, if_neg ha, if_neg h2, if_neg h3]⟩
            clear c0 ha h2
            go_wp2
            go_roundw
            case rel => exact ⟨trivial, Or.inr (Or.inr ⟨rfl, by rw [KE.out]⟩)⟩
            case measure => simp [intOf]
    · clear c0 c1
      go_wp2
      go_ret
      exact ⟨rfl, rfl⟩
/-- May it be a label? -/
def okL (s : ByteArray) : Bool := decide (s.size ≤ 100) && !hasF s 10 && !hasF s 0
set_option maxHeartbeats 1000000 in
set_option maxRecDepth 100000 in
theorem label_any (s : ByteArray) (w : World) : Calls Try.prog 15 #[.string s] w fun e w' => e = .returned (.bool (okL s)) ∧ Below w.heap.size w w' := by
  by_cases h : s.size ≤ 100
  · have hi : (s.size : Int) ≤ 100 := by omega
    have K1 := Kept.mk (has_any s 10 10 rfl w (by omega))
    go_enter Try.func15, Try.ntmps15
    go_wp2_with fail
    refine Calls.mono K1.out (fun e w1 hp => ?_)
    obtain ⟨rfl, hb1⟩ := hp
    have KB1 := Kept.mk hb1
    clear hb1 K1
    cases h1 : hasF s 10 with
    | true =>
      have KE : Kept (okL s = false) := ⟨by unfold okL; rw [h1]; simp⟩
      clear h1
      go_wp2
      go_ret
      exact ⟨by rw [KE.out]; rfl, KB1.out⟩
    | false =>
      have K2 := Kept.mk (has_any s 0 0 rfl w1 (by omega))
      go_wp2_with fail
      refine Calls.mono K2.out (fun e w2 hp => ?_)
      obtain ⟨rfl, hb2⟩ := hp
      have KB2 := Kept.mk (KB1.out.trans (hb2.mono KB1.out.size))
      clear hb2 K2
      have KE : Kept (okL s = !hasF s 0) := ⟨by unfold okL; rw [h1]; simp [h]⟩
      generalize hasF s 0 = c at *
      clear h1
      cases c with
      | true =>
        go_wp2
        go_ret
        exact ⟨by rw [KE.out]; rfl, KB2.out⟩
      | false =>
        go_wp2
        go_ret
        exact ⟨by rw [KE.out]; rfl, KB2.out⟩
  · have hi : ¬ (s.size : Int) ≤ 100 := by omega
    have KE : Kept (okL s = false) := ⟨by unfold okL; simp [h]⟩
    go_enter Try.func15, Try.ntmps15
    go_wp2
    go_ret
    exact ⟨by rw [KE.out]; rfl, Below.refl _ _⟩


/-- A text that the reference goes through in time, or one too long. -/
def smT (x : List Int) : Bool := !(decide (1500 < x.length) && decide (x.length ≤ 1048576))
set_option maxHeartbeats 1000000 in
set_option maxRecDepth 100000 in
theorem small_any (tb n : Nat) (R : List (Value × List Int)) (w : World) (hn : R.length = n) (hn2 : n ≤ 1000)
    (hc : ∀ k r, R[k]? = some r → w.cell? ⟨tb, k, none⟩ = some r.1 ∧ Rd .u8 anyB w r.1 r.2) :
    Calls Try.prog 10 #[.slice (some ⟨tb, 0, none⟩) n n] w fun e w' => e = .returned (.bool (R.all (fun r => smT r.2))) ∧ w' = w := by
  have KC := Kept.mk hc
  clear hc
  go_enter Try.func10, Try.ntmps10
  go_upto_region 2 with fail
  go_loopw [7] (fun iv wr => ∃ k : Nat, k ≤ n ∧ iv = .int .i64 k ∧ (R.take k).all (fun r => smT r.2) = true ∧ wr = w) (fun iv _ => n - (intOf iv).toNat)
  case atStart => exact ⟨0, by omega, rfl, rfl, rfl⟩
  case round =>
    obtain ⟨k, hk, rfl, hall, rfl⟩ := hrel
    have Kall := Kept.mk hall
    clear hall
    by_cases hlt : k < n
    · obtain ⟨r, hr⟩ : ∃ r, R[k]? = some r := ⟨_, List.getElem?_eq_getElem (by omega)⟩
      have Kr := Kept.mk hr
      obtain ⟨hcell, hrd⟩ := KC.out k r hr
      obtain ⟨v, xs⟩ := r
      simp only at hcell
      obtain ⟨a, c, hv, -⟩ := hrd.form
      simp only at hv
      subst hv
      have KS : Kept (smT xs = true → (R.take (k + 1)).all (fun r => smT r.2) = true) := ⟨fun h => by
        rw [List.take_add_one, Kr.out, Option.toList_some, List.all_append, Kall.out]
        simp [h]⟩
      have KF : Kept (smT xs = false → R.all (fun r => smT r.2) = false) := ⟨fun h => by
        cases e : R.all (fun r => smT r.2) with
        | false => rfl
        | true => rw [List.all_eq_true] at e; rw [e _ (List.mem_of_getElem? Kr.out)] at h; cases h⟩
      have hki : (k : Int) < (n : Int) := by omega
      have n0 : (0 : Int) ≤ (k : Int) := by omega
      have e1 : IntKind.i64.wrap ((k : Int) + 1) = (k : Int) + 1 := wr64 (by omega) (by omega)
      clear hrd hr
      by_cases h1 : 1500 < xs.length
      · have h1i : (1500 : Int) < (xs.length : Int) := by omega
        by_cases h2 : xs.length ≤ 1048576
        · have h2i : (xs.length : Int) ≤ 1048576 := by omega
          have KE := Kept.mk (KF.out (by unfold smT; simp [h1, h2]))
          go_wp2
          go_ret
          exact ⟨by rw [KE.out]; rfl, rfl⟩
        · have h2i : ¬ (xs.length : Int) ≤ 1048576 := by omega
          have KE := Kept.mk (KS.out (by unfold smT; simp [h2]))
          go_wp2
          go_roundw
          case rel => exact ⟨k + 1, hlt, by go_num, KE.out, trivial⟩
          case measure => simp [intOf]; omega
      · have h1i : ¬ (1500 : Int) < (xs.length : Int) := by omega
        have KE := Kept.mk (KS.out (by unfold smT; simp [h1]))
        go_wp2
        go_roundw
        case rel => exact ⟨k + 1, hlt, by go_num, KE.out, trivial⟩
        case measure => simp [intOf]; omega
    · obtain rfl : k = n := by omega
      have hki : ¬ (k : Int) < (k : Int) := by omega
      have KE : Kept (R.all (fun r => smT r.2) = true) := ⟨by rw [← Kall.out, List.take_of_length_le (by omega)]⟩
      go_wp2
      go_ret
      exact ⟨by rw [KE.out]; rfl, rfl⟩
end Go.Proofs.Ytidpdhnbnecddaa
