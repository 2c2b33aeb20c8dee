/-
  Octal digits: ParseUint and ParseInt at base eight, octal.
-/
import Derived.Test.YtkbalngddlhlpaaGreatDoorO17
import Derived.Lib.ConvBytes
import Derived.Maps.Views
namespace Go.Proofs.YtkbalngddlhlpaaGreatDoor
open Go.RowKit

def octG : Int → List Int → Int
  | v, [] => v
  | v, c :: l => octG (v * 8 + (c - 48)) l
def IsOct (l : List Int) : Prop := ∀ c ∈ l, 48 ≤ c ∧ c ≤ 55
theorem octG_append : ∀ (l m : List Int) (v : Int), octG v (l ++ m) = octG (octG v l) m
  | [], _, _ => rfl
  | c :: l, m, v => octG_append l m (v * 8 + (c - 48))
theorem octG_range : ∀ (l : List Int) (v : Int), IsOct l → 0 ≤ v → 0 ≤ octG v l ∧ octG v l < (v + 1) * 8 ^ l.length
  | [], v, _, h => by
    show 0 ≤ v ∧ v < (v + 1) * 8 ^ 0
    omega
  | c :: l, v, hl, h => by
    have hc := hl c List.mem_cons_self
    have ih := octG_range l (v * 8 + (c - 48)) (fun x hx => hl x (List.mem_cons_of_mem _ hx)) (by omega)
    refine ⟨ih.1, ?_⟩
    show octG (v * 8 + (c - 48)) l < _
    rw [List.length_cons, Int.pow_succ]
    have hp : (0 : Int) < 8 ^ l.length := Int.pow_pos (by omega)
    have e : (v * 8 + (c - 48) + 1) * 8 ^ l.length ≤ (v + 1) * (8 ^ l.length * 8) := by
      rw [show (v + 1) * ((8 : Int) ^ l.length * 8) = (v + 1) * 8 * 8 ^ l.length by rw [Int.mul_assoc, Int.mul_comm (8 ^ l.length)]]
      exact Int.mul_le_mul_of_nonneg_right (by omega) (by omega)
    omega
theorem strL_getD (s : ByteArray) (k : Nat) (h : k < s.size) : ((s.data.toList.getD k 0).toNat : Int) = (strL s).getD k 0 := by
  have h1 : k < s.data.toList.length := by rw [Lib.size_eq] at h; exact h
  unfold strL
  simp only [List.getD, List.getElem?_map, List.getElem?_eq_getElem h1, Option.map_some, Option.getD_some]
theorem strL_range (s : ByteArray) {c : Int} (h : c ∈ strL s) : 0 ≤ c ∧ c < 256 := by
  obtain ⟨b, -, rfl⟩ := List.mem_map.1 h
  have := b.toNat_lt
  omega
def PuEr (v : Value) : Prop := v = .nilIface ∨ v = .iface 168 (.int .i64 1) ∨ v = .iface 168 (.int .i64 2)
def PuEnd (s : ByteArray) (w w' : World) (e : Ending) : Prop := ∃ n er, e = .returned (.tuple #[.int .u64 n, er]) ∧ 0 ≤ n ∧ n < 18446744073709551616 ∧ PuEr er ∧ (IsOct (strL s) → s.size ≤ 20 → s.size ≠ 0 → er = .nilIface ∧ n = octG 0 (strL s)) ∧ Below w.heap.size w w'
theorem PuEnd.mk {s : ByteArray} {w w' : World} {e : Ending} {n : Int} {er : Value} (h1 : e = .returned (.tuple #[.int .u64 n, er])) (h2 : 0 ≤ n) (h3 : n < 18446744073709551616) (h4 : PuEr er) (h5 : IsOct (strL s) → s.size ≤ 20 → s.size ≠ 0 → er = .nilIface ∧ n = octG 0 (strL s)) (h6 : Below w.heap.size w w') : PuEnd s w w' e := ⟨n, er, h1, h2, h3, h4, h5, h6⟩
theorem take_getD {l : List Int} {k : Nat} (h : k < l.length) : l.take (k + 1) = l.take k ++ [l.getD k 0] := by
  rw [List.take_add_one, List.getElem?_eq_getElem h]
  simp [List.getD, List.getElem?_eq_getElem h]

set_option maxHeartbeats 4000000 in
set_option maxRecDepth 100000 in
theorem parseUint8_any (s : ByteArray) (w : World) (hs : s.size ≤ 1048576) :
    Calls Tryz.prog 149 #[.string s, .int .i64 8, .int .i64 0] w fun e w' => PuEnd s w w' e := by
  by_cases h0 : s.size = 0
  · have hemp : s.toList.isEmpty = true := by
      rw [← decide_eq_emptyBytes]
      exact decide_eq_true (by rcases s with ⟨a⟩; have : a = #[] := Array.eq_empty_of_size_eq_zero h0; rw [this]; rfl)
    have Kz := Kept.mk h0
    clear h0
    go_enter Tryz.func149, Tryz.ntmps149
    go_wp2
    go_ret2
    exact PuEnd.mk rfl (by omega) (by omega) (.inr (.inr rfl)) (fun _ _ h => absurd Kz.out h) (Below.refl _ _)
  · have hemp : s.toList.isEmpty = false := by
      rw [← decide_eq_emptyBytes]
      exact decide_eq_false (fun h => h0 (by rw [h]; rfl))
    have hcv := Lib.run_convert_string_bytes (P := Tryz.prog) w 9 27 5 s Tryz.underlying9 Tryz.underlying27 Tryz.underlying5
    have hcell : ∀ j, j < s.size → (Lib.bytesWorld w 5 s).cell? ⟨w.heap.size, j, none⟩ = some (.int .u8 ((strL s).getD j 0)) := fun j hj => by rw [Lib.bytesWorld_cell w 5 s j hj, strL_getD s j hj]
    have hB1 : Below w.heap.size w (Lib.bytesWorld w 5 s) := Lib.bytesWorld_below w 5 s
    obtain ⟨W1, hW1⟩ : ∃ W1, Lib.bytesWorld w 5 s = W1 := ⟨_, rfl⟩
    rw [hW1] at hcv hcell hB1
    have KC := Kept.mk hcell
    have KB := Kept.mk hB1
    have hmv : IntKind.u64.wrap (IntKind.u64.wrap 18446744073709551616 - 1) = 18446744073709551615 := by kernel_rfl
    have hct : IntKind.u64.wrap (Int.tdiv 18446744073709551615 8 + 1) = 2305843009213693952 := by kernel_rfl
    have hsl := strL_length s
    have Kl := Kept.mk hsl
    clear hcell hB1 hW1 h0 hsl
    go_enter Tryz.func149, Tryz.ntmps149
    go_wp2
    go_loop [12, 13, 101] (fun uv nv iv => ∃ (k : Nat) (a : Int), uv = .bool false ∧ nv = .int .u64 a ∧ iv = .int .i64 k ∧ k ≤ s.size ∧ Kept (0 ≤ a ∧ a < 18446744073709551616 ∧ (IsOct (strL s) → s.size ≤ 20 → a = octG 0 ((strL s).take k)))) (fun _ _ iv => s.size - (intOf iv).toNat)
    case atStart => exact ⟨0, 0, rfl, rfl, rfl, by omega, ⟨by omega, by omega, fun _ _ => rfl⟩⟩
    case round =>
      obtain ⟨k, a, rfl, rfl, rfl, hk, KA⟩ := hrel
      by_cases hlt : k < s.size
      · have hc := KC.out k hlt
        have hm : (strL s).getD k 0 ∈ strL s := by
          have : k < (strL s).length := by rw [Kl.out]; exact hlt
          simp only [List.getD, List.getElem?_eq_getElem this, Option.getD_some]
          exact List.getElem_mem this
        have hcr := strL_range s hm
        have Kt := Kept.mk (take_getD (l := strL s) (k := k) (by rw [Kl.out]; exact hlt))
        have KO : Kept (IsOct (strL s) → 48 ≤ (strL s).getD k 0 ∧ (strL s).getD k 0 ≤ 55) := ⟨fun h => h _ hm⟩
        clear hm
        generalize (strL s).getD k 0 = y at *
        obtain ⟨hy0, hy1⟩ := hcr
        obtain ⟨ha0, ha1, -⟩ := KA.out
        by_cases hoct : 48 ≤ y ∧ y ≤ 55
        · obtain ⟨ho0, ho1⟩ := hoct
          by_cases hcut : 2305843009213693952 ≤ a
          · have KN : Kept (IsOct (strL s) → s.size ≤ 20 → False) := ⟨fun h1 h2 => by
              have h3 := KA.out.2.2 h1 h2
              have h4 := octG_range ((strL s).take k) 0 (fun c hc => h1 c (List.mem_of_mem_take hc)) (by omega)
              have h5 : ((strL s).take k).length ≤ 20 := by rw [List.length_take, Kl.out]; omega
              have h6 : (8 : Int) ^ ((strL s).take k).length ≤ 8 ^ 20 := by
                have := Nat.pow_le_pow_right (n := 8) (by omega) h5
                exact_mod_cast this
              rw [← h3] at h4
              omega⟩
            clear KO Kt KA
            go_wp2
            go_ret2
            exact PuEnd.mk rfl (by omega) (by omega) (.inr (.inl rfl)) (fun h1 h2 _ => (KN.out h1 h2).elim) KB.out
          · have hd : IntKind.u64.wrap (a * 8) = a * 8 := by rw [IntKind.wrap_u64]; omega
            have hd2 : IntKind.u64.wrap (a * 8 + (y - 48)) = a * 8 + (y - 48) := by rw [IntKind.wrap_u64]; omega
            have icut : a < 2305843009213693952 := by omega
            have KR : Kept (0 ≤ a * 8 + (y - 48) ∧ a * 8 + (y - 48) < 18446744073709551616 ∧ (IsOct (strL s) → s.size ≤ 20 → a * 8 + (y - 48) = octG 0 ((strL s).take (k + 1)))) := ⟨by omega, by omega, fun h1 h2 => by
              rw [Kt.out, octG_append, ← KA.out.2.2 h1 h2]
              rfl⟩
            clear hcut KO Kt KA
            go_wp2
            go_round
            case rel => exact ⟨k + 1, a * 8 + (y - 48), rfl, (by first | rfl | (congr 1; omega)), by go_num, by omega, KR⟩
            case measure => simp [intOf]; omega
        · have KN : Kept (IsOct (strL s) → False) := ⟨fun h => hoct (KO.out h)⟩
          have hv0 := bits_lo_u8 .or y 32
          have hv1 := bits_hi_u8 .or y 32
          have hu0 := bits_lo_u8 .or 95 32
          have hu1 := bits_hi_u8 .or 95 32
          clear KO Kt KA
          by_cases hdig : 56 ≤ y ∧ y ≤ 57
          · obtain ⟨hg0, hg1⟩ := hdig
            clear hoct
            go_wp2
            go_ret2
            exact PuEnd.mk rfl (by omega) (by omega) (.inr (.inr rfl)) (fun h1 _ _ => (KN.out h1).elim) KB.out
          · have hnd : ¬ (48 ≤ y ∧ y ≤ 57) := by omega
            clear hoct hdig
            go_wp2_with fail
            all_goals (try (refine Calls.mono (Tryz.internal_strconv_lower _ _) (fun e w2 hp => ?_); obtain ⟨rfl, rfl⟩ := hp; go_wp2_with fail))
            all_goals (try (refine Calls.mono (Tryz.internal_strconv_lower _ _) (fun e w2 hp => ?_); obtain ⟨rfl, rfl⟩ := hp; go_wp2_with fail))
            all_goals (try (refine Calls.mono (Tryz.internal_strconv_lower _ _) (fun e w2 hp => ?_); obtain ⟨rfl, rfl⟩ := hp; go_wp2_with fail))
            all_goals go_ret2
            all_goals exact PuEnd.mk rfl (by omega) (by omega) (.inr (.inr rfl)) (fun h1 _ _ => (KN.out h1).elim) KB.out
      · have hki : ¬ (k : Int) < (s.size : Int) := by omega
        have KF : Kept (IsOct (strL s) → s.size ≤ 20 → a = octG 0 (strL s)) := ⟨fun h1 h2 => by
          have := KA.out.2.2 h1 h2
          rwa [List.take_of_length_le (by rw [Kl.out]; omega)] at this⟩
        have KA2 : Kept (0 ≤ a ∧ a < 18446744073709551616) := ⟨KA.out.1, KA.out.2.1⟩
        clear KA
        go_wp2
        go_ret2
        exact PuEnd.mk rfl KA2.out.1 KA2.out.2 (.inl rfl) (fun h1 h2 _ => ⟨rfl, KF.out h1 h2⟩) KB.out


def PiEnd (s : ByteArray) (w w' : World) (e : Ending) : Prop := ∃ n er, e = .returned (.tuple #[.int .i64 n, er]) ∧ -9223372036854775808 ≤ n ∧ n < 9223372036854775808 ∧ PuEr er ∧ (IsOct (strL s) → s.size ≤ 20 → s.size ≠ 0 → er = .nilIface ∧ n = octG 0 (strL s)) ∧ Below w.heap.size w w'
theorem PiEnd.mk {s : ByteArray} {w w' : World} {e : Ending} {n : Int} {er : Value} (h1 : e = .returned (.tuple #[.int .i64 n, er])) (h2 : -9223372036854775808 ≤ n) (h3 : n < 9223372036854775808) (h4 : PuEr er) (h5 : IsOct (strL s) → s.size ≤ 20 → s.size ≠ 0 → er = .nilIface ∧ n = octG 0 (strL s)) (h6 : Below w.heap.size w w') : PiEnd s w w' e := ⟨n, er, h1, h2, h3, h4, h5, h6⟩

theorem oct_small {s : ByteArray} (h : IsOct (strL s)) (hl : s.size ≤ 20) : octG 0 (strL s) < 9223372036854775808 := by
  have h4 := octG_range (strL s) 0 h (by omega)
  have h5 : (strL s).length ≤ 20 := by rw [strL_length]; omega
  have h6 : (8 : Int) ^ (strL s).length ≤ 8 ^ 20 := by
    have := Nat.pow_le_pow_right (n := 8) (by omega) h5
    exact_mod_cast this
  omega
theorem strL_head {s : ByteArray} (h : 0 < s.size) : ((s[0]'h).toNat : Int) ∈ strL s := by
  rcases s with ⟨a⟩
  refine List.mem_map.2 ⟨a[0]'h, ?_, rfl⟩
  simp
theorem ext_size (s : ByteArray) : (s.extract 1 s.size).size ≤ s.size := by
  rw [ByteArray.size_extract]
  omega
set_option maxHeartbeats 4000000 in
set_option maxRecDepth 100000 in
theorem parseInt8_any (s : ByteArray) (w : World) (hs : s.size ≤ 1048576) :
    Calls Tryz.prog 128 #[.string s, .int .i64 8, .int .i64 0] w fun e w' => PiEnd s w w' e := by
  by_cases h0 : s.size = 0
  · obtain rfl : s = ⟨#[]⟩ := by rcases s with ⟨a⟩; have : a = #[] := Array.eq_empty_of_size_eq_zero h0; rw [this]
    refine (Tryz.internal_strconv_ParseInt_empty 8 0 w).mono fun e w' hp => ?_
    obtain ⟨rfl, rfl⟩ := hp
    exact PiEnd.mk rfl (by omega) (by omega) (.inr (.inr rfl)) (fun _ _ h => absurd h0 h) (Below.refl _ _)
  · have hemp : s.toList.isEmpty = false := by
      rw [← decide_eq_emptyBytes]
      exact decide_eq_false (fun h => h0 (by rw [h]; rfl))
    have hpos : 0 < s.size := by omega
    have KO : Kept (IsOct (strL s) → 48 ≤ ((s[0]'hpos).toNat : Int)) := ⟨fun h => (h _ (strL_head hpos)).1⟩
    have KU := Kept.mk (parseUint8_any s w hs)
    have hq2 : ∀ W, (binOp .neq 131 (.iface 168 (.int .i64 2)) (.iface 168 (.int .i64 1))).run Tryz.prog W = .ok (.bool true) W := fun W => Lib.run_neq_iface_int W 2 1 Tryz.underlying131 (by kernel_rfl) Tryz.underlying168
    have hq1 : ∀ W, (binOp .neq 131 (.iface 168 (.int .i64 1)) (.iface 168 (.int .i64 1))).run Tryz.prog W = .ok (.bool false) W := fun W => Lib.run_neq_iface_int W 1 1 Tryz.underlying131 (by kernel_rfl) Tryz.underlying168
    have KX := Kept.mk (parseUint8_any (s.extract 1 s.size) w (Nat.le_trans (ext_size s) hs))
    by_cases y1 : ((s[0]'hpos).toNat : Int) = 43
    · have b1 : (((s[0]'hpos).toNat : Int) == 43) = true := by simpa using y1
      have KN : Kept (IsOct (strL s) → False) := ⟨fun h => by have := KO.out h; omega⟩
      clear y1 KO KU h0
      go_enter Tryz.func128, Tryz.ntmps128
      go_wp2_with fail
      refine Calls.mono KX.out (fun e w1 hp => ?_)
      obtain ⟨n, er, rfl, hn0, hn1, her, hval, hb⟩ := hp
      have KB := Kept.mk hb
      have KV := Kept.mk hval
      clear hb hval
      rcases her with rfl | rfl | rfl
      · by_cases hc : n < 9223372036854775808
        · have hw : IntKind.i64.wrap n = n := wr64 (by omega) (by omega)
          have hc2 : ¬ 9223372036854775808 ≤ n := by omega
          go_wp2
          go_ret2
          exact PiEnd.mk rfl (by omega) (by omega) (.inl rfl) (fun h1 _ _ => (KN.out h1).elim) KB.out
        · have hc2 : 9223372036854775808 ≤ n := by omega
          go_wp2
          go_ret2
          exact PiEnd.mk rfl (by decide) (by decide) (.inr (.inl rfl)) (fun h1 _ _ => (KN.out h1).elim) KB.out
      · by_cases hc : n < 9223372036854775808
        · have hw : IntKind.i64.wrap n = n := wr64 (by omega) (by omega)
          have hc2 : ¬ 9223372036854775808 ≤ n := by omega
          go_wp2
          go_ret2
          exact PiEnd.mk rfl (by omega) (by omega) (.inl rfl) (fun h1 _ _ => (KN.out h1).elim) KB.out
        · have hc2 : 9223372036854775808 ≤ n := by omega
          go_wp2
          go_ret2
          exact PiEnd.mk rfl (by decide) (by decide) (.inr (.inl rfl)) (fun h1 _ _ => (KN.out h1).elim) KB.out
      · go_wp2
        go_ret2
        exact PiEnd.mk rfl (by decide) (by decide) (.inr (.inr rfl)) (fun h1 _ _ => (KN.out h1).elim) KB.out
    · have b1 : (((s[0]'hpos).toNat : Int) == 43) = false := by simpa using y1
      by_cases y2 : ((s[0]'hpos).toNat : Int) = 45
      · have b2 : (((s[0]'hpos).toNat : Int) == 45) = true := by simpa using y2
        have KN : Kept (IsOct (strL s) → False) := ⟨fun h => by have := KO.out h; omega⟩
        clear y1 y2 KO KU h0
        go_enter Tryz.func128, Tryz.ntmps128
        go_wp2_with fail
        refine Calls.mono KX.out (fun e w1 hp => ?_)
        obtain ⟨n, er, rfl, hn0, hn1, her, hval, hb⟩ := hp
        have KB := Kept.mk hb
        have KV := Kept.mk hval
        clear hb hval
        rcases her with rfl | rfl | rfl
        · by_cases hc : n < 9223372036854775808
          · have hw : IntKind.i64.wrap n = n := wr64 (by omega) (by omega)
            have hw2 : IntKind.i64.wrap (-n) = -n := wr64 (by omega) (by omega)
            have hc2 : ¬ 9223372036854775808 ≤ n := by omega
            go_wp2
            go_ret2
            exact PiEnd.mk rfl (by omega) (by omega) (.inl rfl) (fun h1 _ _ => (KN.out h1).elim) KB.out
          · by_cases he : n = 9223372036854775808
            · subst he
              have hw : IntKind.i64.wrap 9223372036854775808 = -9223372036854775808 := by kernel_rfl
              have hw2 : IntKind.i64.wrap (- -9223372036854775808) = -9223372036854775808 := by kernel_rfl
              go_wp2
              go_ret2
              exact PiEnd.mk rfl (by decide) (by decide) (.inl rfl) (fun h1 _ _ => (KN.out h1).elim) KB.out
            · have hc2 : 9223372036854775808 < n := by omega
              have hw : IntKind.i64.wrap 9223372036854775808 = -9223372036854775808 := by kernel_rfl
              have hw2 : IntKind.i64.wrap (- -9223372036854775808) = -9223372036854775808 := by kernel_rfl
              go_wp2
              go_ret2
              exact PiEnd.mk rfl (by decide) (by decide) (.inr (.inl rfl)) (fun h1 _ _ => (KN.out h1).elim) KB.out
        · by_cases hc : n < 9223372036854775808
          · have hw : IntKind.i64.wrap n = n := wr64 (by omega) (by omega)
            have hw2 : IntKind.i64.wrap (-n) = -n := wr64 (by omega) (by omega)
            have hc2 : ¬ 9223372036854775808 ≤ n := by omega
            go_wp2
            go_ret2
            exact PiEnd.mk rfl (by omega) (by omega) (.inl rfl) (fun h1 _ _ => (KN.out h1).elim) KB.out
          · by_cases he : n = 9223372036854775808
            · subst he
              have hw : IntKind.i64.wrap 9223372036854775808 = -9223372036854775808 := by kernel_rfl
              have hw2 : IntKind.i64.wrap (- -9223372036854775808) = -9223372036854775808 := by kernel_rfl
              go_wp2
              go_ret2
              exact PiEnd.mk rfl (by decide) (by decide) (.inl rfl) (fun h1 _ _ => (KN.out h1).elim) KB.out
            · have hc2 : 9223372036854775808 < n := by omega
              have hw : IntKind.i64.wrap 9223372036854775808 = -9223372036854775808 := by kernel_rfl
              have hw2 : IntKind.i64.wrap (- -9223372036854775808) = -9223372036854775808 := by kernel_rfl
              go_wp2
              go_ret2
              exact PiEnd.mk rfl (by decide) (by decide) (.inr (.inl rfl)) (fun h1 _ _ => (KN.out h1).elim) KB.out
        · go_wp2
          go_ret2
          exact PiEnd.mk rfl (by decide) (by decide) (.inr (.inr rfl)) (fun h1 _ _ => (KN.out h1).elim) KB.out
      · have b2 : (((s[0]'hpos).toNat : Int) == 45) = false := by simpa using y2
        clear y1 y2 KO KX h0
        go_enter Tryz.func128, Tryz.ntmps128
        go_wp2_with fail
        refine Calls.mono KU.out (fun e w1 hp => ?_)
        obtain ⟨n, er, rfl, hn0, hn1, her, hval, hb⟩ := hp
        have KB := Kept.mk hb
        have KV := Kept.mk hval
        clear hb hval
        rcases her with rfl | rfl | rfl
        · by_cases hc : n < 9223372036854775808
          · have hw : IntKind.i64.wrap n = n := wr64 (by omega) (by omega)
            have hc2 : ¬ 9223372036854775808 ≤ n := by omega
            go_wp2
            go_ret2
            exact PiEnd.mk rfl (by omega) (by omega) (.inl rfl) (fun h1 h2 h3 => ⟨rfl, (KV.out h1 h2 h3).2⟩) KB.out
          · have hc2 : 9223372036854775808 ≤ n := by omega
            go_wp2
            go_ret2
            exact PiEnd.mk rfl (by decide) (by decide) (.inr (.inl rfl)) (fun h1 h2 h3 => by have h4 := (KV.out h1 h2 h3).2; have h5 := oct_small h1 h2; omega) KB.out
        · by_cases hc : n < 9223372036854775808
          · have hw : IntKind.i64.wrap n = n := wr64 (by omega) (by omega)
            have hc2 : ¬ 9223372036854775808 ≤ n := by omega
            go_wp2
            go_ret2
            exact PiEnd.mk rfl (by omega) (by omega) (.inl rfl) (fun h1 h2 h3 => by cases (KV.out h1 h2 h3).1) KB.out
          · have hc2 : 9223372036854775808 ≤ n := by omega
            go_wp2
            go_ret2
            exact PiEnd.mk rfl (by decide) (by decide) (.inr (.inl rfl)) (fun h1 h2 h3 => by cases (KV.out h1 h2 h3).1) KB.out
        · go_wp2
          go_ret2
          exact PiEnd.mk rfl (by decide) (by decide) (.inr (.inr rfl)) (fun h1 h2 h3 => by cases (KV.out h1 h2 h3).1) KB.out

set_option maxHeartbeats 2000000 in
set_option maxRecDepth 100000 in
theorem parseIntP_any (s : ByteArray) (w : World) (hg : Gl w) (hs : s.size ≤ 1048576) :
    Calls Tryz.prog 103 #[.string s, .int .i64 8, .int .i64 0] w fun e w' => ∃ n er, e = .returned (.tuple #[.int .i64 n, er]) ∧ -9223372036854775808 ≤ n ∧ n < 9223372036854775808 ∧ (IsOct (strL s) → s.size ≤ 20 → s.size ≠ 0 → n = octG 0 (strL s)) ∧ Below w.heap.size w w' := by
  have KC := Kept.mk (parseInt8_any s w hs)
  have KG := Kept.mk hg
  clear hg
  go_enter Tryz.func103, Tryz.ntmps103
  go_wp2_with fail
  refine Calls.mono KC.out (fun e w1 hp => ?_)
  obtain ⟨n, er, rfl, hn0, hn1, her, hval, hb⟩ := hp
  have KV : Kept (IsOct (strL s) → s.size ≤ 20 → s.size ≠ 0 → n = octG 0 (strL s)) := ⟨fun a b c => (hval a b c).2⟩
  have KB := Kept.mk hb
  have KG1 := Kept.mk (KG.out.later hb)
  have Kn : Kept (-9223372036854775808 ≤ n ∧ n < 9223372036854775808) := ⟨hn0, hn1⟩
  clear hval hb KC hn0 hn1
  rcases her with rfl | rfl | rfl
  · go_wp2
    go_ret2
    exact ⟨_, _, rfl, Kn.out.1, Kn.out.2, KV.out, KB.out⟩
  · obtain ⟨te, pe, hv⟩ := KG1.out.rg
    have KT := Kept.mk (Tryz.strconv_toError_range ⟨#[80, 97, 114, 115, 101, 73, 110, 116]⟩ s 8 0 _ w1 (by omega) hv (Or.inr ⟨te, pe, rfl⟩))
    clear hv
    go_wp2_with fail
    refine Calls.mono KT.out (fun e w2 hp => ?_)
    obtain ⟨N, rfl, -, -, hb2⟩ := hp
    have KB2 := Kept.mk (KB.out.trans (hb2.mono KB.out.size))
    clear hb2
    go_wp2
    go_ret2
    exact ⟨_, _, rfl, Kn.out.1, Kn.out.2, KV.out, KB2.out⟩
  · obtain ⟨te, pe, hv⟩ := KG1.out.sy
    have KT := Kept.mk (Tryz.strconv_toError_syntax ⟨#[80, 97, 114, 115, 101, 73, 110, 116]⟩ s 8 0 _ w1 (by omega) hv (Or.inr ⟨te, pe, rfl⟩))
    clear hv
    go_wp2_with fail
    refine Calls.mono KT.out (fun e w2 hp => ?_)
    obtain ⟨N, rfl, -, -, hb2⟩ := hp
    have KB2 := Kept.mk (KB.out.trans (hb2.mono KB.out.size))
    clear hb2
    go_wp2
    go_ret2
    exact ⟨_, _, rfl, Kn.out.1, Kn.out.2, KV.out, KB2.out⟩
set_option maxHeartbeats 2000000 in
set_option maxRecDepth 100000 in
theorem octal_any (s : ByteArray) (w : World) (hg : Gl w) (hs : s.size ≤ 1048576) :
    Calls Tryz.prog 73 #[.string s] w fun e w' => ∃ n, e = .returned (.int .i64 n) ∧ -9223372036854775808 ≤ n ∧ n < 9223372036854775808 ∧ (IsOct (strL s) → s.size ≤ 20 → s.size ≠ 0 → n = octG 0 (strL s)) ∧ Below w.heap.size w w' := by
  have KC := Kept.mk (parseIntP_any s w hg hs)
  clear hg
  go_enter Tryz.func73, Tryz.ntmps73
  go_wp2_with fail
  refine Calls.mono KC.out (fun e w1 hp => ?_)
  obtain ⟨n, er, rfl, hn0, hn1, hval, hb⟩ := hp
  have KV := Kept.mk hval
  have KB := Kept.mk hb
  have Kn : Kept (-9223372036854775808 ≤ n ∧ n < 9223372036854775808) := ⟨hn0, hn1⟩
  have hw : IntKind.i64.wrap n = n := wr64 (by omega) (by omega)
  clear hval hb KC hn0 hn1
  go_wp2
  go_ret
  exact ⟨n, rfl, Kn.out.1, Kn.out.2, KV.out, KB.out⟩


def klE (e : EnC) : Lit := .string e.nm.data.toList
theorem klE_key (e : EnC) : WideAt.IsKeyLit (klE e) := by
  first | trivial | (unfold klE WideAt.IsKeyLit; simp) | exact ⟨_, rfl⟩
def setE (es : List EnC) : DataW Unit := Maps.setOf (.agg []) (es.map klE)
theorem setE_step (es : List EnC) {k : Nat} (h : k < es.length) : setE (es.take (k + 1)) = (setE (es.take k)).put (klE (es[k]'h)) (.agg []) := by
  unfold setE
  rw [List.take_add_one, List.getElem?_eq_getElem h, List.map_append, Option.toList_some, List.map_cons, List.map_nil, Maps.setOf_snoc]
def smB (es : List EnC) : Bool := decide (Maps.size (setE es) < es.length)
theorem addKey_len : ∀ (xs acc : List Lit), (∀ x ∈ xs, WideAt.IsKeyLit x) → (xs.foldl Maps.addKey acc).length ≤ acc.length + xs.length ∧ ((xs.foldl Maps.addKey acc).length = acc.length + xs.length ↔ xs.Nodup ∧ ∀ x ∈ xs, acc.any (fun y => y.sameKey x) = false)
  | [], acc, _ => by simp
  | x :: xs, acc, h => by
    have ih := addKey_len xs (Maps.addKey acc x) (fun y hy => h y (List.mem_cons_of_mem _ hy))
    have hx := h x List.mem_cons_self
    rw [List.foldl_cons, List.length_cons, List.nodup_cons]
    by_cases hc : acc.any (fun y => y.sameKey x) = true
    · have e : Maps.addKey acc x = acc := by unfold Maps.addKey; rw [if_pos hc]
      rw [e] at ih ⊢
      refine ⟨by omega, ⟨fun h1 => by omega, fun h1 => ?_⟩⟩
      have := h1.2 x List.mem_cons_self
      rw [hc] at this
      cases this
    · have e : Maps.addKey acc x = acc ++ [x] := by unfold Maps.addKey; rw [if_neg hc]
      rw [e] at ih ⊢
      have hl : (acc ++ [x]).length = acc.length + 1 := by simp
      rw [hl] at ih
      refine ⟨by omega, ?_⟩
      rw [show acc.length + (xs.length + 1) = acc.length + 1 + xs.length by omega, ih.2]
      have hany : ∀ y, (acc ++ [x]).any (fun z => z.sameKey y) = (acc.any (fun z => z.sameKey y) || x.sameKey y) := fun y => by simp
      constructor
      · rintro ⟨h1, h2⟩
        refine ⟨⟨fun hm => ?_, h1⟩, fun y hy => ?_⟩
        · have := h2 x hm
          rw [hany, WideAt.sameKey_self hx] at this
          simp at this
        · rcases List.mem_cons.1 hy with rfl | hy
          · simpa using hc
          · have := h2 y hy
            rw [hany] at this
            exact (Bool.or_eq_false_iff.1 this).1
      · rintro ⟨⟨h1, h2⟩, h3⟩
        refine ⟨h2, fun y hy => ?_⟩
        rw [hany, h3 y (List.mem_cons_of_mem _ hy), Bool.false_or]
        cases hk : x.sameKey y with
        | false => rfl
        | true => exact absurd (WideAt.sameKey_eq hk ▸ hy) h1
theorem smB_iff (es : List EnC) : smB es = true ↔ ¬ (es.map fun e => e.nm.data.toList).Nodup := by
  have hk : ∀ x ∈ es.map klE, WideAt.IsKeyLit x := fun x hx => by
    obtain ⟨e, -, rfl⟩ := List.mem_map.1 hx
    exact klE_key e
  have h := addKey_len (es.map klE) [] hk
  have hs : Maps.size (setE es) = ((es.map klE).foldl Maps.addKey []).length := Maps.size_setOf _ _ hk
  have hn : (es.map klE).Nodup ↔ (es.map fun e => e.nm.data.toList).Nodup := by
    have e1 : es.map klE = (es.map fun e => e.nm.data.toList).map Lit.string := by rw [List.map_map]; rfl
    rw [e1, List.Nodup, List.Nodup, List.pairwise_map]
    exact ⟨fun h => h.imp (fun hab e => hab (by rw [e])), fun h => h.imp (fun hab e => hab (by injection e))⟩
  unfold smB
  rw [decide_eq_true_iff, hs, ← hn]
  simp only [List.length_nil, Nat.zero_add, List.length_map, List.any_nil] at h
  constructor
  · intro h1 h2
    have := h.2.2 ⟨h2, fun _ _ => by first | rfl | trivial⟩
    omega
  · intro h1
    have h3 : ((es.map klE).foldl Maps.addKey []).length ≠ es.length := fun h4 => h1 (h.2.1 h4).1
    omega

set_option maxHeartbeats 1000000 in
set_option maxRecDepth 100000 in
theorem sameName_any (v : Value) (es : List EnC) (w : World) (hr : RdE w v es) (hl : es.length ≤ 4096) (hnm : ∀ e ∈ es, e.nm.size ≤ 1048576) :
    Calls Tryz.prog 59 #[v] w fun e w' => e = .returned (.bool (smB es)) ∧ Below w.heap.size w w' := by
  obtain ⟨a, c, rfl, hlc, hok, hrd⟩ := hr
  have hmm := run_makeMapS es.length w
  have hM0 := World.ownsMap_made (H := Unit) w Tryz.prog 9 unitElem
  have hB0 : Below w.heap.size w (w.alloc (.map #[] 0)) := (Below.refl _ _).alloc (Nat.le_refl _) _
  obtain ⟨x1, hx1⟩ : ∃ x1, w.alloc (.map #[] 0) = x1 := ⟨_, rfl⟩
  rw [hx1] at hmm hM0 hB0
  have hgs : w.heap.size < x1.heap.size := by rw [← hx1]; simp
  have KM := Kept.mk hM0
  have KB0 := Kept.mk hB0
  have Kgs := Kept.mk hgs
  have KR := Kept.mk hrd
  have KK := Kept.mk hok
  have KN := Kept.mk hnm
  have KSm : Kept (smB es = decide (Maps.size (setE es) < es.length)) := ⟨rfl⟩
  generalize smB es = SB at *
  clear hM0 hB0 hgs hrd hok hx1 hnm
  go_enter Tryz.func59, Tryz.ntmps59
  go_wp2
  clear hmm
  go_loopw [11] (fun kv wr => ∃ k : Nat, k ≤ es.length ∧ kv = .int .i64 k ∧ wr.ownsMap Tryz.prog 9 unitElem w.heap.size k (setE (es.take k)) ∧ Below w.heap.size w wr) (fun kv _ => es.length - (intOf kv).toNat)
  case atStart => exact ⟨0, Nat.zero_le _, rfl, KM.out, KB0.out⟩
  case round =>
    obtain ⟨k, hk, rfl, hM, hbel⟩ := hrel
    have KBr := Kept.mk hbel
    by_cases hlt : k < es.length
    · have hki : (k : Int) < (es.length : Int) := by omega
      obtain ⟨b, off, rfl, hbl, hrg⟩ := KR.out (by omega)
      have hrow : wr.rangeAt b (off + k * 34) (es[k]'hlt).l := fun j u hu => by
        rw [hbel.cell (p := ⟨b, off + k * 34 + j, none⟩) hbl]
        exact hrg k hlt j u hu
      have hoke := KK.out _ (List.getElem_mem hlt)
      have h34 := EnC.len hoke
      have hnl := KN.out _ (List.getElem_mem hlt)
      obtain ⟨x2, hx2, hB2, c0, c1⟩ := EnC.box wr (es[k]'hlt)
      have hM2 := World.ownsMap.alloc hM (.cells (es[k]'hlt).l.toArray 33)
      rw [hx2] at hM2
      have KSt := Kept.mk (setE_step es hlt)
      obtain ⟨x3, hup, hM3, hgr3⟩ := hM2.update (Maps.string_keyed Tryz.underlying9) Tryz.underlying116 (by unfold maxLen; omega) (key := .string (es[k]'hlt).nm) (val := .agg #[]) (kl := klE (es[k]'hlt)) (d := .agg []) (ps := []) (WideMaps.keyOf_string_mk Tryz.underlying9 (by unfold maxLen; omega)) unitElem_mk
      have KM3 : Kept (x3.ownsMap Tryz.prog 9 unitElem w.heap.size (k + 1) (setE (es.take (k + 1)))) := ⟨by rw [KSt.out]; exact hM3⟩
      have hBr2 := hbel.trans (hB2.mono hbel.size)
      have KB3 : Kept (Below w.heap.size w x3) := ⟨hBr2.grown hgr3 hBr2.size (fun g hg => by cases hg; exact Nat.le_refl _)⟩
      have hones := EnC.ones (es[k]'hlt)
      have e2 : IntKind.i64.wrap ((k : Int) + 1) = (k : Int) + 1 := wr64 (by omega) (by omega)
      clear hbel hrg hoke hM hM2 hM3 hgr3 hBr2 hB2 KSt
      generalize (es[k]'hlt).l = CL at *
      generalize (es[k]'hlt).m = m at *
      generalize (es[k]'hlt).nm = nm at *
      have hR := Kept.mk hrow
      have KI : Kept ((Tryz.prog.info? 33).map (·.size) = some CL.length) := ⟨by rw [h34]; kernel_rfl⟩
      have KI2 : Kept ((Tryz.prog.info? 33).map (·.size) = some CL.toArray.size) := ⟨by rw [List.size_toArray]; exact KI.out⟩
      have KS : Kept (CL.toArray.size = 34) := ⟨by rw [List.size_toArray]; exact h34⟩
      have KO : Kept (CL.toArray.all (·.oneCell') = true) := ⟨by rw [Array.all_eq_true_iff_forall_mem]; intro x hx; exact hones x (by simpa using hx)⟩
      clear hrow h34 hones
      go_wp2_with (first | (refine wpList_load_mid rfl 33 _ rfl b (off + k * 34) rfl CL _ hR.out Tryz.underlying33 rfl KI.out ?_) | (refine BigFrame.wpList_want rfl (fun K hK => wp_store_row 33 _ _ rfl wr.heap.size CL.toArray rfl rfl 33 _ (heap_alloc_new wr _) KI2.out (by rw [KS.out]; rfl) KO.out (hK _ _ ?_)); rw [World.setRow_alloc_new]))
      go_roundw
      case rel => exact ⟨k + 1, by omega, by go_num, KM3.out, KB3.out⟩
      case measure => simp [intOf]; omega
    · have hki : ¬ (k : Int) < (es.length : Int) := by omega
      have hM' : wr.ownsMap Tryz.prog 9 unitElem w.heap.size k (setE es) := by rwa [List.take_of_length_le (by omega)] at hM
      have hlen := hM'.len Tryz.underlying116 3
      clear hbel hM hM' hki
      generalize Maps.size (setE es) = Q at *
      go_wp2
      go_ret
      exact ⟨by rw [KSm.out]; rfl, KBr.out⟩


def RiE (es : List EnC) : Prop := ∀ k (h : k + 1 < es.length), ordE (es[k]'(by omega)) es[k + 1] < 0
instance : Inhabited EnC := ⟨⟨0, ⟨#[]⟩, List.replicate 32 0⟩⟩
def eI (es : List EnC) (k : Nat) : EnC := es.getD k default
theorem eI_get {es : List EnC} {k : Nat} (h : k < es.length) : eI es k = es[k]'h := by simp [eI, List.getD, List.getElem?_eq_getElem h]
def riB (es : List EnC) : Bool := (List.range (es.length - 1)).all fun k => decide (ordE (eI es k) (eI es (k + 1)) < 0)
theorem riB_iff (es : List EnC) : riB es = true ↔ RiE es := by
  unfold riB RiE
  rw [List.all_eq_true]
  constructor
  · intro h k hk
    have := of_decide_eq_true (h k (by simp; omega))
    rwa [eI_get (by omega), eI_get hk] at this
  · intro h k hk
    have hk' : k + 1 < es.length := by simp at hk; omega
    rw [eI_get (by omega), eI_get hk']
    exact decide_eq_true (h k hk')
def treE (es : List EnC) : Int :=
  if 4096 < es.length ∨ 1048576 < tsF es then 2 else if es.any noName = true then 3 else if es.any noMode = true ∨ riB es = false then 4 else if smB es = true then 8 else 0
theorem tsF_mem {es : List EnC} (hok : ∀ e ∈ es, e.ok) {e : EnC} (he : e ∈ es) : (e.nm.size : Int) ≤ tsF es := by
  induction es with
  | nil => cases he
  | cons x es ih =>
    have h1 := tsF_range es (fun y hy => hok y (List.mem_cons_of_mem _ hy))
    have e1 : tsF (x :: es) = (((octS x.m).length : Int) + 1 + (x.nm.size : Int) + 1 + 32) + tsF es := by unfold tsF; rw [List.map_cons, List.sum_cons]
    rw [e1]
    rcases List.mem_cons.1 he with rfl | he
    · omega
    · have := ih (fun y hy => hok y (List.mem_cons_of_mem _ hy)) he
      omega

set_option maxHeartbeats 1000000 in
set_option maxRecDepth 100000 in
theorem treeError_any (v : Value) (es : List EnC) (w : World) (hg : Gv w) (hr : RdE w v es) :
    Calls Tryz.prog 27 #[v] w fun e w' => e = .returned (.int .i64 (treE es)) ∧ Below w.heap.size w w' := by
  have KR := Kept.mk hr
  have KG := Kept.mk hg
  obtain ⟨a, c, rfl, hlc, hok, -⟩ := hr
  have KK := Kept.mk hok
  clear hg hok
  by_cases h1 : 4096 < es.length
  · have h1i : (4096 : Int) < (es.length : Int) := by omega
    have KE : Kept (treE es = 2) := ⟨by unfold treE; rw [if_pos (.inl h1)]⟩
    rw [KE.out]
    clear h1
    go_enter Tryz.func27, Tryz.ntmps27
    go_wp2
    go_ret
    exact ⟨rfl, Below.refl _ _⟩
  · have h1i : ¬ (4096 : Int) < (es.length : Int) := by omega
    have hl : es.length ≤ 4096 := by omega
    have K1 := Kept.mk (treeSize_any _ es w KG.out KR.out hl)
    by_cases h2 : 1048576 < tsF es
    · have KE : Kept (treE es = 2) := ⟨by unfold treE; rw [if_pos (.inr h2)]⟩
      rw [KE.out]
      generalize tsF es = T at *
      clear h1
      go_enter Tryz.func27, Tryz.ntmps27
      go_wp2_with fail
      refine Calls.mono K1.out (fun e w1 hp => ?_)
      obtain ⟨rfl, hb1⟩ := hp
      have KB1 := Kept.mk hb1
      clear hb1
      go_wp2
      go_ret
      exact ⟨rfl, KB1.out⟩
    · have KN : Kept (∀ e ∈ es, e.nm.size ≤ 1048576) := ⟨fun e he => by have := tsF_mem KK.out he; omega⟩
      have KE : Kept (treE es = if es.any noName = true then 3 else if es.any noMode = true ∨ riB es = false then 4 else if smB es = true then 8 else 0) := ⟨by
        unfold treE
        rw [if_neg (by omega)]⟩
      have K2 : Kept (∀ w', Below w.heap.size w w' → _) := ⟨fun w' hw => containsFunc1E _ es w' (KR.out.later hw) hl⟩
      have K3 : Kept (∀ w', Below w.heap.size w w' → _) := ⟨fun w' hw => containsFunc2E _ es w' (KR.out.later hw) hl⟩
      have K4 : Kept (∀ w', Below w.heap.size w w' → _) := ⟨fun w' hw => rising_any _ es w' (KR.out.later hw) hl (fun e he => Nat.le_trans (KN.out e he) (by omega))⟩
      have K5 : Kept (∀ w', Below w.heap.size w w' → _) := ⟨fun w' hw => sameName_any _ es w' (KR.out.later hw) hl KN.out⟩
      generalize tsF es = T at *
      generalize hq1 : es.any noName = q1 at *
      generalize hq2 : es.any noMode = q2 at *
      generalize hq3 : smB es = q3 at *
      generalize treE es = E at *
      clear hq1 hq2 hq3 h1
      go_enter Tryz.func27, Tryz.ntmps27
      go_wp2_with fail
      refine Calls.mono K1.out (fun e w1 hp => ?_)
      obtain ⟨rfl, hb1⟩ := hp
      have KB1 := Kept.mk hb1
      clear hb1 K1
      go_wp2_with fail
      refine Calls.mono (K2.out w1 KB1.out) (fun e w2 hp => ?_)
      obtain ⟨rfl, hb⟩ := hp
      have KB2 := Kept.mk (KB1.out.trans (hb.mono KB1.out.size))
      clear hb K2
      cases q1 with
      | true =>
        have KV : Kept (E = 3) := ⟨by rw [KE.out, if_pos rfl]⟩
        go_wp2
        go_ret
        exact ⟨by rw [KV.out]; rfl, KB2.out⟩
      | false =>
        go_wp2_with fail
        refine Calls.mono (K3.out w2 KB2.out) (fun e w3 hp => ?_)
        obtain ⟨rfl, hb⟩ := hp
        have KB3 := Kept.mk (KB2.out.trans (hb.mono KB2.out.size))
        clear hb K3
        cases q2 with
        | true =>
          have KV : Kept (E = 4) := ⟨by rw [KE.out, if_neg (by decide), if_pos (.inl rfl)]⟩
          go_wp2
          go_ret
          exact ⟨by rw [KV.out]; rfl, KB3.out⟩
        | false =>
          go_wp2_with fail
          refine Calls.mono (K4.out w3 KB3.out) (fun e w4 hp => ?_)
          obtain ⟨r, rfl, hri, hb⟩ := hp
          have KB4 := Kept.mk (KB3.out.trans (hb.mono KB3.out.size))
          have KRi : Kept (r = riB es) := ⟨by rw [Bool.eq_iff_iff, riB_iff]; exact hri⟩
          clear hb K4 hri
          cases r with
          | false =>
            have KV : Kept (E = 4) := ⟨by rw [KE.out, if_neg (by decide), if_pos (.inr KRi.out.symm)]⟩
            go_wp2
            go_ret
            exact ⟨by rw [KV.out]; rfl, KB4.out⟩
          | true =>
            go_wp2_with fail
            refine Calls.mono (K5.out w4 KB4.out) (fun e w5 hp => ?_)
            obtain ⟨rfl, hb⟩ := hp
            have KB5 := Kept.mk (KB4.out.trans (hb.mono KB4.out.size))
            have KE2 : Kept (E = if q3 = true then 8 else 0) := ⟨by rw [KE.out, if_neg (by decide), if_neg (by rw [← KRi.out]; decide)]⟩
            clear hb K5
            cases q3 with
            | true =>
              go_wp2
              go_ret
              exact ⟨by rw [KE2.out]; rfl, KB5.out⟩
            | false =>
              go_wp2
              go_ret
              exact ⟨by rw [KE2.out]; rfl, KB5.out⟩

def entL (e : EnC) : List Int := octS e.m ++ [32] ++ strL e.nm ++ [0] ++ e.ids
def treL (es : List EnC) : List Int := es.flatMap entL
theorem treL_step (es : List EnC) {k : Nat} (h : k < es.length) : treL (es.take (k + 1)) = treL (es.take k) ++ entL (es[k]'h) := by
  unfold treL
  rw [List.take_add_one, List.getElem?_eq_getElem h, List.flatMap_append]
  simp
theorem entL_len {e : EnC} (h : e.ok) : ((entL e).length : Int) = ((octS e.m).length : Int) + 1 + (e.nm.size : Int) + 1 + 32 := by
  unfold entL
  simp only [List.length_append, strL_length, h.1, List.length_singleton]
  omega
theorem treL_len : ∀ {es : List EnC}, (∀ e ∈ es, e.ok) → ((treL es).length : Int) = tsF es
  | [], _ => rfl
  | e :: es, h => by
    have ih := treL_len (es := es) (fun x hx => h x (List.mem_cons_of_mem _ hx))
    have h1 := entL_len (h e List.mem_cons_self)
    have e1 : tsF (e :: es) = (((octS e.m).length : Int) + 1 + (e.nm.size : Int) + 1 + 32) + tsF es := by unfold tsF; rw [List.map_cons, List.sum_cons]
    have e2 : treL (e :: es) = entL e ++ treL es := by unfold treL; rw [List.flatMap_cons]
    rw [e1, e2, List.length_append]
    omega
theorem tsF_take {es : List EnC} (h : ∀ e ∈ es, e.ok) {k : Nat} (hk : k < es.length) : tsF (es.take k) + (((octS (es[k]'hk).m).length : Int) + 1 + ((es[k]'hk).nm.size : Int) + 1 + 32) ≤ tsF es := by
  rw [← tsF_step es hk]
  have h2 : tsF es = tsF (es.take (k + 1)) + tsF (es.drop (k + 1)) := by
    unfold tsF
    rw [← List.sum_append, ← List.map_append, List.take_append_drop]
  have := tsF_range (es.drop (k + 1)) (fun e he => h e (List.mem_of_mem_drop he))
  omega
theorem octF_oct : ∀ (k u : Nat), u < 8 ^ (k + 1) → IsOct (octF k u) ∧ octG 0 (octF k u) = (u : Int)
  | 0, u, h => by
    have hu : u < 8 := by simpa using h
    rw [octF_small 0 u hu]
    refine ⟨fun c hc => ?_, ?_⟩
    · simp at hc; omega
    · show (0 : Int) * 8 + (48 + (u : Int) - 48) = u
      omega
  | k + 1, u, h => by
    by_cases hu : u < 8
    · rw [octF_small _ u hu]
      refine ⟨fun c hc => ?_, ?_⟩
      · simp at hc; omega
      · show (0 : Int) * 8 + (48 + (u : Int) - 48) = u
        omega
    · have h8 : 8 ≤ u := by omega
      have hd : u / 8 < 8 ^ (k + 1) := by
        rw [Nat.pow_succ] at h
        omega
      obtain ⟨i1, i2⟩ := octF_oct k (u / 8) hd
      rw [octF_step k u h8]
      refine ⟨fun c hc => ?_, ?_⟩
      · rcases List.mem_append.1 hc with hc | hc
        · exact i1 c hc
        · simp at hc; omega
      · rw [octG_append, i2]
        show ((u / 8 : Nat) : Int) * 8 + (48 + ((u % 8 : Nat) : Int) - 48) = u
        omega
theorem octS_bytes {n : Int} (h0 : -9223372036854775808 ≤ n) (h1 : n < 9223372036854775808) : ∀ c ∈ octS n, 0 ≤ c ∧ c < 256 := by
  intro c hc
  have ho := (octF_oct 22 n.natAbs (Nat.lt_of_le_of_lt (show n.natAbs ≤ 9223372036854775808 by omega) (by decide))).1
  unfold octS at hc
  split at hc
  · rcases List.mem_cons.1 hc with rfl | hc
    · omega
    · have := ho c hc; omega
  · have := ho c hc; omega
theorem strL_strOf {l : List Int} (h : ∀ c ∈ l, 0 ≤ c ∧ c < 256) : strL (strOfNums l) = l := by
  unfold strL
  rw [strOfNums_data]
  induction l with
  | nil => rfl
  | cons c l ih =>
    have hc := h c List.mem_cons_self
    have := ih (fun x hx => h x (List.mem_cons_of_mem _ hx))
    simp only [List.map_cons, List.cons.injEq]
    refine ⟨?_, this⟩
    have e : (UInt8.ofNat c.toNat).toNat = c.toNat := by rw [UInt8.toNat_ofNat']; omega
    omega
end Go.Proofs.YtkbalngddlhlpaaGreatDoor
