/-
  Octal digits: ParseUint and ParseInt at base eight, octal.
-/
import Derived.Test.YtldnjgkpdlchaaaGreatDoorO17
import Derived.Lib.ConvBytes
namespace Go.Proofs.YtldnjgkpdlchaaaGreatDoor
open Go.RowKit

/-- The number of octal digits. -/
def octG : Int → List Int → Int
  | v, [] => v
  | v, c :: l => octG (v * 8 + (c - 48)) l
def IsOct (l : List Int) : Prop := ∀ c ∈ l, 48 ≤ c ∧ c ≤ 55
theorem octG_append : ∀ (l m : List Int) (v : Int), octG v (l ++ m) = octG (octG v l) m
  | [], _, _ => rfl
  | c :: l, m, v => octG_append l m (v * 8 + (c - 48))
theorem octG_range : ∀ (l : List Int) (v : Int), IsOct l → 0 ≤ v → 0 ≤ octG v l ∧ octG v l < (v + 1) * 8 ^ l.length
  | [], v, _, h => by
    show 0 ≤ v ∧ v < (v + 1) * 8 ^ 0
    omega
  | c :: l, v, hl, h => by
    have hc := hl c List.mem_cons_self
    have ih := octG_range l (v * 8 + (c - 48)) (fun x hx => hl x (List.mem_cons_of_mem _ hx)) (by omega)
    refine ⟨ih.1, ?_⟩
    show octG (v * 8 + (c - 48)) l < _
    rw [List.length_cons, Int.pow_succ]
    have hp : (0 : Int) < 8 ^ l.length := Int.pow_pos (by omega)
    have e : (v * 8 + (c - 48) + 1) * 8 ^ l.length ≤ (v + 1) * (8 ^ l.length * 8) := by
      rw [show (v + 1) * ((8 : Int) ^ l.length * 8) = (v + 1) * 8 * 8 ^ l.length by rw [Int.mul_assoc, Int.mul_comm (8 ^ l.length)]]
      exact Int.mul_le_mul_of_nonneg_right (by omega) (by omega)
    omega
theorem strL_getD (s : ByteArray) (k : Nat) (h : k < s.size) : ((s.data.toList.getD k 0).toNat : Int) = (strL s).getD k 0 := by
  have h1 : k < s.data.toList.length := by rw [Lib.size_eq] at h; exact h
  unfold strL
  simp only [List.getD, List.getElem?_map, List.getElem?_eq_getElem h1, Option.map_some, Option.getD_some]
theorem strL_range (s : ByteArray) {c : Int} (h : c ∈ strL s) : 0 ≤ c ∧ c < 256 := by
  obtain ⟨b, -, rfl⟩ := List.mem_map.1 h
  have := b.toNat_lt
  omega
/-- What ParseUint's error may be. -/
def PuEr (v : Value) : Prop := v = .nilIface ∨ v = .iface 113 (.int .i64 1) ∨ v = .iface 113 (.int .i64 2)
def PuEnd (s : ByteArray) (w w' : World) (e : Ending) : Prop := ∃ n er, e = .returned (.tuple #[.int .u64 n, er]) ∧ 0 ≤ n ∧ n < 18446744073709551616 ∧ PuEr er ∧ (IsOct (strL s) → s.size ≤ 20 → s.size ≠ 0 → er = .nilIface ∧ n = octG 0 (strL s)) ∧ Below w.heap.size w w'
theorem PuEnd.mk {s : ByteArray} {w w' : World} {e : Ending} {n : Int} {er : Value} (h1 : e = .returned (.tuple #[.int .u64 n, er])) (h2 : 0 ≤ n) (h3 : n < 18446744073709551616) (h4 : PuEr er) (h5 : IsOct (strL s) → s.size ≤ 20 → s.size ≠ 0 → er = .nilIface ∧ n = octG 0 (strL s)) (h6 : Below w.heap.size w w') : PuEnd s w w' e := ⟨n, er, h1, h2, h3, h4, h5, h6⟩
theorem take_getD {l : List Int} {k : Nat} (h : k < l.length) : l.take (k + 1) = l.take k ++ [l.getD k 0] := by
  rw [List.take_add_one, List.getElem?_eq_getElem h]
  simp [List.getD, List.getElem?_eq_getElem h]

set_option maxHeartbeats 4000000 in
set_option maxRecDepth 100000 in
theorem parseUint8_any (s : ByteArray) (w : World) (hs : s.size ≤ 1048576) :
    Calls Tryz.prog 89 #[.string s, .int .i64 8, .int .i64 0] w fun e w' => PuEnd s w w' e := by
  by_cases h0 : s.size = 0
  · have hemp : s.toList.isEmpty = true := by
      rw [← decide_eq_emptyBytes]
      exact decide_eq_true (by rcases s with ⟨a⟩; have : a = #[] := Array.eq_empty_of_size_eq_zero h0; rw [this]; rfl)
    have Kz := Kept.mk h0
    clear h0
    go_enter Tryz.func89, Tryz.ntmps89
    go_wp2
    go_ret2
    exact PuEnd.mk rfl (by omega) (by omega) (.inr (.inr rfl)) (fun _ _ h => absurd Kz.out h) (Below.refl _ _)
  · have hemp : s.toList.isEmpty = false := by
      rw [← decide_eq_emptyBytes]
      exact decide_eq_false (fun h => h0 (by rw [h]; rfl))
    have hcv := Lib.run_convert_string_bytes (P := Tryz.prog) w 9 23 5 s Tryz.underlying9 Tryz.underlying23 Tryz.underlying5
    have hcell : ∀ j, j < s.size → (Lib.bytesWorld w 5 s).cell? ⟨w.heap.size, j, none⟩ = some (.int .u8 ((strL s).getD j 0)) := fun j hj => by rw [Lib.bytesWorld_cell w 5 s j hj, strL_getD s j hj]
    have hB1 : Below w.heap.size w (Lib.bytesWorld w 5 s) := Lib.bytesWorld_below w 5 s
    obtain ⟨W1, hW1⟩ : ∃ W1, Lib.bytesWorld w 5 s = W1 := ⟨_, rfl⟩
    rw [hW1] at hcv hcell hB1
    have KC := Kept.mk hcell
    have KB := Kept.mk hB1
    have hmv : IntKind.u64.wrap (IntKind.u64.wrap 18446744073709551616 - 1) = 18446744073709551615 := by kernel_rfl
    have hct : IntKind.u64.wrap (Int.tdiv 18446744073709551615 8 + 1) = 2305843009213693952 := by kernel_rfl
    have hsl := strL_length s
    have Kl := Kept.mk hsl
    clear hcell hB1 hW1 h0 hsl
    go_enter Tryz.func89, Tryz.ntmps89
    go_wp2
    go_loop [12, 13, 101] (fun uv nv iv => ∃ (k : Nat) (a : Int), uv = .bool false ∧ nv = .int .u64 a ∧ iv = .int .i64 k ∧ k ≤ s.size ∧ Kept (0 ≤ a ∧ a < 18446744073709551616 ∧ (IsOct (strL s) → s.size ≤ 20 → a = octG 0 ((strL s).take k)))) (fun _ _ iv => s.size - (intOf iv).toNat)
    case atStart => exact ⟨0, 0, rfl, rfl, rfl, by omega, ⟨by omega, by omega, fun _ _ => rfl⟩⟩
    case round =>
      obtain ⟨k, a, rfl, rfl, rfl, hk, KA⟩ := hrel
      by_cases hlt : k < s.size
      · have hc := KC.out k hlt
        have hm : (strL s).getD k 0 ∈ strL s := by
          have : k < (strL s).length := by rw [Kl.out]; exact hlt
          simp only [List.getD, List.getElem?_eq_getElem this, Option.getD_some]
          exact List.getElem_mem this
        have hcr := strL_range s hm
        have Kt := Kept.mk (take_getD (l := strL s) (k := k) (by rw [Kl.out]; exact hlt))
        have KO : Kept (IsOct (strL s) → 48 ≤ (strL s).getD k 0 ∧ (strL s).getD k 0 ≤ 55) := ⟨fun h => h _ hm⟩
        clear hm
        generalize (strL s).getD k 0 = y at *
        obtain ⟨hy0, hy1⟩ := hcr
        obtain ⟨ha0, ha1, -⟩ := KA.out
        by_cases hoct : 48 ≤ y ∧ y ≤ 55
        · obtain ⟨ho0, ho1⟩ := hoct
          by_cases hcut : 2305843009213693952 ≤ a
          · have KN : Kept (IsOct (strL s) → s.size ≤ 20 → False) := ⟨fun h1 h2 => by
              have h3 := KA.out.2.2 h1 h2
              have h4 := octG_range ((strL s).take k) 0 (fun c hc => h1 c (List.mem_of_mem_take hc)) (by omega)
              have h5 : ((strL s).take k).length ≤ 20 := by rw [List.length_take, Kl.out]; omega
              have h6 : (8 : Int) ^ ((strL s).take k).length ≤ 8 ^ 20 := by
                have := Nat.pow_le_pow_right (n := 8) (by omega) h5
                exact_mod_cast this
              rw [← h3] at h4
              omega⟩
            clear KO Kt KA
            go_wp2
            go_ret2
            exact PuEnd.mk rfl (by omega) (by omega) (.inr (.inl rfl)) (fun h1 h2 _ => (KN.out h1 h2).elim) KB.out
          · have hd : IntKind.u64.wrap (a * 8) = a * 8 := by rw [IntKind.wrap_u64]; omega
            have hd2 : IntKind.u64.wrap (a * 8 + (y - 48)) = a * 8 + (y - 48) := by rw [IntKind.wrap_u64]; omega
            have icut : a < 2305843009213693952 := by omega
            have KR : Kept (0 ≤ a * 8 + (y - 48) ∧ a * 8 + (y - 48) < 18446744073709551616 ∧ (IsOct (strL s) → s.size ≤ 20 → a * 8 + (y - 48) = octG 0 ((strL s).take (k + 1)))) := ⟨by omega, by omega, fun h1 h2 => by
              rw [Kt.out, octG_append, ← KA.out.2.2 h1 h2]
              rfl⟩
            clear hcut KO Kt KA
            go_wp2
            go_round
            case rel => exact ⟨k + 1, a * 8 + (y - 48), rfl, (by first | rfl | (congr 1; omega)), by go_num, by omega, KR⟩
            case measure => simp [intOf]; omega
        · have KN : Kept (IsOct (strL s) → False) := ⟨fun h => hoct (KO.out h)⟩
          have hv0 := bits_lo_u8 .or y 32
          have hv1 := bits_hi_u8 .or y 32
          have hu0 := bits_lo_u8 .or 95 32
          have hu1 := bits_hi_u8 .or 95 32
          clear KO Kt KA
          by_cases hdig : 56 ≤ y ∧ y ≤ 57
          · obtain ⟨hg0, hg1⟩ := hdig
            clear hoct
            go_wp2
            go_ret2
            exact PuEnd.mk rfl (by omega) (by omega) (.inr (.inr rfl)) (fun h1 _ _ => (KN.out h1).elim) KB.out
          · have hnd : ¬ (48 ≤ y ∧ y ≤ 57) := by omega
            clear hoct hdig
            go_wp2_with fail
            all_goals (try (refine Calls.mono (Tryz.internal_strconv_lower _ _) (fun e w2 hp => ?_); obtain ⟨rfl, rfl⟩ := hp; go_wp2_with fail))
            all_goals (try (refine Calls.mono (Tryz.internal_strconv_lower _ _) (fun e w2 hp => ?_); obtain ⟨rfl, rfl⟩ := hp; go_wp2_with fail))
            all_goals (try (refine Calls.mono (Tryz.internal_strconv_lower _ _) (fun e w2 hp => ?_); obtain ⟨rfl, rfl⟩ := hp; go_wp2_with fail))
            all_goals go_ret2
            all_goals exact PuEnd.mk rfl (by omega) (by omega) (.inr (.inr rfl)) (fun h1 _ _ => (KN.out h1).elim) KB.out
      · have hki : ¬ (k : Int) < (s.size : Int) := by omega
        have KF : Kept (IsOct (strL s) → s.size ≤ 20 → a = octG 0 (strL s)) := ⟨fun h1 h2 => by
          have := KA.out.2.2 h1 h2
          rwa [List.take_of_length_le (by rw [Kl.out]; omega)] at this⟩
        have KA2 : Kept (0 ≤ a ∧ a < 18446744073709551616) := ⟨KA.out.1, KA.out.2.1⟩
        clear KA
        go_wp2
        go_ret2
        exact PuEnd.mk rfl KA2.out.1 KA2.out.2 (.inl rfl) (fun h1 h2 _ => ⟨rfl, KF.out h1 h2⟩) KB.out


def PiEnd (s : ByteArray) (w w' : World) (e : Ending) : Prop := ∃ n er, e = .returned (.tuple #[.int .i64 n, er]) ∧ -9223372036854775808 ≤ n ∧ n < 9223372036854775808 ∧ PuEr er ∧ (IsOct (strL s) → s.size ≤ 20 → s.size ≠ 0 → er = .nilIface ∧ n = octG 0 (strL s)) ∧ Below w.heap.size w w'
theorem PiEnd.mk {s : ByteArray} {w w' : World} {e : Ending} {n : Int} {er : Value} (h1 : e = .returned (.tuple #[.int .i64 n, er])) (h2 : -9223372036854775808 ≤ n) (h3 : n < 9223372036854775808) (h4 : PuEr er) (h5 : IsOct (strL s) → s.size ≤ 20 → s.size ≠ 0 → er = .nilIface ∧ n = octG 0 (strL s)) (h6 : Below w.heap.size w w') : PiEnd s w w' e := ⟨n, er, h1, h2, h3, h4, h5, h6⟩

theorem oct_small {s : ByteArray} (h : IsOct (strL s)) (hl : s.size ≤ 20) : octG 0 (strL s) < 9223372036854775808 := by
  have h4 := octG_range (strL s) 0 h (by omega)
  have h5 : (strL s).length ≤ 20 := by rw [strL_length]; omega
  have h6 : (8 : Int) ^ (strL s).length ≤ 8 ^ 20 := by
    have := Nat.pow_le_pow_right (n := 8) (by omega) h5
    exact_mod_cast this
  omega
theorem strL_head {s : ByteArray} (h : 0 < s.size) : ((s[0]'h).toNat : Int) ∈ strL s := by
  rcases s with ⟨a⟩
  refine List.mem_map.2 ⟨a[0]'h, ?_, rfl⟩
  simp
theorem ext_size (s : ByteArray) : (s.extract 1 s.size).size ≤ s.size := by
  rw [ByteArray.size_extract]
  omega
set_option maxHeartbeats 4000000 in
set_option maxRecDepth 100000 in
theorem parseInt8_any (s : ByteArray) (w : World) (hs : s.size ≤ 1048576) :
    Calls Tryz.prog 72 #[.string s, .int .i64 8, .int .i64 0] w fun e w' => PiEnd s w w' e := by
  by_cases h0 : s.size = 0
  · obtain rfl : s = ⟨#[]⟩ := by rcases s with ⟨a⟩; have : a = #[] := Array.eq_empty_of_size_eq_zero h0; rw [this]
    refine (Tryz.internal_strconv_ParseInt_empty 8 0 w).mono fun e w' hp => ?_
    obtain ⟨rfl, rfl⟩ := hp
    exact PiEnd.mk rfl (by omega) (by omega) (.inr (.inr rfl)) (fun _ _ h => absurd h0 h) (Below.refl _ _)
  · have hemp : s.toList.isEmpty = false := by
      rw [← decide_eq_emptyBytes]
      exact decide_eq_false (fun h => h0 (by rw [h]; rfl))
    have hpos : 0 < s.size := by omega
    have KO : Kept (IsOct (strL s) → 48 ≤ ((s[0]'hpos).toNat : Int)) := ⟨fun h => (h _ (strL_head hpos)).1⟩
    have KU := Kept.mk (parseUint8_any s w hs)
    have hq2 : ∀ W, (binOp .neq 84 (.iface 113 (.int .i64 2)) (.iface 113 (.int .i64 1))).run Tryz.prog W = .ok (.bool true) W := fun W => Lib.run_neq_iface_int W 2 1 Tryz.underlying84 (by kernel_rfl) Tryz.underlying113
    have hq1 : ∀ W, (binOp .neq 84 (.iface 113 (.int .i64 1)) (.iface 113 (.int .i64 1))).run Tryz.prog W = .ok (.bool false) W := fun W => Lib.run_neq_iface_int W 1 1 Tryz.underlying84 (by kernel_rfl) Tryz.underlying113
    have KX := Kept.mk (parseUint8_any (s.extract 1 s.size) w (Nat.le_trans (ext_size s) hs))
    by_cases y1 : ((s[0]'hpos).toNat : Int) = 43
    · have b1 : (((s[0]'hpos).toNat : Int) == 43) = true := by simpa using y1
      have KN : Kept (IsOct (strL s) → False) := ⟨fun h => by have := KO.out h; omega⟩
      clear y1 KO KU h0
      go_enter Tryz.func72, Tryz.ntmps72
      go_wp2_with fail
      refine Calls.mono KX.out (fun e w1 hp => ?_)
      obtain ⟨n, er, rfl, hn0, hn1, her, hval, hb⟩ := hp
      have KB := Kept.mk hb
      have KV := Kept.mk hval
      clear hb hval
      rcases her with rfl | rfl | rfl
      · by_cases hc : n < 9223372036854775808
        · have hw : IntKind.i64.wrap n = n := wr64 (by omega) (by omega)
          have hc2 : ¬ 9223372036854775808 ≤ n := by omega
          go_wp2
          go_ret2
          exact PiEnd.mk rfl (by omega) (by omega) (.inl rfl) (fun h1 _ _ => (KN.out h1).elim) KB.out
        · have hc2 : 9223372036854775808 ≤ n := by omega
          go_wp2
          go_ret2
          exact PiEnd.mk rfl (by decide) (by decide) (.inr (.inl rfl)) (fun h1 _ _ => (KN.out h1).elim) KB.out
      · by_cases hc : n < 9223372036854775808
        · have hw : IntKind.i64.wrap n = n := wr64 (by omega) (by omega)
          have hc2 : ¬ 9223372036854775808 ≤ n := by omega
          go_wp2
          go_ret2
          exact PiEnd.mk rfl (by omega) (by omega) (.inl rfl) (fun h1 _ _ => (KN.out h1).elim) KB.out
        · have hc2 : 9223372036854775808 ≤ n := by omega
          go_wp2
          go_ret2
          exact PiEnd.mk rfl (by decide) (by decide) (.inr (.inl rfl)) (fun h1 _ _ => (KN.out h1).elim) KB.out
      · go_wp2
        go_ret2
        exact PiEnd.mk rfl (by decide) (by decide) (.inr (.inr rfl)) (fun h1 _ _ => (KN.out h1).elim) KB.out
    · have b1 : (((s[0]'hpos).toNat : Int) == 43) = false := by simpa using y1
      by_cases y2 : ((s[0]'hpos).toNat : Int) = 45
      · have b2 : (((s[0]'hpos).toNat : Int) == 45) = true := by simpa using y2
        have KN : Kept (IsOct (strL s) → False) := ⟨fun h => by have := KO.out h; omega⟩
        clear y1 y2 KO KU h0
        go_enter Tryz.func72, Tryz.ntmps72
        go_wp2_with fail
        refine Calls.mono KX.out (fun e w1 hp => ?_)
        obtain ⟨n, er, rfl, hn0, hn1, her, hval, hb⟩ := hp
        have KB := Kept.mk hb
        have KV := Kept.mk hval
        clear hb hval
        rcases her with rfl | rfl | rfl
        · by_cases hc : n < 9223372036854775808
          · have hw : IntKind.i64.wrap n = n := wr64 (by omega) (by omega)
            have hw2 : IntKind.i64.wrap (-n) = -n := wr64 (by omega) (by omega)
            have hc2 : ¬ 9223372036854775808 ≤ n := by omega
            go_wp2
            go_ret2
            exact PiEnd.mk rfl (by omega) (by omega) (.inl rfl) (fun h1 _ _ => (KN.out h1).elim) KB.out
          · by_cases he : n = 9223372036854775808
            · subst he
              have hw : IntKind.i64.wrap 9223372036854775808 = -9223372036854775808 := by kernel_rfl
              have hw2 : IntKind.i64.wrap (- -9223372036854775808) = -9223372036854775808 := by kernel_rfl
              go_wp2
              go_ret2
              exact PiEnd.mk rfl (by decide) (by decide) (.inl rfl) (fun h1 _ _ => (KN.out h1).elim) KB.out
            · have hc2 : 9223372036854775808 < n := by omega
              have hw : IntKind.i64.wrap 9223372036854775808 = -9223372036854775808 := by kernel_rfl
              have hw2 : IntKind.i64.wrap (- -9223372036854775808) = -9223372036854775808 := by kernel_rfl
              go_wp2
              go_ret2
              exact PiEnd.mk rfl (by decide) (by decide) (.inr (.inl rfl)) (fun h1 _ _ => (KN.out h1).elim) KB.out
        · by_cases hc : n < 9223372036854775808
          · have hw : IntKind.i64.wrap n = n := wr64 (by omega) (by omega)
            have hw2 : IntKind.i64.wrap (-n) = -n := wr64 (by omega) (by omega)
            have hc2 : ¬ 9223372036854775808 ≤ n := by omega
            go_wp2
            go_ret2
            exact PiEnd.mk rfl (by omega) (by omega) (.inl rfl) (fun h1 _ _ => (KN.out h1).elim) KB.out
          · by_cases he : n = 9223372036854775808
            · subst he
              have hw : IntKind.i64.wrap 9223372036854775808 = -9223372036854775808 := by kernel_rfl
              have hw2 : IntKind.i64.wrap (- -9223372036854775808) = -9223372036854775808 := by kernel_rfl
              go_wp2
              go_ret2
              exact PiEnd.mk rfl (by decide) (by decide) (.inl rfl) (fun h1 _ _ => (KN.out h1).elim) KB.out
            · have hc2 : 9223372036854775808 < n := by omega
              have hw : IntKind.i64.wrap 9223372036854775808 = -9223372036854775808 := by kernel_rfl
              have hw2 : IntKind.i64.wrap (- -9223372036854775808) = -9223372036854775808 := by kernel_rfl
              go_wp2
              go_ret2
              exact PiEnd.mk rfl (by decide) (by decide) (.inr (.inl rfl)) (fun h1 _ _ => (KN.out h1).elim) KB.out
        · go_wp2
          go_ret2
          exact PiEnd.mk rfl (by decide) (by decide) (.inr (.inr rfl)) (fun h1 _ _ => (KN.out h1).elim) KB.out
      · have b2 : (((s[0]'hpos).toNat : Int) == 45) = false := by simpa using y2
        clear y1 y2 KO KX h0
        go_enter Tryz.func72, Tryz.ntmps72
        go_wp2_with fail
        refine Calls.mono KU.out (fun e w1 hp => ?_)
        obtain ⟨n, er, rfl, hn0, hn1, her, hval, hb⟩ := hp
        have KB := Kept.mk hb
        have KV := Kept.mk hval
        clear hb hval
        rcases her with rfl | rfl | rfl
        · by_cases hc : n < 9223372036854775808
          · have hw : IntKind.i64.wrap n = n := wr64 (by omega) (by omega)
            have hc2 : ¬ 9223372036854775808 ≤ n := by omega
            go_wp2
            go_ret2
            exact PiEnd.mk rfl (by omega) (by omega) (.inl rfl) (fun h1 h2 h3 => ⟨rfl, (KV.out h1 h2 h3).2⟩) KB.out
          · have hc2 : 9223372036854775808 ≤ n := by omega
            go_wp2
            go_ret2
            exact PiEnd.mk rfl (by decide) (by decide) (.inr (.inl rfl)) (fun h1 h2 h3 => by have h4 := (KV.out h1 h2 h3).2; have h5 := oct_small h1 h2; omega) KB.out
        · by_cases hc : n < 9223372036854775808
          · have hw : IntKind.i64.wrap n = n := wr64 (by omega) (by omega)
            have hc2 : ¬ 9223372036854775808 ≤ n := by omega
            go_wp2
            go_ret2
            exact PiEnd.mk rfl (by omega) (by omega) (.inl rfl) (fun h1 h2 h3 => by cases (KV.out h1 h2 h3).1) KB.out
          · have hc2 : 9223372036854775808 ≤ n := by omega
            go_wp2
            go_ret2
            exact PiEnd.mk rfl (by decide) (by decide) (.inr (.inl rfl)) (fun h1 h2 h3 => by cases (KV.out h1 h2 h3).1) KB.out
        · go_wp2
          go_ret2
          exact PiEnd.mk rfl (by decide) (by decide) (.inr (.inr rfl)) (fun h1 h2 h3 => by cases (KV.out h1 h2 h3).1) KB.out

set_option maxHeartbeats 2000000 in
set_option maxRecDepth 100000 in
theorem parseIntP_any (s : ByteArray) (w : World) (hg : Gl w) (hs : s.size ≤ 1048576) :
    Calls Tryz.prog 57 #[.string s, .int .i64 8, .int .i64 0] w fun e w' => ∃ n er, e = .returned (.tuple #[.int .i64 n, er]) ∧ -9223372036854775808 ≤ n ∧ n < 9223372036854775808 ∧ (IsOct (strL s) → s.size ≤ 20 → s.size ≠ 0 → n = octG 0 (strL s)) ∧ Below w.heap.size w w' := by
  have KC := Kept.mk (parseInt8_any s w hs)
  have KG := Kept.mk hg
  clear hg
  go_enter Tryz.func57, Tryz.ntmps57
  go_wp2_with fail
  refine Calls.mono KC.out (fun e w1 hp => ?_)
  obtain ⟨n, er, rfl, hn0, hn1, her, hval, hb⟩ := hp
  have KV : Kept (IsOct (strL s) → s.size ≤ 20 → s.size ≠ 0 → n = octG 0 (strL s)) := ⟨fun a b c => (hval a b c).2⟩
  have KB := Kept.mk hb
  have KG1 := Kept.mk (KG.out.later hb)
  have Kn : Kept (-9223372036854775808 ≤ n ∧ n < 9223372036854775808) := ⟨hn0, hn1⟩
  clear hval hb KC hn0 hn1
  rcases her with rfl | rfl | rfl
  · go_wp2
    go_ret2
    exact ⟨_, _, rfl, Kn.out.1, Kn.out.2, KV.out, KB.out⟩
  · obtain ⟨te, pe, hv⟩ := KG1.out.rg
    have KT := Kept.mk (Tryz.strconv_toError_range ⟨#[80, 97, 114, 115, 101, 73, 110, 116]⟩ s 8 0 _ w1 (by omega) hv (Or.inr ⟨te, pe, rfl⟩))
    clear hv
    go_wp2_with fail
    refine Calls.mono KT.out (fun e w2 hp => ?_)
    obtain ⟨N, rfl, -, -, hb2⟩ := hp
    have KB2 := Kept.mk (KB.out.trans (hb2.mono KB.out.size))
    clear hb2
    go_wp2
    go_ret2
    exact ⟨_, _, rfl, Kn.out.1, Kn.out.2, KV.out, KB2.out⟩
  · obtain ⟨te, pe, hv⟩ := KG1.out.sy
    have KT := Kept.mk (Tryz.strconv_toError_syntax ⟨#[80, 97, 114, 115, 101, 73, 110, 116]⟩ s 8 0 _ w1 (by omega) hv (Or.inr ⟨te, pe, rfl⟩))
    clear hv
    go_wp2_with fail
    refine Calls.mono KT.out (fun e w2 hp => ?_)
    obtain ⟨N, rfl, -, -, hb2⟩ := hp
    have KB2 := Kept.mk (KB.out.trans (hb2.mono KB.out.size))
    clear hb2
    go_wp2
    go_ret2
    exact ⟨_, _, rfl, Kn.out.1, Kn.out.2, KV.out, KB2.out⟩
set_option maxHeartbeats 2000000 in
set_option maxRecDepth 100000 in
/-- octal: some number, and the digits' own where there are one to twenty of them. -/
theorem octal_any (s : ByteArray) (w : World) (hg : Gl w) (hs : s.size ≤ 1048576) :
    Calls Tryz.prog 42 #[.string s] w fun e w' => ∃ n, e = .returned (.int .i64 n) ∧ -9223372036854775808 ≤ n ∧ n < 9223372036854775808 ∧ (IsOct (strL s) → s.size ≤ 20 → s.size ≠ 0 → n = octG 0 (strL s)) ∧ Below w.heap.size w w' := by
  have KC := Kept.mk (parseIntP_any s w hg hs)
  clear hg
  go_enter Tryz.func42, Tryz.ntmps42
  go_wp2_with fail
  refine Calls.mono KC.out (fun e w1 hp => ?_)
  obtain ⟨n, er, rfl, hn0, hn1, hval, hb⟩ := hp
  have KV := Kept.mk hval
  have KB := Kept.mk hb
  have Kn : Kept (-9223372036854775808 ≤ n ∧ n < 9223372036854775808) := ⟨hn0, hn1⟩
  have hw : IntKind.i64.wrap n = n := wr64 (by omega) (by omega)
  clear hval hb KC hn0 hn1
  go_wp2
  go_ret
  exact ⟨n, rfl, Kn.out.1, Kn.out.2, KV.out, KB.out⟩
end Go.Proofs.YtldnjgkpdlchaaaGreatDoor
