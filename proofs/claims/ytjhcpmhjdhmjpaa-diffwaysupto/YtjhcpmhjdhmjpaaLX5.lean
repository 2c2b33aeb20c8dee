/-
  Walks: the document's Lines.
-/
import Derived.Test.YtjhcpmhjdhmjpaaLX4
import Derived.Test.YtjhcpmhjdhmjpaaV5
import Derived.Test.YtjhcpmhjdhmjpaaV9
namespace Go.Proofs.Ytjhcpmhjdhmjpaa
open Go.RowKit

theorem lnE_hit : ∀ {xs : List Int} {k : Nat}, (∀ j, j < k → xs[j]? ≠ some 10) → xs[k]? = some 10 → lnE xs = k + 1
  | [], k, _, h => by simp at h
  | x :: r, 0, _, h => by
    have : x = 10 := by simpa using h
    rw [lnE, if_pos this]
  | x :: r, k + 1, hn, h => by
    have h1 : ¬ x = 10 := fun e => hn 0 (by omega) (by rw [e]; rfl)
    rw [lnE, if_neg h1, lnE_hit (xs := r) (k := k) (fun j hj => by have := hn (j + 1) (by omega); simpa using this) (by simpa using h)]
theorem lnE_miss {xs : List Int} (h : ∀ j, j < xs.length → xs[j]? ≠ some 10) : lnE xs = xs.length := lnE_none (fun hm => by
  obtain ⟨j, hj, e⟩ := List.mem_iff_getElem.1 hm
  exact h j hj (by rw [List.getElem?_eq_getElem hj, e]))
/-- Where the document's Lines stands. -/
structure DlI (w wr : World) (xs : List Int) (lv : Value) (a i : Nat) : Prop where
  ai : a ≤ i
  il : i ≤ xs.length
  no : ∀ j, a ≤ j → j < i → xs[j]? ≠ some 10
  st : ∃ M, OwnT wr w.heap.size lv M ∧ lnS xs = M ++ lnS (xs.drop a)
  bel : Below w.heap.size w wr
set_option maxHeartbeats 2000000 in
set_option maxRecDepth 100000 in
theorem docLines_any {S : Nat → Prop} (v : Value) (xs : List Int) (w : World) (h : Rd .u8 S w v xs) (hl : xs.length ≤ 8796093022207) :
    Calls Try.prog 23 #[v] w fun e w' => ∃ v', e = .returned v' ∧ OwnT w' w.heap.size v' (lnS xs) ∧ Below w.heap.size w w' := by
  obtain ⟨i0, z0, hi, hz, hsz, hbt, hzc⟩ := info_str
  obtain ⟨a, c, rfl, -, hxc, hcm⟩ := h.form
  have KR := Kept.mk h
  have K0 : Kept (DlI w w xs (.slice none 0 0) 0 0) := ⟨⟨Nat.le_refl _, Nat.zero_le _, fun j _ hj => by omega, ⟨[], World.ownsRow_nil w w.heap.size 9 1, rfl⟩, Below.refl _ _⟩⟩
  unfold maxLen at hcm
  clear h
  go_enter Try.func23, Try.ntmps23
  go_upto_region 4 with fail
  go_loopw [3, 4, 9] (fun lv av iv wr => ∃ q i : Nat, av = .int .i64 q ∧ iv = .int .i64 i ∧ DlI w wr xs lv q i) (fun _ _ iv _ => xs.length - (intOf iv).toNat)
  case atStart => exact ⟨0, 0, rfl, rfl, K0.out⟩
  case round =>
    obtain ⟨q, i, rfl, rfl, hst⟩ := hrel
    have hqi := hst.ai
    have hil := hst.il
    have hbel := hst.bel
    have KSt := Kept.mk hst
    obtain ⟨M, ho, hM⟩ := hst.st
    have KO := Kept.mk ho
    have KM := Kept.mk hM
    have hMl : M.length + (lnS (xs.drop q)).length ≤ xs.length := by
      have h3 := lnS_len xs
      rw [hM, List.length_append] at h3
      exact h3
    obtain ⟨lp, lc, hlv⟩ := ho.form
    subst hlv
    clear K0 hst hM ho
    by_cases hlt : i < xs.length
    · obtain ⟨b, off, c', hv, hb, -, -, -, hcs⟩ := KR.out.open (by omega)
      injection hv with e1 e2 e3
      subst e1 e3
      obtain ⟨x, hx⟩ : ∃ x, xs[i]? = some x := ⟨_, List.getElem?_eq_getElem hlt⟩
      have hxi : wr.cell? ⟨b, off + i, none⟩ = some (.int .u8 x) := by
        rw [hbel.cell (p := ⟨b, off + i, none⟩) hb, hcs i hlt]
        simp [List.getD, hx]
      have hii : (i : Int) < (xs.length : Int) := by omega
      have m0 : (0 : Int) ≤ (i : Int) := by omega
      have m1 : IntKind.i64.wrap ((i : Int) + 1) = (i : Int) + 1 := wr64 (by omega) (by omega)
      by_cases hx10 : x = 10
      · subst hx10
        have hE : lnE (xs.drop q) = i + 1 - q := by
          have h := lnE_hit (xs := xs.drop q) (k := i - q) (fun j hj => by rw [List.getElem?_drop]; exact KSt.out.no (q + j) (by omega) (by omega)) (by rw [List.getElem?_drop, show q + (i - q) = i by omega]; exact hx)
          rw [h]; omega
        have hstep := lnS_step (off := q) (by omega) KM.out
        rw [hE, show q + (i + 1 - q) = i + 1 by omega] at hstep
        have hcv := run_convert_bytes_arg (P := Try.prog) wr 42 5 Try.underlying42 Try.underlying5 b (off + q) (i + 1 - q) (c - q) ((xs.drop q).take (i + 1 - q)) (by rw [List.length_take, List.length_drop]; omega) (fun j hj => by
          rw [hbel.cell (p := ⟨b, off + q + j, none⟩) hb, Nat.add_assoc, hcs (q + j) (by omega)]
          congr 2
          simp only [List.getD, List.getElem?_take, List.getElem?_drop]
          rw [if_pos hj]) 9 Try.underlying9
        generalize strOfNums ((xs.drop q).take (i + 1 - q)) = s at hcv hstep
        have KS := Kept.mk hstep
        have KOa : Kept ((wr.alloc (.cells #[.string s] 9)).ownsRow w.heap.size 9 1 (.slice lp M.length lc) M.length (M.map Value.string)) := ⟨World.ownsRow.alloc KO.out _⟩
        have KBa := Kept.mk (hbel.alloc hbel.size (.cells #[.string s] 9))
        have KMl : Kept (M.length + 1 ≤ 8796093022208) := ⟨by omega⟩
        have q0 : (0 : Int) ≤ (q : Int) := by omega
        have q1 : (0 : Int) ≤ (i : Int) + 1 := by omega
        have q2 : (q : Int) ≤ (i : Int) + 1 := by omega
        have q3 : (i : Int) + 1 ≤ (c : Int) := by omega
        have q4 : ¬ c = q := by omega
        have q5 : ((i : Int) + 1).toNat = i + 1 := by omega
        clear hstep hE hcs hbel hx KM hMl hqi hil
        go_wp2_with (at_builtin; refine wpList_append_own_at _ rfl _ _ 22 rfl w.heap.size 9 i0 z0 1 16 Try.underlying22 hi hz hsz hbt hzc (by decide) (.slice lp M.length lc) M.length (M.map Value.string) rfl KOa.out ⟨wr.heap.size, 0, none⟩ 1 1 [.string s] rfl rfl (cell_one_new _ _ _) (by simp [Value.oneCell']) (by have := KMl.out; unfold maxLen; omega) (by have := KMl.out; omega) KBa.out.size ?_; intro v5 w5 hown5 hgrow5 _ hat5; have KB5 := Kept.mk (KBa.out.grown hgrow5 KBa.out.size (fun k hk => (KO.out.lt k hk).1)); have KO5 := Kept.mk hown5; clear hown5 hgrow5 hat5)
        go_roundw
        case rel => exact ⟨i + 1, i + 1, by go_num, by go_num, Nat.le_refl _, hlt, fun j h1 h2 => by omega, ⟨M ++ [s], by
          have h := KO5.out
          unfold OwnT
          rw [List.length_append, List.length_singleton, List.map_append]
          exact h, KS.out⟩, KB5.out⟩
        case measure => simp [intOf]; omega
      · have hne : (x == (10 : Int)) = false := beq_eq_false_iff_ne.2 hx10
        have KE : Kept (DlI w wr xs (.slice lp M.length lc) q (i + 1)) := ⟨⟨by omega, hlt, fun j h1 h2 => by
          by_cases e : j = i
          · subst e; rw [hx]; intro e2; injection e2 with e2; exact hx10 e2
          · exact KSt.out.no j h1 (by omega), KSt.out.st, KSt.out.bel⟩⟩
        clear hcs hbel hx KM hMl hqi hil KSt
        go_wp2
        go_roundw
        case rel => exact ⟨q, i + 1, rfl, by go_num, KE.out⟩
        case measure => simp [intOf]; omega
    · obtain rfl : i = xs.length := by omega
      have hii : ¬ (xs.length : Int) < (xs.length : Int) := by omega
      by_cases hq : q < xs.length
      · obtain ⟨b, off, c', hv, hb, -, -, -, hcs⟩ := KR.out.open (by omega)
        injection hv with e1 e2 e3
        subst e1 e3
        have hE : lnE (xs.drop q) = xs.length - q := by
          have h := lnE_miss (xs := xs.drop q) (fun j hj => by rw [List.length_drop] at hj; rw [List.getElem?_drop]; exact KSt.out.no (q + j) (by omega) (by omega))
          rw [h, List.length_drop]
        have hstep := lnS_step (off := q) (by omega) KM.out
        rw [hE, show q + (xs.length - q) = xs.length by omega, List.drop_length, lnS_nil, List.append_nil, List.take_of_length_le (by rw [List.length_drop]; exact Nat.le_refl _)] at hstep
        have hcv := run_convert_bytes_arg (P := Try.prog) wr 42 5 Try.underlying42 Try.underlying5 b (off + q) (xs.length - q) (c - q) (xs.drop q) (by rw [List.length_drop]) (fun j hj => by
          rw [hbel.cell (p := ⟨b, off + q + j, none⟩) hb, Nat.add_assoc, hcs (q + j) (by omega)]
          congr 2
          simp only [List.getD, List.getElem?_drop]) 9 Try.underlying9
        generalize strOfNums (xs.drop q) = s at hcv hstep
        have KS := Kept.mk hstep
        have KOa : Kept ((wr.alloc (.cells #[.string s] 9)).ownsRow w.heap.size 9 1 (.slice lp M.length lc) M.length (M.map Value.string)) := ⟨World.ownsRow.alloc KO.out _⟩
        have KBa := Kept.mk (hbel.alloc hbel.size (.cells #[.string s] 9))
        have KMl : Kept (M.length + 1 ≤ 8796093022208) := ⟨by omega⟩
        have q0 : (0 : Int) ≤ (q : Int) := by omega
        have q2 : (q : Int) ≤ (xs.length : Int) := by omega
        have q3 : (q : Int) < (xs.length : Int) := by omega
        have q4 : ¬ c = q := by omega
        clear hstep hE hcs hbel KM hMl hqi hil KSt
        go_wp2_with (at_builtin; refine wpList_append_own_at _ rfl _ _ 22 rfl w.heap.size 9 i0 z0 1 16 Try.underlying22 hi hz hsz hbt hzc (by decide) (.slice lp M.length lc) M.length (M.map Value.string) rfl KOa.out ⟨wr.heap.size, 0, none⟩ 1 1 [.string s] rfl rfl (cell_one_new _ _ _) (by simp [Value.oneCell']) (by have := KMl.out; unfold maxLen; omega) (by have := KMl.out; omega) KBa.out.size ?_; intro v5 w5 hown5 hgrow5 _ hat5; have KB5 := Kept.mk (KBa.out.grown hgrow5 KBa.out.size (fun k hk => (KO.out.lt k hk).1)); have KO5 := Kept.mk hown5; clear hown5 hgrow5 hat5)
        go_ret
        refine ⟨_, rfl, ?_, KB5.out⟩
        rw [KS.out]
        have h := KO5.out
        unfold OwnT
        rw [List.length_append, List.length_singleton, List.map_append]
        exact h
      · obtain rfl : q = xs.length := by omega
        have KE : Kept (OwnT wr w.heap.size (.slice lp M.length lc) (lnS xs)) := ⟨by
          have h := KM.out
          rw [List.drop_length, lnS_nil, List.append_nil] at h
          rw [h]
          exact KO.out⟩
        have KB := Kept.mk hbel
        clear hbel KM KO hMl KSt
        go_wp2
        go_ret
        exact ⟨_, rfl, KE.out, KB.out⟩
end Go.Proofs.Ytjhcpmhjdhmjpaa
