/-
  The walk of DeflateFixed.
-/
import Derived.Test.YtjijkcmbbccfmaaDoorRT
import Derived.Test.YtjijkcmbbccfmaaDoorI2
import Derived.Test.YtjijkcmbbccfmaaDoorF37
namespace Go.Proofs.YtjijkcmbbccfmaaDoor
open Go.RowKit

theorem cmF_zero {p : List Int} (hp : ∀ i, p.getD i 0 = 0) : ∀ (F i j : Nat), cmF p F i j = F
  | 0, _, _ => rfl
  | F + 1, i, j => by rw [cmF, if_pos (by rw [hp, hp]), cmF_zero hp F]
theorem mch_zero {p : List Int} (hp : ∀ i, p.getD i 0 = 0) {c : Nat} (h3 : 3 ≤ min 258 (p.length - (c + 1))) : mchF p (c + 1) = (min 258 (p.length - (c + 1)), 1) := by
  have hs : snF p (c + 1) c = min 258 (p.length - (c + 1)) := cmF_zero hp _ _ _
  unfold mchF
  rw [mtF, if_pos (by omega), hs, if_pos ⟨h3, by omega⟩, mtF_most _ _ _ _ _ (Nat.le_refl _), show c + 1 - c = 1 from by omega]
theorem tk_zero {p : List Int} (hp : ∀ i, p.getD i 0 = 0) : ∀ (f c : Nat), (tkF p f (c + 1)).length ≤ 19 * ((p.length - (c + 1)) / 258) + 19
  | 0, _ => by simp [tkF]
  | f + 1, c => by
    by_cases h3 : 3 ≤ min 258 (p.length - (c + 1))
    · rw [tkF, if_pos (by omega), mch_zero hp h3]
      simp only
      rw [if_neg (by omega)]
      have h5 : (distL (1 - 1)).length = 5 := rfl
      have hl := lenL_length (v := min 258 (p.length - (c + 1)) - 3) (by omega)
      rw [List.length_append, List.length_append, h5]
      by_cases h258 : 258 ≤ p.length - (c + 1)
      · have e : min 258 (p.length - (c + 1)) = 258 := by omega
        rw [e] at hl ⊢
        have ih := tk_zero hp f (c + 258)
        rw [show c + 1 + 258 = c + 258 + 1 from by omega]
        omega
      · have := (tkF_facts p f (c + 1 + min 258 (p.length - (c + 1)))).2
        omega
    · have := (tkF_facts p (f + 1) (c + 1)).2
      omega
theorem fix_zero {p : List Int} (hp : ∀ i, p.getD i 0 = 0) (hl : p.length = 70000) : (packF (fixL p)).length < 1000 := by
  have h7 : (symL 256).length = 7 := rfl
  have h0 : (tksL p 0).length ≤ 9 + (19 * (69999 / 258) + 19) := by
    have hm : (mchF p 0).1 = 0 := rfl
    have hs := symL_length (p.getD 0 0).toNat
    rw [tksL_lit (by omega) hm, List.length_append]
    have := tk_zero hp p.length 0
    rw [hl] at this
    unfold tksL
    rw [hl]
    omega
  have : (fixL p).length ≤ 5200 := by
    unfold fixL
    simp only [List.length_append, bitsL_length, h7, List.length_cons, List.length_nil]
    omega
  rw [packF_len _ _ (Nat.le_refl _)]
  omega
theorem st_zero {p : List Int} (hl : p.length = 70000) : (storedL p).length = 70010 ∧ (storedL p).getD 0 0 = 0 ∧ (storedL p).getD 65540 0 = 1 := by
  have hd : (p.drop 65535).length = 4465 := by simp; omega
  have ht : (p.take 65535).length = 65535 := by simp; omega
  rw [storedL_more (by omega), storedL_last (p := p.drop 65535) (by omega), hd]
  have h5 : (hdL 0 65535).length = 5 := rfl
  have h6 : (hdL 1 4465).length = 5 := rfl
  refine ⟨by simp only [List.length_append, h5, h6, ht, hd], ?_, ?_⟩
  · unfold hdL
    rfl
  · simp only [List.getD]
    rw [List.getElem?_append_right (by simp only [List.length_append, h5, ht]; omega)]
    simp only [List.length_append, h5, ht]
    rfl
theorem info8F : ∃ i, Tryd.prog.info? 5 = some i ∧ i.zero = some (.int .u8 0) ∧ i.size = 1 ∧ i.bytes = 1 := by
  have h : (Tryd.prog.info? 5).map (fun i => (i.zero, i.size, i.bytes)) = some (some (.int .u8 0), 1, 1) := by kernel_rfl
  cases h' : Tryd.prog.info? 5 with
  | none => rw [h'] at h; cases h
  | some i =>
    rw [h'] at h
    simp only [Option.map_some, Option.some.injEq, Prod.mk.injEq] at h
    exact ⟨i, rfl, h.1, h.2.1, h.2.2⟩
theorem own_zero {w : World} {base n : Nat} {v : Value} (h : w.ownsRow base 5 1 v n (madeCells (Value.int .u8 0).cells (n * 1)).toList) : Own .u8 5 w base v (List.replicate n 0) := by
  have ec : (Value.int .u8 0).cells = #[.int .u8 0] := rfl
  have e : (madeCells (Value.int .u8 0).cells (n * 1)).toList = cellsK .u8 (List.replicate n 0) := by
    rw [ec, Nat.mul_one]
    unfold madeCells cellsK
    rw [Array.toList_map, Array.toList_range, List.map_replicate]
    apply List.ext_getElem
    · simp
    · intro j h1 h2
      simp [Nat.mod_one]
  unfold Own
  rw [List.length_replicate, ← e]
  exact h
theorem zero_all (n : Nat) : AllB (List.replicate n 0) := fun x hx => by rw [List.eq_of_mem_replicate hx]; omega
theorem zero_get (n : Nat) : ∀ i, (List.replicate n (0 : Int)).getD i 0 = 0 := fun i => by
  simp only [List.getD, List.getElem?_replicate]
  split <;> rfl
theorem bytes_long {b : Nat} (h : b = 1) : b * 1048577 ≤ 281474976710656 ∧ b * 70000 ≤ 281474976710656 ∧ 1048577 ≤ maxLen ∧ 70000 ≤ maxLen := by
  subst h
  unfold maxLen
  omega
theorem dflN2 : dflF [] 2 = ([3, 0], 0) := by kernel_rfl
theorem dflN3 : dflF [] 3 = ([], 1) := by kernel_rfl
theorem dflNm : dflF [] (-1) = ([], 1) := by kernel_rfl

theorem deflate_long (v : Value) (w : World) (h : Rd .u8 anyB w v (List.replicate 1048577 0)) : Calls Tryd.prog 9 #[v, .int .i64 0] w fun e w' => ∃ v', e = .returned (.tuple #[v', .int .i64 2]) ∧ Below w.heap.size w w' := by
  have d := deflate_any v _ 0 w h (zero_all _)
  have e : dflF (List.replicate 1048577 0) 0 = ([], 2) := by
    unfold dflF
    rw [if_neg (by omega), if_pos (by rw [List.length_replicate]; omega)]
  rw [e] at d
  exact d.mono fun e w' ⟨v', h1, _, h3⟩ => ⟨v', h1, h3⟩

set_option maxHeartbeats 4000000 in
set_option maxRecDepth 100000 in
theorem dffixed_walk (w : World) (hT : Tab w) : Calls Tryd.prog 4 #[] w fun e w' => e = .returned (.bool true) ∧ Below w.heap.size w w' := by
  have KW := Kept.mk (awake4_any w)
  obtain ⟨i0, hi, hz, hs, hb0⟩ := info8F
  have KT := Kept.mk hT
  obtain ⟨P, hP⟩ : ∃ P : List Int, P = List.replicate 70000 0 := ⟨_, rfl⟩
  have hPl : P.length = 70000 := by rw [hP, List.length_replicate]
  have hPa : AllB P := by rw [hP]; exact zero_all _
  have hFl := fix_zero (p := P) (by rw [hP]; exact zero_get _) hPl
  have hS := st_zero hPl
  have KI := Kept.mk (infl_fix (most := 70000) hPa (by omega) [])
  have KFl : Kept (((fixL P).length + 7) / 8 = (packF (fixL P)).length) := ⟨by rw [packF_len _ _ (Nat.le_refl _)]⟩
  have d0 : dflF P 0 = (storedL P, 0) := by rw [dflF_ok (by omega) (by omega) (by omega)]; unfold dfF; rw [if_pos rfl]
  have d1 : dflF P 1 = (packF (fixL P), 0) := by rw [dflF_ok (by omega) (by omega) (by omega)]; unfold dfF; rw [if_neg (by omega), if_neg (fun e => by omega)]
  have KD0 : Kept (∀ v2 w2, Rd .u8 anyB w2 v2 P → Calls Tryd.prog 9 #[v2, .int .i64 0] w2 fun e w' => ∃ v', e = .returned (.tuple #[v', .int .i64 0]) ∧ Own .u8 5 w' w2.heap.size v' (storedL P) ∧ Below w2.heap.size w2 w') := ⟨fun v2 w2 h2 => by
    have d := deflate_any v2 P 0 w2 h2 hPa
    rw [d0] at d
    exact d⟩
  have KD1 : Kept (∀ v2 w2, Rd .u8 anyB w2 v2 P → Calls Tryd.prog 9 #[v2, .int .i64 1] w2 fun e w' => ∃ v', e = .returned (.tuple #[v', .int .i64 0]) ∧ Own .u8 5 w' w2.heap.size v' (packF (fixL P)) ∧ Below w2.heap.size w2 w') := ⟨fun v2 w2 h2 => by
    have d := deflate_any v2 P 1 w2 h2 hPa
    rw [d1] at d
    exact d⟩
  have KFa := Kept.mk (fixP_all P)
  have KPa := Kept.mk hPa
  have KP := Kept.mk hP
  clear d0 d1 hPa hT
  generalize packF (fixL P) = F at *
  generalize storedL P = S at *
  obtain ⟨hS1, hS2, hS3⟩ := hS
  have hFi : (F.length : Int) < 1000 := by omega
  have K1 := deflate_any (.slice none 0 0) [] 2
  have K2 := deflate_any (.slice none 0 0) [] 3
  have K3 := deflate_any (.slice none 0 0) [] (-1)
  rw [dflN2] at K1
  rw [dflN3] at K2
  rw [dflNm] at K3
  have K1 := Kept.mk K1
  have K2 := Kept.mk K2
  have K3 := Kept.mk K3
  obtain ⟨hm3, hm1, hm4, hm2⟩ := bytes_long hb0
  go_enter Tryd.func4, Tryd.ntmps4
  go_wp2_with fail
  refine Calls.mono KW.out (fun e w1 hp => ?_)
  obtain ⟨rfl, hb⟩ := hp
  have KB1 := Kept.mk hb
  clear hb
  go_wp2_with fail
  refine Calls.mono (K1.out w1 (Rd.nil _ _ _) AllIn.nil) (fun e w2 hp => ?_)
  obtain ⟨va, rfl, ho, hb⟩ := hp
  have KB2 := Kept.mk (KB1.out.trans (hb.mono KB1.out.size))
  have Ka := Kept.mk ho
  clear hb ho
  go_wp2_with fail
  refine Calls.mono (K2.out w2 (Rd.nil _ _ _) AllIn.nil) (fun e w3 hp => ?_)
  obtain ⟨v3, rfl, -, hb⟩ := hp
  have KB3 := Kept.mk (KB2.out.trans (hb.mono KB2.out.size))
  have Ka := Kept.mk (Ka.out.later hb (Nat.le_refl _))
  clear hb
  go_wp2_with fail
  refine Calls.mono (K3.out w3 (Rd.nil _ _ _) AllIn.nil) (fun e w4 hp => ?_)
  obtain ⟨v4, rfl, -, hb⟩ := hp
  have KB4 := Kept.mk (KB3.out.trans (hb.mono KB3.out.size))
  have Ka := Kept.mk (Ka.out.later hb (Nat.le_refl _))
  clear hb K1 K2 K3
  go_wp2_with (at_make; refine wpList_make_full _ rfl _ _ 22 rfl w4.heap.size 5 i0 (.int .u8 0) 1 Tryd.underlying22 hi hz hs .i64 .i64 70000 70000 70000 rfl rfl rfl rfl hm1 hm2 (Nat.le_refl _) ?_; intro w5 hown hgrow; have hb := (Below.refl w4.heap.size w4).grown hgrow (Nat.le_refl _) (by intro k hk; cases hk); have KB5 := Kept.mk (KB4.out.trans (hb.mono KB4.out.size)); have Ka := Kept.mk (Ka.out.later hb (Nat.le_refl _)); have hol := own_zero hown; rw [← KP.out] at hol; have Kl := Kept.mk hol; have K1 := Kept.mk (KD0.out _ w5 hol.rd.any); clear hown hgrow hb hol)
  refine Calls.mono K1.out (fun e w6 hp => ?_)
  obtain ⟨vb, rfl, ho, hb⟩ := hp
  have KB6 := Kept.mk (KB5.out.trans (hb.mono KB5.out.size))
  have Ka := Kept.mk (Ka.out.later hb (Nat.le_refl _))
  have Kl := Kept.mk (Kl.out.later hb (Nat.le_refl _))
  have hform := ho.rd.form
  rw [hS1] at hform
  obtain ⟨ba, bc, rfl, -, -, -⟩ := hform
  have Kb := Kept.mk ho
  have K1 := Kept.mk (KD1.out _ w6 Kl.out.rd.any)
  clear hb ho
  go_wp2_with fail
  refine Calls.mono K1.out (fun e w7 hp => ?_)
  obtain ⟨vc, rfl, ho, hb⟩ := hp
  have KB7 := Kept.mk (KB6.out.trans (hb.mono KB6.out.size))
  have Ka := Kept.mk (Ka.out.later hb (Nat.le_refl _))
  have Kl := Kept.mk (Kl.out.later hb (Nat.le_refl _))
  have Kb := Kept.mk (Kb.out.later hb (Nat.le_refl _))
  obtain ⟨ca, cc, rfl, -, -, -⟩ := ho.rd.form
  have K1 := inflate_any _ F 70000 w7 (KT.out.far KB7.out) ho.rd KFa.out (by omega) (by omega)
  have hI := KI.out
  rw [List.append_nil] at hI
  rw [hI] at K1
  have K1 : Kept (Calls Tryd.prog 11 #[.slice ca F.length cc, .int .i64 70000] w7 fun e w' => ∃ v, e = .returned (.tuple #[v, .int .i64 F.length, .int .i64 0]) ∧ Own .u8 5 w' w7.heap.size v P ∧ Below w7.heap.size w7 w') := ⟨Calls.mono K1 fun e w' h => by
    obtain ⟨v, h1, h2, -, -, h3⟩ := h
    rw [KFl.out] at h1
    exact ⟨v, h1, h2, h3⟩⟩
  clear hb ho hI
  go_wp2_with fail
  refine Calls.mono K1.out (fun e w8 hp => ?_)
  obtain ⟨vd, rfl, ho, hb⟩ := hp
  have KB8 := Kept.mk (KB7.out.trans (hb.mono KB7.out.size))
  have Ka := Kept.mk (Ka.out.later hb (Nat.le_refl _))
  have Kl := Kept.mk (Kl.out.later hb (Nat.le_refl _))
  have Kb := Kept.mk (Kb.out.later hb (Nat.le_refl _))
  have Kd := Kept.mk ho
  clear hb ho K1
  go_wp2_with (at_make; refine wpList_make_full _ rfl _ _ 22 rfl w8.heap.size 5 i0 (.int .u8 0) 1 Tryd.underlying22 hi hz hs .i64 .i64 1048577 1048577 1048577 rfl rfl rfl rfl hm3 hm4 (Nat.le_refl _) ?_; intro w9 hown hgrow; have hb := (Below.refl w8.heap.size w8).grown hgrow (Nat.le_refl _) (by intro k hk; cases hk); have KB9 := Kept.mk (KB8.out.trans (hb.mono KB8.out.size)); have Ka := Kept.mk (Ka.out.later hb (Nat.le_refl _)); have Kl := Kept.mk (Kl.out.later hb (Nat.le_refl _)); have Kb := Kept.mk (Kb.out.later hb (Nat.le_refl _)); have Kd := Kept.mk (Kd.out.later hb (Nat.le_refl _)); have K1 := Kept.mk (deflate_long _ w9 (own_zero hown).rd.any); clear hown hgrow hb)
  refine Calls.mono K1.out (fun e w10 hp => ?_)
  obtain ⟨vk, rfl, hb⟩ := hp
  have KB10 := Kept.mk (KB9.out.trans (hb.mono KB9.out.size))
  have Ka := Kept.mk (Ka.out.later hb (Nat.le_refl _))
  have Kl := Kept.mk (Kl.out.later hb (Nat.le_refl _))
  have Kb := Kept.mk (Kb.out.later hb (Nat.le_refl _))
  have Kd := Kept.mk (Kd.out.later hb (Nat.le_refl _))
  clear hb K1
  have hbA := (Below.refl w10.heap.size w10).alloc (Nat.le_refl _) (.cells (cellsK .u8 [3, 0]).toArray 5)
  have S1 := same_any _ _ _ _ _ (Ka.out.later hbA (Nat.le_refl _)).rd (Rd.lit .u8 w10 [3, 0] 5 (by simp)) (allB_lit rfl) (allB_lit rfl)
  rw [decide_eq_true rfl] at S1
  have S1 := Kept.mk S1
  obtain ⟨w11, hw11⟩ : ∃ w11, w10.alloc (.cells (cellsK .u8 [3, 0]).toArray 5) = w11 := ⟨_, rfl⟩
  have hw11' : w10.alloc (.cells #[.int .u8 3, .int .u8 0] 5) = w11 := hw11
  rw [hw11] at hbA S1
  have KB11 := Kept.mk (KB10.out.trans (hbA.mono KB10.out.size))
  have hbw := Kb.out.later hbA (Nat.le_refl _)
  obtain ⟨bg, hba, -, -, -, hbc, -⟩ := hbw.addrq (by omega)
  subst hba
  have cb0 := hbc 0 (by omega)
  have cb1 := hbc 65540 (by omega)
  rw [hS2] at cb0
  rw [hS3] at cb1
  have S2 := same_any _ _ P P w11 (Kd.out.later hbA (Nat.le_refl _)).rd (Kl.out.later hbA (Nat.le_refl _)).rd KPa.out KPa.out
  rw [decide_eq_true rfl] at S2
  have S2 := Kept.mk S2
  clear hw11 hbA hbw hbc Ka Kl Kb Kd hP
  go_wp2_with (fail)
  refine Calls.mono S1.out (fun e wx hp => ?_)
  obtain ⟨rfl, rfl⟩ := hp
  go_wp2_with (fail)
  refine Calls.mono S2.out (fun e wx hp => ?_)
  obtain ⟨rfl, rfl⟩ := hp
  go_wp2
  go_ret
  exact ⟨rfl, KB11.out⟩
end Go.Proofs.YtjijkcmbbccfmaaDoor
