/-
  Walks: appendCopy.
-/
import Derived.Test.YtkidoknklgoffaaDP
namespace Go.Proofs.Ytkidoknklgoffaa
open Go.RowKit

set_option maxHeartbeats 2000000 in
set_option maxRecDepth 100000 in
theorem appendCopy_any (v : Value) (xs : List Int) (at_ n : Nat) (w : World) (base : Nat) (ho : Own .u8 5 w base v xs) (hbw : base ≤ w.heap.size) (_hat : at_ < 4294967296) (hn : n < 16777216) (hl : xs.length + 20 ≤ 140737488355328) :
    Calls Try.prog 24 #[v, .int .i64 at_, .int .i64 n] w fun e w' => ∃ v', e = .returned v' ∧ Own .u8 5 w' base v' (xs ++ cpL at_ n) ∧ Gb v.ownBlock w w' v' := by
  obtain ⟨i0, z0, hi, hz, hs, hb0, hc⟩ := info8
  obtain ⟨va, vc, rfl, -, -, -⟩ := ho.rd.form
  have ho1 := Kept.mk (ho.alloc (.cells #[.int .u8 128] 5))
  have hr1 := Kept.mk (Rd.one .u8 w 128 5)
  have KO := Kept.mk ho
  clear ho
  by_cases hn6 : n = 65536
  · subst hn6
    have hcp : Kept (cpL at_ ((65536 : Nat) : Int) = (cpA at_ 0 7).1 :: (cpA at_ 0 7).2) := ⟨rfl⟩
    go_enter Try.func24, Try.ntmps24
    go_wp2_with (at_builtin; refine wpList_append_rd _ rfl _ _ 22 rfl .u8 anyB 1 base 5 i0 z0 Try.underlying22 hi hz hs hb0 hc (by omega) (.slice va xs.length vc) xs rfl ho1.out _ [128] rfl hr1.out (by simp; omega) (by simp; omega) ?_; intro v2 w2 hown hgrow hat2; obtain ⟨na, nc, rfl, -, -, -⟩ := hown.rd.form; have KO2 := Kept.mk hown; have KG2 := Kept.mk hgrow; have KA2 := Kept.mk hat2; clear hown hgrow hat2)
    have hb2 := Kept.mk (((Gb.refl (.slice va xs.length vc) w).alloc (.cells #[.int .u8 128] 5)).grow KG2.out KA2.out)
    go_loopw [0, 17] (fun ov iv wr => ∃ (k : Nat), iv = .int .i64 k ∧ k ≤ 7 ∧ Own .u8 5 wr base ov (xs ++ (cpA at_ 0 k).1 :: (cpA at_ 0 k).2) ∧ Gb (Value.slice va xs.length vc).ownBlock w wr ov) (fun _ iv _ => 7 - (intOf iv).toNat)
    case atStart => exact ⟨0, rfl, by omega, by simpa [cpA] using KO2.out, by have := hb2.out; rw [List.length_append] at this; exact this⟩
    case round =>
      obtain ⟨k, rfl, hk, how, hbel⟩ := hrel
      obtain ⟨oa, oc, rfl, -, hocl, -⟩ := how.rd.form
      have hwz := hbel.size
      have KB := Kept.mk hbel
      clear hbel
      by_cases hk7 : k = 7
      · subst hk7
        have KW := Kept.mk how
        clear how hocl
        go_wp2
        go_ret
        exact ⟨_, rfl, by rw [hcp.out]; exact KW.out, KB.out⟩
      · have hkl : decide ((k : Int) < 7) = true := by simp; omega
        have hlen := cpA_len at_ 0 k
        have hrg := cpA_range at_ 0 k
        have hstep : Kept (cpA at_ 0 (k + 1) = if byF at_ 0 k = 0 then cpA at_ 0 k else ((cpA at_ 0 k).1 + 2 ^ k, (cpA at_ 0 k).2 ++ [byF at_ 0 k])) := ⟨rfl⟩
        have hcd : Kept (cpA at_ 0 k = ((cpA at_ 0 k).1, (cpA at_ 0 k).2)) := ⟨rfl⟩
        generalize (cpA at_ 0 k).1 = C at *
        generalize (cpA at_ 0 k).2 = L at *
        obtain ⟨g, rfl, -, hbg, hgl, hcells, hfz⟩ := how.addr (by simp; omega)
        have cg := hcells xs.length (by simp)
        rw [getD_mid] at cg
        have fg := hfz xs.length
        have hpw : (2 : Int) ^ k ≤ 64 := by
          have : (2 : Nat) ^ k ≤ 2 ^ 6 := Nat.pow_le_pow_right (by omega) (by omega)
          exact_mod_cast this
        have hpw0 : (0 : Int) < 2 ^ k := Int.pow_pos (by omega)
        have KOr : Kept (bits .or .u8 C (2 ^ k % 256) = C + 2 ^ k) := ⟨by rw [Int.emod_eq_of_lt (by omega) (by omega)]; exact or_bit C k (by omega) hrg.1 hrg.2⟩
        have KL : Kept (((xs ++ (C + 2 ^ k) :: L).length + 1) * 1 ≤ 140737488355328) := ⟨by simp; omega⟩
        have KW := Kept.mk how
        have KHr := Kept.mk (And.intro hrg hlen)
        clear how hcells hfz hpw hpw0 hrg hlen
        by_cases h4 : k < 4
        · have h4o : decide ((4 : Int) ≤ (k : Int)) = false := by simp; omega
          have hby : byF at_ 0 k = (at_ : Int) / 2 ^ (8 * k) % 256 := by unfold byF; rw [if_pos h4, show (256 : Int) ^ k = 2 ^ (8 * k) from by rw [Int.pow_mul]; rfl]
          by_cases hz0 : (at_ : Int) / 2 ^ (8 * k) % 256 = 0
          · have hzo : ((at_ : Int) / 2 ^ (8 * k) % 256 != 0) = false := by simpa using hz0
            have hst : cpA at_ 0 (k + 1) = (C, L) := by rw [hstep.out, if_pos (by rw [hby]; exact hz0), hcd.out]
            have KT := Kept.mk hst
            clear hst hz0 hby h4
            go_wp2
            go_roundw
            case rel => exact ⟨k + 1, rfl, by omega, by rw [KT.out]; exact KW.out, KB.out⟩
            case measure => simp [intOf]; omega
          · have hzo : ((at_ : Int) / 2 ^ (8 * k) % 256 != 0) = true := by simpa using hz0
            have hst : cpA at_ 0 (k + 1) = (C + 2 ^ k, L ++ [(at_ : Int) / 2 ^ (8 * k) % 256]) := by rw [hstep.out, if_neg (by rw [hby]; exact hz0), hby]
            have KT := Kept.mk hst
            clear hst hz0 hby h4
            go_upto_region 12 with fail
            generalize (at_ : Int) / 2 ^ (8 * k) % 256 = b at *
            generalize hM : (xs ++ C :: L).length = M at *
            have hMx : xs.length < M := by rw [← hM]; simp
            have hMx2 : (xs.length : Int) < (M : Int) := by omega
            have KM := Kept.mk hM
            clear hM
            refine wp_region_last _ 8 (by kernel_rfl) (by kernel_rfl) rfl rfl ?_
            simp only [List.take_succ_cons, List.take_zero]
            repeat (go_big_quiet_step (fail))
            refine wpQuiet_nil ?_
            intro m
            have hset : Own .u8 5 ((wr.drewN m).setCell ⟨g, xs.length, none⟩ (.int .u8 (bits .or .u8 C (2 ^ k % 256)))) base (.slice (some ⟨g, 0, none⟩) M oc) (xs ++ (C + 2 ^ k) :: L) := by
              have h1 := Own.set (w := wr.drewN m) KW.out xs.length (C + 2 ^ k)
              rw [set_mid] at h1
              rw [KOr.out]
              exact h1
            have KS1 := Kept.mk (hset.alloc (.cells #[.int .u8 b] 5))
            have hr1' := Rd.one .u8 ((wr.drewN m).setCell ⟨g, xs.length, none⟩ (.int .u8 (bits .or .u8 C (2 ^ k % 256)))) b 5
            have hsz1 : ((wr.drewN m).setCell ⟨g, xs.length, none⟩ (.int .u8 (bits .or .u8 C (2 ^ k % 256)))).heap.size = wr.heap.size := by simp
            rw [hsz1] at hr1'
            have KR1 := Kept.mk hr1'
            clear hr1' hsz1
            have KB1 := Kept.mk (((KB.out.drewN m).set rfl xs.length (.int .u8 (bits .or .u8 C (2 ^ k % 256)))).alloc (.cells #[.int .u8 b] 5))
            clear hset
            go_wp2_with (at_builtin; refine wpList_append_rd _ rfl _ _ 22 rfl .u8 anyB 1 base 5 i0 z0 Try.underlying22 hi hz hs hb0 hc (by omega) (.slice (some ⟨g, 0, none⟩) M oc) (xs ++ (C + 2 ^ k) :: L) rfl KS1.out _ [b] rfl KR1.out KL.out (by simp; omega) ?_; intro v4 w4 hown hgrow hat; obtain ⟨na4, nc4, rfl, -, -, -⟩ := hown.rd.form; have KO4 := Kept.mk hown; have KG4 := Kept.mk (KB1.out.grow hgrow hat); clear hown hgrow hat)
            go_roundw
            case rel =>
              have h1 := KO4.out
              have h2 := KG4.out
              simp only [List.length_append, List.length_cons, List.length_nil, List.append_assoc, List.cons_append, Nat.zero_add] at h1 h2
              exact ⟨k + 1, rfl, by omega, by rw [KT.out]; exact h1, h2⟩
            case measure => simp [intOf]; omega
        · obtain ⟨j, rfl⟩ : ∃ j, k = j + 4 := ⟨k - 4, by omega⟩
          have hj : decide ((j : Int) + 4 < 7) = true := by simp; omega
          have h4o : decide ((4 : Int) ≤ (j : Int) + 4) = true := by simp; omega
          have hby : byF at_ 0 (j + 4) = 0 := by unfold byF; rw [if_neg h4]; simp
          have hst : cpA at_ 0 (j + 4 + 1) = (C, L) := by rw [hstep.out, if_pos hby, hcd.out]
          have KT := Kept.mk hst
          clear hst hby h4
          go_wp2
          go_roundw
          case rel => exact ⟨j + 4 + 1, rfl, by omega, by rw [KT.out]; exact KW.out, KB.out⟩
          case measure => simp [intOf]; omega
  · have hno : ((n : Int) == 65536) = false := by simp; omega
    have hcp : Kept (cpL at_ n = (cpA at_ n 7).1 :: (cpA at_ n 7).2) := ⟨by unfold cpL; rw [if_neg (by omega)]⟩
    clear hn6
    go_enter Try.func24, Try.ntmps24
    go_wp2_with (at_builtin; refine wpList_append_rd _ rfl _ _ 22 rfl .u8 anyB 1 base 5 i0 z0 Try.underlying22 hi hz hs hb0 hc (by omega) (.slice va xs.length vc) xs rfl ho1.out _ [128] rfl hr1.out (by simp; omega) (by simp; omega) ?_; intro v2 w2 hown hgrow hat2; obtain ⟨na, nc, rfl, -, -, -⟩ := hown.rd.form; have KO2 := Kept.mk hown; have KG2 := Kept.mk hgrow; have KA2 := Kept.mk hat2; clear hown hgrow hat2)
    have hb2 := Kept.mk (((Gb.refl (.slice va xs.length vc) w).alloc (.cells #[.int .u8 128] 5)).grow KG2.out KA2.out)
    go_loopw [0, 17] (fun ov iv wr => ∃ (k : Nat), iv = .int .i64 k ∧ k ≤ 7 ∧ Own .u8 5 wr base ov (xs ++ (cpA at_ n k).1 :: (cpA at_ n k).2) ∧ Gb (Value.slice va xs.length vc).ownBlock w wr ov) (fun _ iv _ => 7 - (intOf iv).toNat)
    case atStart => exact ⟨0, rfl, by omega, by simpa [cpA] using KO2.out, by have := hb2.out; rw [List.length_append] at this; exact this⟩
    case round =>
      obtain ⟨k, rfl, hk, how, hbel⟩ := hrel
      obtain ⟨oa, oc, rfl, -, hocl, -⟩ := how.rd.form
      have hwz := hbel.size
      have KB := Kept.mk hbel
      clear hbel
      by_cases hk7 : k = 7
      · subst hk7
        have KW := Kept.mk how
        clear how hocl
        go_wp2
        go_ret
        exact ⟨_, rfl, by rw [hcp.out]; exact KW.out, KB.out⟩
      · have hkl : decide ((k : Int) < 7) = true := by simp; omega
        have hlen := cpA_len at_ n k
        have hrg := cpA_range at_ n k
        have hstep : Kept (cpA at_ n (k + 1) = if byF at_ n k = 0 then cpA at_ n k else ((cpA at_ n k).1 + 2 ^ k, (cpA at_ n k).2 ++ [byF at_ n k])) := ⟨rfl⟩
        have hcd : Kept (cpA at_ n k = ((cpA at_ n k).1, (cpA at_ n k).2)) := ⟨rfl⟩
        generalize (cpA at_ n k).1 = C at *
        generalize (cpA at_ n k).2 = L at *
        obtain ⟨g, rfl, -, hbg, hgl, hcells, hfz⟩ := how.addr (by simp; omega)
        have cg := hcells xs.length (by simp)
        rw [getD_mid] at cg
        have fg := hfz xs.length
        have hpw : (2 : Int) ^ k ≤ 64 := by
          have : (2 : Nat) ^ k ≤ 2 ^ 6 := Nat.pow_le_pow_right (by omega) (by omega)
          exact_mod_cast this
        have hpw0 : (0 : Int) < 2 ^ k := Int.pow_pos (by omega)
        have KOr : Kept (bits .or .u8 C (2 ^ k % 256) = C + 2 ^ k) := ⟨by rw [Int.emod_eq_of_lt (by omega) (by omega)]; exact or_bit C k (by omega) hrg.1 hrg.2⟩
        have KL : Kept (((xs ++ (C + 2 ^ k) :: L).length + 1) * 1 ≤ 140737488355328) := ⟨by simp; omega⟩
        have KW := Kept.mk how
        have KHr := Kept.mk (And.intro hrg hlen)
        clear how hcells hfz hpw hpw0 hrg hlen
        by_cases h4 : k < 4
        · have h4o : decide ((4 : Int) ≤ (k : Int)) = false := by simp; omega
          have hby : byF at_ n k = (at_ : Int) / 2 ^ (8 * k) % 256 := by unfold byF; rw [if_pos h4, show (256 : Int) ^ k = 2 ^ (8 * k) from by rw [Int.pow_mul]; rfl]
          by_cases hz0 : (at_ : Int) / 2 ^ (8 * k) % 256 = 0
          · have hzo : ((at_ : Int) / 2 ^ (8 * k) % 256 != 0) = false := by simpa using hz0
            have hst : cpA at_ n (k + 1) = (C, L) := by rw [hstep.out, if_pos (by rw [hby]; exact hz0), hcd.out]
            have KT := Kept.mk hst
            clear hst hz0 hby h4
            go_wp2
            go_roundw
            case rel => exact ⟨k + 1, rfl, by omega, by rw [KT.out]; exact KW.out, KB.out⟩
            case measure => simp [intOf]; omega
          · have hzo : ((at_ : Int) / 2 ^ (8 * k) % 256 != 0) = true := by simpa using hz0
            have hst : cpA at_ n (k + 1) = (C + 2 ^ k, L ++ [(at_ : Int) / 2 ^ (8 * k) % 256]) := by rw [hstep.out, if_neg (by rw [hby]; exact hz0), hby]
            have KT := Kept.mk hst
            clear hst hz0 hby h4
            go_upto_region 12 with fail
            generalize (at_ : Int) / 2 ^ (8 * k) % 256 = b at *
            generalize hM : (xs ++ C :: L).length = M at *
            have hMx : xs.length < M := by rw [← hM]; simp
            have hMx2 : (xs.length : Int) < (M : Int) := by omega
            have KM := Kept.mk hM
            clear hM
            refine wp_region_last _ 8 (by kernel_rfl) (by kernel_rfl) rfl rfl ?_
            simp only [List.take_succ_cons, List.take_zero]
            repeat (go_big_quiet_step (fail))
            refine wpQuiet_nil ?_
            intro m
            have hset : Own .u8 5 ((wr.drewN m).setCell ⟨g, xs.length, none⟩ (.int .u8 (bits .or .u8 C (2 ^ k % 256)))) base (.slice (some ⟨g, 0, none⟩) M oc) (xs ++ (C + 2 ^ k) :: L) := by
              have h1 := Own.set (w := wr.drewN m) KW.out xs.length (C + 2 ^ k)
              rw [set_mid] at h1
              rw [KOr.out]
              exact h1
            have KS1 := Kept.mk (hset.alloc (.cells #[.int .u8 b] 5))
            have hr1' := Rd.one .u8 ((wr.drewN m).setCell ⟨g, xs.length, none⟩ (.int .u8 (bits .or .u8 C (2 ^ k % 256)))) b 5
            have hsz1 : ((wr.drewN m).setCell ⟨g, xs.length, none⟩ (.int .u8 (bits .or .u8 C (2 ^ k % 256)))).heap.size = wr.heap.size := by simp
            rw [hsz1] at hr1'
            have KR1 := Kept.mk hr1'
            clear hr1' hsz1
            have KB1 := Kept.mk (((KB.out.drewN m).set rfl xs.length (.int .u8 (bits .or .u8 C (2 ^ k % 256)))).alloc (.cells #[.int .u8 b] 5))
            clear hset
            go_wp2_with (at_builtin; refine wpList_append_rd _ rfl _ _ 22 rfl .u8 anyB 1 base 5 i0 z0 Try.underlying22 hi hz hs hb0 hc (by omega) (.slice (some ⟨g, 0, none⟩) M oc) (xs ++ (C + 2 ^ k) :: L) rfl KS1.out _ [b] rfl KR1.out KL.out (by simp; omega) ?_; intro v4 w4 hown hgrow hat; obtain ⟨na4, nc4, rfl, -, -, -⟩ := hown.rd.form; have KO4 := Kept.mk hown; have KG4 := Kept.mk (KB1.out.grow hgrow hat); clear hown hgrow hat)
            go_roundw
            case rel =>
              have h1 := KO4.out
              have h2 := KG4.out
              simp only [List.length_append, List.length_cons, List.length_nil, List.append_assoc, List.cons_append, Nat.zero_add] at h1 h2
              exact ⟨k + 1, rfl, by omega, by rw [KT.out]; exact h1, h2⟩
            case measure => simp [intOf]; omega
        · obtain ⟨j, rfl⟩ : ∃ j, k = j + 4 := ⟨k - 4, by omega⟩
          have hj : decide ((j : Int) + 4 < 7) = true := by simp; omega
          have h4o : decide ((4 : Int) ≤ (j : Int) + 4) = true := by simp; omega
          have hby : byF at_ n (j + 4) = (n : Int) / 2 ^ (8 * j) % 256 := by unfold byF; rw [if_neg h4, Nat.add_sub_cancel, show (256 : Int) ^ j = 2 ^ (8 * j) from by rw [Int.pow_mul]; rfl]
          by_cases hz0 : (n : Int) / 2 ^ (8 * j) % 256 = 0
          · have hzo : ((n : Int) / 2 ^ (8 * j) % 256 != 0) = false := by simpa using hz0
            have hst : cpA at_ n (j + 4 + 1) = (C, L) := by rw [hstep.out, if_pos (by rw [hby]; exact hz0), hcd.out]
            have KT := Kept.mk hst
            clear hst hz0 hby h4
            go_wp2
            go_roundw
            case rel => exact ⟨j + 4 + 1, rfl, by omega, by rw [KT.out]; exact KW.out, KB.out⟩
            case measure => simp [intOf]; omega
          · have hzo : ((n : Int) / 2 ^ (8 * j) % 256 != 0) = true := by simpa using hz0
            have hst : cpA at_ n (j + 4 + 1) = (C + 2 ^ (j + 4), L ++ [(n : Int) / 2 ^ (8 * j) % 256]) := by rw [hstep.out, if_neg (by rw [hby]; exact hz0), hby]
            have KT := Kept.mk hst
            clear hst hz0 hby h4
            go_upto_region 12 with fail
            generalize (n : Int) / 2 ^ (8 * j) % 256 = b at *
            generalize hM : (xs ++ C :: L).length = M at *
            have hMx : xs.length < M := by rw [← hM]; simp
            have hMx2 : (xs.length : Int) < (M : Int) := by omega
            have KM := Kept.mk hM
            clear hM
            refine wp_region_last _ 8 (by kernel_rfl) (by kernel_rfl) rfl rfl ?_
            simp only [List.take_succ_cons, List.take_zero]
            repeat (go_big_quiet_step (fail))
            refine wpQuiet_nil ?_
            intro m
            have hset : Own .u8 5 ((wr.drewN m).setCell ⟨g, xs.length, none⟩ (.int .u8 (bits .or .u8 C (2 ^ (j + 4) % 256)))) base (.slice (some ⟨g, 0, none⟩) M oc) (xs ++ (C + 2 ^ (j + 4)) :: L) := by
              have h1 := Own.set (w := wr.drewN m) KW.out xs.length (C + 2 ^ (j + 4))
              rw [set_mid] at h1
              rw [KOr.out]
              exact h1
            have KS1 := Kept.mk (hset.alloc (.cells #[.int .u8 b] 5))
            have hr1' := Rd.one .u8 ((wr.drewN m).setCell ⟨g, xs.length, none⟩ (.int .u8 (bits .or .u8 C (2 ^ (j + 4) % 256)))) b 5
            have hsz1 : ((wr.drewN m).setCell ⟨g, xs.length, none⟩ (.int .u8 (bits .or .u8 C (2 ^ (j + 4) % 256)))).heap.size = wr.heap.size := by simp
            rw [hsz1] at hr1'
            have KR1 := Kept.mk hr1'
            clear hr1' hsz1
            have KB1 := Kept.mk (((KB.out.drewN m).set rfl xs.length (.int .u8 (bits .or .u8 C (2 ^ (j + 4) % 256)))).alloc (.cells #[.int .u8 b] 5))
            clear hset
            go_wp2_with (at_builtin; refine wpList_append_rd _ rfl _ _ 22 rfl .u8 anyB 1 base 5 i0 z0 Try.underlying22 hi hz hs hb0 hc (by omega) (.slice (some ⟨g, 0, none⟩) M oc) (xs ++ (C + 2 ^ (j + 4)) :: L) rfl KS1.out _ [b] rfl KR1.out KL.out (by simp; omega) ?_; intro v4 w4 hown hgrow hat; obtain ⟨na4, nc4, rfl, -, -, -⟩ := hown.rd.form; have KO4 := Kept.mk hown; have KG4 := Kept.mk (KB1.out.grow hgrow hat); clear hown hgrow hat)
            go_roundw
            case rel =>
              have h1 := KO4.out
              have h2 := KG4.out
              simp only [List.length_append, List.length_cons, List.length_nil, List.append_assoc, List.cons_append, Nat.zero_add] at h1 h2
              exact ⟨j + 4 + 1, rfl, by omega, by rw [KT.out]; exact h1, h2⟩
            case measure => simp [intOf]; omega
end Go.Proofs.Ytkidoknklgoffaa
