/-
  Walks: the law WholeTexts.
-/
import Derived.Test.YtjhcpmhjdhmjpaaWX5
namespace Go.Proofs.Ytjhcpmhjdhmjpaa
open Go.RowKit Go.Shelf

theorem last_of {S : Nat → Prop} {w : World} {p : Option Addr} {c : Nat} {xs : List Int} (h : Rd .u8 S w (.slice p xs.length c) xs) (h0 : 0 < xs.length) : ∃ b off x, p = some ⟨b, off, none⟩ ∧ b < w.heap.size ∧ w.cell? ⟨b, off + (xs.length - 1), none⟩ = some (.int .u8 x) ∧ xs.getLast? = some x := by
  obtain ⟨b, off, c', hv, hb, -, -, -, hcs⟩ := h.open h0
  injection hv with e1 e2 e3
  refine ⟨b, off, xs.getD (xs.length - 1) 0, e1, hb, hcs _ (by omega), ?_⟩
  rw [List.getLast?_eq_getElem?, List.getD, List.getElem?_eq_getElem (by omega)]
  rfl
set_option maxHeartbeats 8000000 in
set_option maxRecDepth 100000 in
theorem texts_walk {S S' : Nat → Prop} (va vb : Value) (xs ys : List Int) (w : World) (ha : Rd .u8 S w va xs) (hb : Rd .u8 S' w vb ys) (hx : AllB xs) (hy : AllB ys) :
    Calls Try.prog 7 #[va, vb] w fun e w' => e = .returned (.bool true) ∧ Below w.heap.size w w' := by
  have K0 := Kept.mk (awake11_any w)
  obtain ⟨pa, ca, rfl, -⟩ := ha.form
  obtain ⟨pb, cb, rfl, -⟩ := hb.form
  have KA := Kept.mk ha
  have KBb := Kept.mk hb
  have KX := Kept.mk hx
  have KY := Kept.mk hy
  clear ha hb hx hy
  go_enter Try.func7, Try.ntmps7
  go_wp2_with fail
  refine Calls.mono K0.out (fun e w1 hp => ?_)
  obtain ⟨rfl, hb1⟩ := hp
  have KB1 := Kept.mk hb1
  have Ka1 := Kept.mk (KA.out.later hb1 (Nat.le_refl _))
  have Kb1 := Kept.mk (KBb.out.later hb1 (Nat.le_refl _))
  clear hb1 K0
  by_cases j1 : (1500 : Int) < (xs.length : Int)
  · go_wp2
    go_ret
    exact ⟨rfl, KB1.out⟩
  by_cases j2 : (1500 : Int) < (ys.length : Int)
  · go_wp2
    go_ret
    exact ⟨rfl, KB1.out⟩
  have lx : xs.length ≤ 1500 := by omega
  have ly : ys.length ≤ 1500 := by omega
  have KLa : Kept (∀ W, Below w.heap.size w W → Calls Try.prog 21 #[.slice pa xs.length ca] W fun e w' => ∃ p c, e = .returned (.slice p (lnS xs).length c) ∧ RdS w' (.slice p (lnS xs).length c) (lnS xs) ∧ Below W.heap.size W w') := ⟨fun W hW => by
    refine (lines_any _ xs W (KA.out.later hW (Nat.le_refl _)) KX.out (by omega)).mono (fun e w' hp => ?_)
    obtain ⟨v', rfl, ho, hb⟩ := hp
    obtain ⟨p, c, hv⟩ := ho.form
    exact ⟨p, c, by rw [hv], by rw [← hv]; exact ho.rd, hb⟩⟩
  have KLb : Kept (∀ W, Below w.heap.size w W → Calls Try.prog 21 #[.slice pb ys.length cb] W fun e w' => ∃ p c, e = .returned (.slice p (lnS ys).length c) ∧ RdS w' (.slice p (lnS ys).length c) (lnS ys) ∧ Below W.heap.size W w') := ⟨fun W hW => by
    refine (lines_any _ ys W (KBb.out.later hW (Nat.le_refl _)) KY.out (by omega)).mono (fun e w' hp => ?_)
    obtain ⟨v', rfl, ho, hb⟩ := hp
    obtain ⟨p, c, hv⟩ := ho.form
    exact ⟨p, c, by rw [hv], by rw [← hv]; exact ho.rd, hb⟩⟩
  by_cases za : xs.length = 0
  · have a0 : ¬ (0 : Int) < (xs.length : Int) := by omega
    have ex : xs = [] ∨ xs.getLast? = some 10 := .inl (List.eq_nil_of_length_eq_zero za)
    by_cases zb : ys.length = 0
    · have b0 : ¬ (0 : Int) < (ys.length : Int) := by omega
      have ey : ys = [] ∨ ys.getLast? = some 10 := .inl (List.eq_nil_of_length_eq_zero zb)
      clear za zb
      have KT := Kept.mk (told_texts KX.out KY.out ex ey lx ly)
      have K1 := Kept.mk (KLa.out w1 KB1.out)
      clear ex ey
      go_wp2_with fail
      refine Calls.mono K1.out (fun e w2 hp => ?_)
      obtain ⟨p2, c2, rfl, -, hb2⟩ := hp
      have KB2 := Kept.mk (KB1.out.trans (hb2.mono KB1.out.size))
      have K2 := Kept.mk (KLb.out w2 KB2.out)
      clear hb2 K1
      by_cases j3 : (300 : Int) < ((lnS xs).length : Int)
      · go_wp2
        go_ret
        exact ⟨rfl, KB2.out⟩
      go_wp2_with fail
      refine Calls.mono K2.out (fun e w3 hp => ?_)
      obtain ⟨p3, c3, rfl, -, hb3⟩ := hp
      have KB3 := Kept.mk (KB2.out.trans (hb3.mono KB2.out.size))
      have K3 := Kept.mk (KLa.out w3 KB3.out)
      clear hb3 K2
      by_cases j4 : (300 : Int) < ((lnS ys).length : Int)
      · go_wp2
        go_ret
        exact ⟨rfl, KB3.out⟩
      obtain ⟨LL, t1, t2, t3, t4, t5, t6, t7⟩ := KT.out
      have KzX : Kept (∀ s ∈ lnS xs, s.size ≤ maxLen) := ⟨fun s hs => by have := wt_size rfl s hs; unfold maxLen; omega⟩
      have KzY : Kept (∀ s ∈ lnS ys, s.size ≤ maxLen) := ⟨fun s hs => by have := wt_size rfl s hs; unfold maxLen; omega⟩
      have KcA : Kept (∀ W, Below w.heap.size w W → (convert 42 9 (.slice pa xs.length ca)).run Try.prog W = .ok (.string (strOfNums xs)) W) := ⟨fun W hW => text_of (KA.out.later hW (Nat.le_refl _))⟩
      have KcB : Kept (∀ W, Below w.heap.size w W → (convert 42 9 (.slice pb ys.length cb)).run Try.prog W = .ok (.string (strOfNums ys)) W) := ⟨fun W hW => text_of (KBb.out.later hW (Nat.le_refl _))⟩
      have Kt1 := Kept.mk t1
      have Kt2 := Kept.mk t2
      have Kt5 := Kept.mk t5
      have Kt6 := Kept.mk t6
      clear t1 t2 t5 KT
      go_wp2_with fail
      refine Calls.mono K3.out (fun e w4 hp => ?_)
      obtain ⟨p4, c4, rfl, hr4, hb4⟩ := hp
      have KB4 := Kept.mk (KB3.out.trans (hb4.mono KB3.out.size))
      have KX4 := Kept.mk hr4
      have K4 := Kept.mk (KLb.out w4 KB4.out)
      clear hb4 hr4 K3
      go_wp2_with fail
      refine Calls.mono K4.out (fun e w5 hp => ?_)
      obtain ⟨p5, c5, rfl, hr5, hb5⟩ := hp
      have KB5 := Kept.mk (KB4.out.trans (hb5.mono KB4.out.size))
      have KX5 := Kept.mk (KX4.out.later hb5 (Nat.le_refl _))
      have KY5 := Kept.mk hr5
      have K5 := Kept.mk (textAll_any _ _ (lnS xs) (lnS ys) w5 KX5.out KY5.out KzX.out KzY.out (by omega) (by omega) (by rw [Kt1.out]; omega))
      rw [Kt1.out] at K5
      clear hb5 hr5 K4 KX4
      go_wp2_with fail
      refine Calls.mono K5.out (fun e w6 hp => ?_)
      obtain ⟨hb6, rfl⟩ := hp
      have KB6 := Kept.mk (KB5.out.trans (hb6.mono KB5.out.size))
      have K6 : Kept (Calls Try.prog 13 #[.slice p4 (lnS xs).length c4, .slice p5 (lnS ys).length c5] w6 fun e w' => e = .returned (.tuple #[.int .i64 (rst (lnS xs) (lnS ys) : Nat), .int .i64 0]) ∧ Below w6.heap.size w6 w') := ⟨by
        have h := rest_any _ _ (lnS xs) (lnS ys) w6 (KX5.out.later hb6 (Nat.le_refl _)) (KY5.out.later hb6 (Nat.le_refl _)) KzX.out KzY.out
        rw [if_neg (by unfold longB; simp; omega)] at h
        exact h⟩
      clear hb6 K5
      go_wp2_with fail
      refine Calls.mono K6.out (fun e w7 hp => ?_)
      obtain ⟨rfl, hb7⟩ := hp
      have KB7 := Kept.mk (KB6.out.trans (hb7.mono KB6.out.size))
      have Kd : Kept ((mkB LL.flatten).data.toList = LL.flatten) := ⟨by simp [mkB]⟩
      have Ksz : Kept ((mkB LL.flatten).size ≤ 100000) := ⟨by rw [mkB_size]; exact Kt6.out⟩
      have K7 := Kept.mk (sides_any (mkB LL.flatten) LL w7 Kd.out Kt2.out (by have := Ksz.out; omega))
      rw [t3, t4] at K7
      rw [← Kt5.out]
      clear hb7 K6 t3 t4
      go_wp2_with fail
      refine Calls.mono K7.out (fun e w8 hp => ?_)
      obtain ⟨rfl, hb8⟩ := hp
      have KB8 := Kept.mk (KB7.out.trans (hb8.mono KB7.out.size))
      obtain ⟨W9, v9, hrun, hrd, hB9⟩ := text_rd w8 (mkB LL.flatten) (by have := Ksz.out; omega)
      have hln : lnS (strL (mkB LL.flatten)) = LL.map mkB := by
        have h := lnS_told Kt2.out
        rw [← Kd.out] at h
        exact h
      have K8 := Kept.mk (docLines_any v9 (strL (mkB LL.flatten)) W9 hrd (by rw [strL_length]; have := Ksz.out; omega))
      rw [hln] at K8
      obtain ⟨a9, c9, hv9, -⟩ := hrd.form
      rw [hv9] at K8 hrun
      have KB9 := Kept.mk (KB8.out.trans (hB9.mono KB8.out.size))
      clear hb8 K7 hrd hB9 hln hv9
      go_wp2_with fail
      refine Calls.mono K8.out (fun e w10 hp => ?_)
      obtain ⟨v10, rfl, ho10, hb10⟩ := hp
      obtain ⟨p10, c10, hv10⟩ := ho10.form
      subst hv10
      have KB10 := Kept.mk (KB9.out.trans (hb10.mono KB9.out.size))
      have KO := Kept.mk ho10.rd
      have KL : Kept (∀ i l, LL[i]? = some l → ∃ b off, p10 = some ⟨b, off, none⟩ ∧ w10.cell? ⟨b, off + i, none⟩ = some (.string (mkB l))) := ⟨fun i l hl => by
        obtain ⟨p', c', he, -, hr⟩ := KO.out
        have h0 : 0 < ((LL.map mkB).map Value.string).length := by rw [List.length_map, List.length_map]; have := (List.getElem?_eq_some_iff.1 hl).1; omega
        obtain ⟨b, off, hp, -, hrr⟩ := hr h0
        injection he with e1 e2 e3
        exact ⟨b, off, by rw [e1, hp], hrr i _ (by rw [List.getElem?_map, List.getElem?_map, hl]; rfl)⟩⟩
      rw [List.length_map]
      have hcA := KcA.out w10 KB10.out
      have hcB := KcB.out w10 KB10.out
      have qA : ((strOfNums xs).toList == (strOfNums xs).toList) = true := beq_self_eq_true _
      have qB : ((strOfNums ys).toList == (strOfNums ys).toList) = true := beq_self_eq_true _
      generalize strOfNums xs = sx at *
      generalize strOfNums ys = sy at *
      clear K8 ho10 hb10 hrun KO KcA KcB
      go_upto_region 13 with fail
      go_loopw [14, 99] (fun cv iv wr => ∃ i : Nat, i ≤ LL.length ∧ cv = .int .i64 (sdC (LL.take i) : Nat) ∧ iv = .int .i64 i ∧ wr = w10) (fun _ iv _ => LL.length - (intOf iv).toNat)
      case atStart => exact ⟨0, Nat.zero_le _, rfl, rfl, rfl⟩
      case round =>
        obtain ⟨i, hil, rfl, rfl, rfl⟩ := hrel
        by_cases hlt : i < LL.length
        · have hii : (i : Int) < (LL.length : Int) := by omega
          have m0 : (0 : Int) ≤ (i : Int) := by omega
          have m1 : IntKind.i64.wrap ((i : Int) + 1) = (i : Int) + 1 := wr64 (by omega) (by omega)
          obtain ⟨l, hl⟩ : ∃ l, LL[i]? = some l := ⟨_, List.getElem?_eq_getElem hlt⟩
          obtain ⟨b, off, hp, hcell⟩ := KL.out i l hl
          subst hp
          obtain ⟨-, -, e3⟩ := sd_snoc hl
          have hle := sdC_le (LL.take i)
          rw [List.length_take] at hle
          obtain ⟨sg, s, rfl, hsg, -⟩ := Kt2.out l (List.mem_of_getElem? hl)
          have hidx := mkB_idx sg s wr
          have hz : (0 : Int) < ((mkB (sg :: s)).size : Int) := by rw [mkB_size, List.length_cons]; omega
          have m2 : IntKind.i64.wrap (((sdC (LL.take i) : Nat) : Int) + 1) = ((sdC (LL.take i) : Nat) : Int) + 1 := wr64 (by omega) (by omega)
          by_cases hsp : sg = 32
          · subst hsp
            have KC : Kept (sdC (LL.take (i + 1)) = sdC (LL.take i)) := ⟨by rw [e3]; rfl⟩
            have hbyte : (((32 : UInt8).toNat : Nat) : Int) = 32 := rfl
            rw [hbyte] at hidx
            clear e3 hl hle hbyte hsg
            generalize mkB (32 :: s) = S1 at *
            go_wp2
            go_roundw
            case rel => exact ⟨i + 1, hlt, by rw [KC.out], by go_num, trivial⟩
            case measure => simp [intOf]; omega
          · have KC : Kept (sdC (LL.take (i + 1)) = sdC (LL.take i) + 1) := ⟨by rw [e3]; show _ + (if sg = 32 then 0 else 1) = _; rw [if_neg hsp]⟩
            have hne : (((sg.toNat : Nat) : Int) == 32) = false := by
              apply beq_eq_false_iff_ne.2
              intro e
              apply hsp
              apply UInt8.toNat_inj.1
              have : sg.toNat = 32 := by omega
              rw [this]; rfl
            generalize ((sg.toNat : Nat) : Int) = z at *
            clear e3 hl hle hsg hsp
            generalize mkB (sg :: s) = S1 at *
            go_wp2
            go_roundw
            case rel => exact ⟨i + 1, hlt, by rw [KC.out]; go_num, by go_num, trivial⟩
            case measure => simp [intOf]; omega
        · have hii : ¬ (i : Int) < (LL.length : Int) := by omega
          obtain rfl : i = LL.length := by omega
          rw [List.take_length]
          have hq : (((sdC LL : Nat) : Int) == ((sdC LL : Nat) : Int)) = true := beq_self_eq_true _
          go_wp2
          go_ret
          exact ⟨rfl, KB10.out⟩
    · skip
      obtain ⟨bb, ob, xb, hpb, -, ccb, hlb⟩ := last_of Kb1.out (by omega)
      subst hpb
      have b1 : (0 : Int) < (ys.length : Int) := by omega
      have b2 : IntKind.i64.wrap ((ys.length : Int) - 1) = (ys.length : Int) - 1 := wr64 (by omega) (by omega)
      have b3 : (0 : Int) ≤ (ys.length : Int) - 1 := by omega
      have b4 : (ys.length : Int) - 1 < (ys.length : Int) := by omega
      have b5 : ((ys.length : Int) - 1).toNat = ys.length - 1 := by omega
      by_cases eb : xb = 10
      · subst eb
        have ey : ys = [] ∨ ys.getLast? = some 10 := .inr hlb
        clear za zb hlb
        have KT := Kept.mk (told_texts KX.out KY.out ex ey lx ly)
        have K1 := Kept.mk (KLa.out w1 KB1.out)
        clear ex ey
        go_wp2_with fail
        refine Calls.mono K1.out (fun e w2 hp => ?_)
        obtain ⟨p2, c2, rfl, -, hb2⟩ := hp
        have KB2 := Kept.mk (KB1.out.trans (hb2.mono KB1.out.size))
        have K2 := Kept.mk (KLb.out w2 KB2.out)
        clear hb2 K1
        by_cases j3 : (300 : Int) < ((lnS xs).length : Int)
        · go_wp2
          go_ret
          exact ⟨rfl, KB2.out⟩
        go_wp2_with fail
        refine Calls.mono K2.out (fun e w3 hp => ?_)
        obtain ⟨p3, c3, rfl, -, hb3⟩ := hp
        have KB3 := Kept.mk (KB2.out.trans (hb3.mono KB2.out.size))
        have K3 := Kept.mk (KLa.out w3 KB3.out)
        clear hb3 K2
        by_cases j4 : (300 : Int) < ((lnS ys).length : Int)
        · go_wp2
          go_ret
          exact ⟨rfl, KB3.out⟩
        obtain ⟨LL, t1, t2, t3, t4, t5, t6, t7⟩ := KT.out
        have KzX : Kept (∀ s ∈ lnS xs, s.size ≤ maxLen) := ⟨fun s hs => by have := wt_size rfl s hs; unfold maxLen; omega⟩
        have KzY : Kept (∀ s ∈ lnS ys, s.size ≤ maxLen) := ⟨fun s hs => by have := wt_size rfl s hs; unfold maxLen; omega⟩
        have KcA : Kept (∀ W, Below w.heap.size w W → (convert 42 9 (.slice pa xs.length ca)).run Try.prog W = .ok (.string (strOfNums xs)) W) := ⟨fun W hW => text_of (KA.out.later hW (Nat.le_refl _))⟩
        have KcB : Kept (∀ W, Below w.heap.size w W → (convert 42 9 (.slice (some ⟨bb, ob, none⟩) ys.length cb)).run Try.prog W = .ok (.string (strOfNums ys)) W) := ⟨fun W hW => text_of (KBb.out.later hW (Nat.le_refl _))⟩
        have Kt1 := Kept.mk t1
        have Kt2 := Kept.mk t2
        have Kt5 := Kept.mk t5
        have Kt6 := Kept.mk t6
        clear t1 t2 t5 KT
        go_wp2_with fail
        refine Calls.mono K3.out (fun e w4 hp => ?_)
        obtain ⟨p4, c4, rfl, hr4, hb4⟩ := hp
        have KB4 := Kept.mk (KB3.out.trans (hb4.mono KB3.out.size))
        have KX4 := Kept.mk hr4
        have K4 := Kept.mk (KLb.out w4 KB4.out)
        clear hb4 hr4 K3
        go_wp2_with fail
        refine Calls.mono K4.out (fun e w5 hp => ?_)
        obtain ⟨p5, c5, rfl, hr5, hb5⟩ := hp
        have KB5 := Kept.mk (KB4.out.trans (hb5.mono KB4.out.size))
        have KX5 := Kept.mk (KX4.out.later hb5 (Nat.le_refl _))
        have KY5 := Kept.mk hr5
        have K5 := Kept.mk (textAll_any _ _ (lnS xs) (lnS ys) w5 KX5.out KY5.out KzX.out KzY.out (by omega) (by omega) (by rw [Kt1.out]; omega))
        rw [Kt1.out] at K5
        clear hb5 hr5 K4 KX4
        go_wp2_with fail
        refine Calls.mono K5.out (fun e w6 hp => ?_)
        obtain ⟨hb6, rfl⟩ := hp
        have KB6 := Kept.mk (KB5.out.trans (hb6.mono KB5.out.size))
        have K6 : Kept (Calls Try.prog 13 #[.slice p4 (lnS xs).length c4, .slice p5 (lnS ys).length c5] w6 fun e w' => e = .returned (.tuple #[.int .i64 (rst (lnS xs) (lnS ys) : Nat), .int .i64 0]) ∧ Below w6.heap.size w6 w') := ⟨by
          have h := rest_any _ _ (lnS xs) (lnS ys) w6 (KX5.out.later hb6 (Nat.le_refl _)) (KY5.out.later hb6 (Nat.le_refl _)) KzX.out KzY.out
          rw [if_neg (by unfold longB; simp; omega)] at h
          exact h⟩
        clear hb6 K5
        go_wp2_with fail
        refine Calls.mono K6.out (fun e w7 hp => ?_)
        obtain ⟨rfl, hb7⟩ := hp
        have KB7 := Kept.mk (KB6.out.trans (hb7.mono KB6.out.size))
        have Kd : Kept ((mkB LL.flatten).data.toList = LL.flatten) := ⟨by simp [mkB]⟩
        have Ksz : Kept ((mkB LL.flatten).size ≤ 100000) := ⟨by rw [mkB_size]; exact Kt6.out⟩
        have K7 := Kept.mk (sides_any (mkB LL.flatten) LL w7 Kd.out Kt2.out (by have := Ksz.out; omega))
        rw [t3, t4] at K7
        rw [← Kt5.out]
        clear hb7 K6 t3 t4
        go_wp2_with fail
        refine Calls.mono K7.out (fun e w8 hp => ?_)
        obtain ⟨rfl, hb8⟩ := hp
        have KB8 := Kept.mk (KB7.out.trans (hb8.mono KB7.out.size))
        obtain ⟨W9, v9, hrun, hrd, hB9⟩ := text_rd w8 (mkB LL.flatten) (by have := Ksz.out; omega)
        have hln : lnS (strL (mkB LL.flatten)) = LL.map mkB := by
          have h := lnS_told Kt2.out
          rw [← Kd.out] at h
          exact h
        have K8 := Kept.mk (docLines_any v9 (strL (mkB LL.flatten)) W9 hrd (by rw [strL_length]; have := Ksz.out; omega))
        rw [hln] at K8
        obtain ⟨a9, c9, hv9, -⟩ := hrd.form
        rw [hv9] at K8 hrun
        have KB9 := Kept.mk (KB8.out.trans (hB9.mono KB8.out.size))
        clear hb8 K7 hrd hB9 hln hv9
        go_wp2_with fail
        refine Calls.mono K8.out (fun e w10 hp => ?_)
        obtain ⟨v10, rfl, ho10, hb10⟩ := hp
        obtain ⟨p10, c10, hv10⟩ := ho10.form
        subst hv10
        have KB10 := Kept.mk (KB9.out.trans (hb10.mono KB9.out.size))
        have KO := Kept.mk ho10.rd
        have KL : Kept (∀ i l, LL[i]? = some l → ∃ b off, p10 = some ⟨b, off, none⟩ ∧ w10.cell? ⟨b, off + i, none⟩ = some (.string (mkB l))) := ⟨fun i l hl => by
          obtain ⟨p', c', he, -, hr⟩ := KO.out
          have h0 : 0 < ((LL.map mkB).map Value.string).length := by rw [List.length_map, List.length_map]; have := (List.getElem?_eq_some_iff.1 hl).1; omega
          obtain ⟨b, off, hp, -, hrr⟩ := hr h0
          injection he with e1 e2 e3
          exact ⟨b, off, by rw [e1, hp], hrr i _ (by rw [List.getElem?_map, List.getElem?_map, hl]; rfl)⟩⟩
        rw [List.length_map]
        have hcA := KcA.out w10 KB10.out
        have hcB := KcB.out w10 KB10.out
        have qA : ((strOfNums xs).toList == (strOfNums xs).toList) = true := beq_self_eq_true _
        have qB : ((strOfNums ys).toList == (strOfNums ys).toList) = true := beq_self_eq_true _
        generalize strOfNums xs = sx at *
        generalize strOfNums ys = sy at *
        clear K8 ho10 hb10 hrun KO KcA KcB
        go_upto_region 13 with fail
        go_loopw [14, 99] (fun cv iv wr => ∃ i : Nat, i ≤ LL.length ∧ cv = .int .i64 (sdC (LL.take i) : Nat) ∧ iv = .int .i64 i ∧ wr = w10) (fun _ iv _ => LL.length - (intOf iv).toNat)
        case atStart => exact ⟨0, Nat.zero_le _, rfl, rfl, rfl⟩
        case round =>
          obtain ⟨i, hil, rfl, rfl, rfl⟩ := hrel
          by_cases hlt : i < LL.length
          · have hii : (i : Int) < (LL.length : Int) := by omega
            have m0 : (0 : Int) ≤ (i : Int) := by omega
            have m1 : IntKind.i64.wrap ((i : Int) + 1) = (i : Int) + 1 := wr64 (by omega) (by omega)
            obtain ⟨l, hl⟩ : ∃ l, LL[i]? = some l := ⟨_, List.getElem?_eq_getElem hlt⟩
            obtain ⟨b, off, hp, hcell⟩ := KL.out i l hl
            subst hp
            obtain ⟨-, -, e3⟩ := sd_snoc hl
            have hle := sdC_le (LL.take i)
            rw [List.length_take] at hle
            obtain ⟨sg, s, rfl, hsg, -⟩ := Kt2.out l (List.mem_of_getElem? hl)
            have hidx := mkB_idx sg s wr
            have hz : (0 : Int) < ((mkB (sg :: s)).size : Int) := by rw [mkB_size, List.length_cons]; omega
            have m2 : IntKind.i64.wrap (((sdC (LL.take i) : Nat) : Int) + 1) = ((sdC (LL.take i) : Nat) : Int) + 1 := wr64 (by omega) (by omega)
            by_cases hsp : sg = 32
            · subst hsp
              have KC : Kept (sdC (LL.take (i + 1)) = sdC (LL.take i)) := ⟨by rw [e3]; rfl⟩
              have hbyte : (((32 : UInt8).toNat : Nat) : Int) = 32 := rfl
              rw [hbyte] at hidx
              clear e3 hl hle hbyte hsg
              generalize mkB (32 :: s) = S1 at *
              go_wp2
              go_roundw
              case rel => exact ⟨i + 1, hlt, by rw [KC.out], by go_num, trivial⟩
              case measure => simp [intOf]; omega
            · have KC : Kept (sdC (LL.take (i + 1)) = sdC (LL.take i) + 1) := ⟨by rw [e3]; show _ + (if sg = 32 then 0 else 1) = _; rw [if_neg hsp]⟩
              have hne : (((sg.toNat : Nat) : Int) == 32) = false := by
                apply beq_eq_false_iff_ne.2
                intro e
                apply hsp
                apply UInt8.toNat_inj.1
                have : sg.toNat = 32 := by omega
                rw [this]; rfl
              generalize ((sg.toNat : Nat) : Int) = z at *
              clear e3 hl hle hsg hsp
              generalize mkB (sg :: s) = S1 at *
              go_wp2
              go_roundw
              case rel => exact ⟨i + 1, hlt, by rw [KC.out]; go_num, by go_num, trivial⟩
              case measure => simp [intOf]; omega
          · have hii : ¬ (i : Int) < (LL.length : Int) := by omega
            obtain rfl : i = LL.length := by omega
            rw [List.take_length]
            have hq : (((sdC LL : Nat) : Int) == ((sdC LL : Nat) : Int)) = true := beq_self_eq_true _
            go_wp2
            go_ret
            exact ⟨rfl, KB10.out⟩
      · skip
        have nb : (xb == (10 : Int)) = false := beq_eq_false_iff_ne.2 eb
        go_wp2
        go_ret
        exact ⟨rfl, KB1.out⟩
  · skip
    obtain ⟨ba, oa, xa, hpa, -, cca, hla⟩ := last_of Ka1.out (by omega)
    subst hpa
    have a1 : (0 : Int) < (xs.length : Int) := by omega
    have a2 : IntKind.i64.wrap ((xs.length : Int) - 1) = (xs.length : Int) - 1 := wr64 (by omega) (by omega)
    have a3 : (0 : Int) ≤ (xs.length : Int) - 1 := by omega
    have a4 : (xs.length : Int) - 1 < (xs.length : Int) := by omega
    have a5 : ((xs.length : Int) - 1).toNat = xs.length - 1 := by omega
    by_cases ea : xa = 10
    · subst ea
      have ex : xs = [] ∨ xs.getLast? = some 10 := .inr hla
      by_cases zb : ys.length = 0
      · have b0 : ¬ (0 : Int) < (ys.length : Int) := by omega
        have ey : ys = [] ∨ ys.getLast? = some 10 := .inl (List.eq_nil_of_length_eq_zero zb)
        clear za zb hla
        have KT := Kept.mk (told_texts KX.out KY.out ex ey lx ly)
        have K1 := Kept.mk (KLa.out w1 KB1.out)
        clear ex ey
        go_wp2_with fail
        refine Calls.mono K1.out (fun e w2 hp => ?_)
        obtain ⟨p2, c2, rfl, -, hb2⟩ := hp
        have KB2 := Kept.mk (KB1.out.trans (hb2.mono KB1.out.size))
        have K2 := Kept.mk (KLb.out w2 KB2.out)
        clear hb2 K1
        by_cases j3 : (300 : Int) < ((lnS xs).length : Int)
        · go_wp2
          go_ret
          exact ⟨rfl, KB2.out⟩
        go_wp2_with fail
        refine Calls.mono K2.out (fun e w3 hp => ?_)
        obtain ⟨p3, c3, rfl, -, hb3⟩ := hp
        have KB3 := Kept.mk (KB2.out.trans (hb3.mono KB2.out.size))
        have K3 := Kept.mk (KLa.out w3 KB3.out)
        clear hb3 K2
        by_cases j4 : (300 : Int) < ((lnS ys).length : Int)
        · go_wp2
          go_ret
          exact ⟨rfl, KB3.out⟩
        obtain ⟨LL, t1, t2, t3, t4, t5, t6, t7⟩ := KT.out
        have KzX : Kept (∀ s ∈ lnS xs, s.size ≤ maxLen) := ⟨fun s hs => by have := wt_size rfl s hs; unfold maxLen; omega⟩
        have KzY : Kept (∀ s ∈ lnS ys, s.size ≤ maxLen) := ⟨fun s hs => by have := wt_size rfl s hs; unfold maxLen; omega⟩
        have KcA : Kept (∀ W, Below w.heap.size w W → (convert 42 9 (.slice (some ⟨ba, oa, none⟩) xs.length ca)).run Try.prog W = .ok (.string (strOfNums xs)) W) := ⟨fun W hW => text_of (KA.out.later hW (Nat.le_refl _))⟩
        have KcB : Kept (∀ W, Below w.heap.size w W → (convert 42 9 (.slice pb ys.length cb)).run Try.prog W = .ok (.string (strOfNums ys)) W) := ⟨fun W hW => text_of (KBb.out.later hW (Nat.le_refl _))⟩
        have Kt1 := Kept.mk t1
        have Kt2 := Kept.mk t2
        have Kt5 := Kept.mk t5
        have Kt6 := Kept.mk t6
        clear t1 t2 t5 KT
        go_wp2_with fail
        refine Calls.mono K3.out (fun e w4 hp => ?_)
        obtain ⟨p4, c4, rfl, hr4, hb4⟩ := hp
        have KB4 := Kept.mk (KB3.out.trans (hb4.mono KB3.out.size))
        have KX4 := Kept.mk hr4
        have K4 := Kept.mk (KLb.out w4 KB4.out)
        clear hb4 hr4 K3
        go_wp2_with fail
        refine Calls.mono K4.out (fun e w5 hp => ?_)
        obtain ⟨p5, c5, rfl, hr5, hb5⟩ := hp
        have KB5 := Kept.mk (KB4.out.trans (hb5.mono KB4.out.size))
        have KX5 := Kept.mk (KX4.out.later hb5 (Nat.le_refl _))
        have KY5 := Kept.mk hr5
        have K5 := Kept.mk (textAll_any _ _ (lnS xs) (lnS ys) w5 KX5.out KY5.out KzX.out KzY.out (by omega) (by omega) (by rw [Kt1.out]; omega))
        rw [Kt1.out] at K5
        clear hb5 hr5 K4 KX4
        go_wp2_with fail
        refine Calls.mono K5.out (fun e w6 hp => ?_)
        obtain ⟨hb6, rfl⟩ := hp
        have KB6 := Kept.mk (KB5.out.trans (hb6.mono KB5.out.size))
        have K6 : Kept (Calls Try.prog 13 #[.slice p4 (lnS xs).length c4, .slice p5 (lnS ys).length c5] w6 fun e w' => e = .returned (.tuple #[.int .i64 (rst (lnS xs) (lnS ys) : Nat), .int .i64 0]) ∧ Below w6.heap.size w6 w') := ⟨by
          have h := rest_any _ _ (lnS xs) (lnS ys) w6 (KX5.out.later hb6 (Nat.le_refl _)) (KY5.out.later hb6 (Nat.le_refl _)) KzX.out KzY.out
          rw [if_neg (by unfold longB; simp; omega)] at h
          exact h⟩
        clear hb6 K5
        go_wp2_with fail
        refine Calls.mono K6.out (fun e w7 hp => ?_)
        obtain ⟨rfl, hb7⟩ := hp
        have KB7 := Kept.mk (KB6.out.trans (hb7.mono KB6.out.size))
        have Kd : Kept ((mkB LL.flatten).data.toList = LL.flatten) := ⟨by simp [mkB]⟩
        have Ksz : Kept ((mkB LL.flatten).size ≤ 100000) := ⟨by rw [mkB_size]; exact Kt6.out⟩
        have K7 := Kept.mk (sides_any (mkB LL.flatten) LL w7 Kd.out Kt2.out (by have := Ksz.out; omega))
        rw [t3, t4] at K7
        rw [← Kt5.out]
        clear hb7 K6 t3 t4
        go_wp2_with fail
        refine Calls.mono K7.out (fun e w8 hp => ?_)
        obtain ⟨rfl, hb8⟩ := hp
        have KB8 := Kept.mk (KB7.out.trans (hb8.mono KB7.out.size))
        obtain ⟨W9, v9, hrun, hrd, hB9⟩ := text_rd w8 (mkB LL.flatten) (by have := Ksz.out; omega)
        have hln : lnS (strL (mkB LL.flatten)) = LL.map mkB := by
          have h := lnS_told Kt2.out
          rw [← Kd.out] at h
          exact h
        have K8 := Kept.mk (docLines_any v9 (strL (mkB LL.flatten)) W9 hrd (by rw [strL_length]; have := Ksz.out; omega))
        rw [hln] at K8
        obtain ⟨a9, c9, hv9, -⟩ := hrd.form
        rw [hv9] at K8 hrun
        have KB9 := Kept.mk (KB8.out.trans (hB9.mono KB8.out.size))
        clear hb8 K7 hrd hB9 hln hv9
        go_wp2_with fail
        refine Calls.mono K8.out (fun e w10 hp => ?_)
        obtain ⟨v10, rfl, ho10, hb10⟩ := hp
        obtain ⟨p10, c10, hv10⟩ := ho10.form
        subst hv10
        have KB10 := Kept.mk (KB9.out.trans (hb10.mono KB9.out.size))
        have KO := Kept.mk ho10.rd
        have KL : Kept (∀ i l, LL[i]? = some l → ∃ b off, p10 = some ⟨b, off, none⟩ ∧ w10.cell? ⟨b, off + i, none⟩ = some (.string (mkB l))) := ⟨fun i l hl => by
          obtain ⟨p', c', he, -, hr⟩ := KO.out
          have h0 : 0 < ((LL.map mkB).map Value.string).length := by rw [List.length_map, List.length_map]; have := (List.getElem?_eq_some_iff.1 hl).1; omega
          obtain ⟨b, off, hp, -, hrr⟩ := hr h0
          injection he with e1 e2 e3
          exact ⟨b, off, by rw [e1, hp], hrr i _ (by rw [List.getElem?_map, List.getElem?_map, hl]; rfl)⟩⟩
        rw [List.length_map]
        have hcA := KcA.out w10 KB10.out
        have hcB := KcB.out w10 KB10.out
        have qA : ((strOfNums xs).toList == (strOfNums xs).toList) = true := beq_self_eq_true _
        have qB : ((strOfNums ys).toList == (strOfNums ys).toList) = true := beq_self_eq_true _
        generalize strOfNums xs = sx at *
        generalize strOfNums ys = sy at *
        clear K8 ho10 hb10 hrun KO KcA KcB
        go_upto_region 13 with fail
        go_loopw [14, 99] (fun cv iv wr => ∃ i : Nat, i ≤ LL.length ∧ cv = .int .i64 (sdC (LL.take i) : Nat) ∧ iv = .int .i64 i ∧ wr = w10) (fun _ iv _ => LL.length - (intOf iv).toNat)
        case atStart => exact ⟨0, Nat.zero_le _, rfl, rfl, rfl⟩
        case round =>
          obtain ⟨i, hil, rfl, rfl, rfl⟩ := hrel
          by_cases hlt : i < LL.length
          · have hii : (i : Int) < (LL.length : Int) := by omega
            have m0 : (0 : Int) ≤ (i : Int) := by omega
            have m1 : IntKind.i64.wrap ((i : Int) + 1) = (i : Int) + 1 := wr64 (by omega) (by omega)
            obtain ⟨l, hl⟩ : ∃ l, LL[i]? = some l := ⟨_, List.getElem?_eq_getElem hlt⟩
            obtain ⟨b, off, hp, hcell⟩ := KL.out i l hl
            subst hp
            obtain ⟨-, -, e3⟩ := sd_snoc hl
            have hle := sdC_le (LL.take i)
            rw [List.length_take] at hle
            obtain ⟨sg, s, rfl, hsg, -⟩ := Kt2.out l (List.mem_of_getElem? hl)
            have hidx := mkB_idx sg s wr
            have hz : (0 : Int) < ((mkB (sg :: s)).size : Int) := by rw [mkB_size, List.length_cons]; omega
            have m2 : IntKind.i64.wrap (((sdC (LL.take i) : Nat) : Int) + 1) = ((sdC (LL.take i) : Nat) : Int) + 1 := wr64 (by omega) (by omega)
            by_cases hsp : sg = 32
            · subst hsp
              have KC : Kept (sdC (LL.take (i + 1)) = sdC (LL.take i)) := ⟨by rw [e3]; rfl⟩
              have hbyte : (((32 : UInt8).toNat : Nat) : Int) = 32 := rfl
              rw [hbyte] at hidx
              clear e3 hl hle hbyte hsg
              generalize mkB (32 :: s) = S1 at *
              go_wp2
              go_roundw
              case rel => exact ⟨i + 1, hlt, by rw [KC.out], by go_num, trivial⟩
              case measure => simp [intOf]; omega
            · have KC : Kept (sdC (LL.take (i + 1)) = sdC (LL.take i) + 1) := ⟨by rw [e3]; show _ + (if sg = 32 then 0 else 1) = _; rw [if_neg hsp]⟩
              have hne : (((sg.toNat : Nat) : Int) == 32) = false := by
                apply beq_eq_false_iff_ne.2
                intro e
                apply hsp
                apply UInt8.toNat_inj.1
                have : sg.toNat = 32 := by omega
                rw [this]; rfl
              generalize ((sg.toNat : Nat) : Int) = z at *
              clear e3 hl hle hsg hsp
              generalize mkB (sg :: s) = S1 at *
              go_wp2
              go_roundw
              case rel => exact ⟨i + 1, hlt, by rw [KC.out]; go_num, by go_num, trivial⟩
              case measure => simp [intOf]; omega
          · have hii : ¬ (i : Int) < (LL.length : Int) := by omega
            obtain rfl : i = LL.length := by omega
            rw [List.take_length]
            have hq : (((sdC LL : Nat) : Int) == ((sdC LL : Nat) : Int)) = true := beq_self_eq_true _
            go_wp2
            go_ret
            exact ⟨rfl, KB10.out⟩
      · skip
        obtain ⟨bb, ob, xb, hpb, -, ccb, hlb⟩ := last_of Kb1.out (by omega)
        subst hpb
        have b1 : (0 : Int) < (ys.length : Int) := by omega
        have b2 : IntKind.i64.wrap ((ys.length : Int) - 1) = (ys.length : Int) - 1 := wr64 (by omega) (by omega)
        have b3 : (0 : Int) ≤ (ys.length : Int) - 1 := by omega
        have b4 : (ys.length : Int) - 1 < (ys.length : Int) := by omega
        have b5 : ((ys.length : Int) - 1).toNat = ys.length - 1 := by omega
        by_cases eb : xb = 10
        · subst eb
          have ey : ys = [] ∨ ys.getLast? = some 10 := .inr hlb
          clear za zb hla hlb
          have KT := Kept.mk (told_texts KX.out KY.out ex ey lx ly)
          have K1 := Kept.mk (KLa.out w1 KB1.out)
          clear ex ey
          go_wp2_with fail
          refine Calls.mono K1.out (fun e w2 hp => ?_)
          obtain ⟨p2, c2, rfl, -, hb2⟩ := hp
          have KB2 := Kept.mk (KB1.out.trans (hb2.mono KB1.out.size))
          have K2 := Kept.mk (KLb.out w2 KB2.out)
          clear hb2 K1
          by_cases j3 : (300 : Int) < ((lnS xs).length : Int)
          · go_wp2
            go_ret
            exact ⟨rfl, KB2.out⟩
          go_wp2_with fail
          refine Calls.mono K2.out (fun e w3 hp => ?_)
          obtain ⟨p3, c3, rfl, -, hb3⟩ := hp
          have KB3 := Kept.mk (KB2.out.trans (hb3.mono KB2.out.size))
          have K3 := Kept.mk (KLa.out w3 KB3.out)
          clear hb3 K2
          by_cases j4 : (300 : Int) < ((lnS ys).length : Int)
          · go_wp2
            go_ret
            exact ⟨rfl, KB3.out⟩
          obtain ⟨LL, t1, t2, t3, t4, t5, t6, t7⟩ := KT.out
          have KzX : Kept (∀ s ∈ lnS xs, s.size ≤ maxLen) := ⟨fun s hs => by have := wt_size rfl s hs; unfold maxLen; omega⟩
          have KzY : Kept (∀ s ∈ lnS ys, s.size ≤ maxLen) := ⟨fun s hs => by have := wt_size rfl s hs; unfold maxLen; omega⟩
          have KcA : Kept (∀ W, Below w.heap.size w W → (convert 42 9 (.slice (some ⟨ba, oa, none⟩) xs.length ca)).run Try.prog W = .ok (.string (strOfNums xs)) W) := ⟨fun W hW => text_of (KA.out.later hW (Nat.le_refl _))⟩
          have KcB : Kept (∀ W, Below w.heap.size w W → (convert 42 9 (.slice (some ⟨bb, ob, none⟩) ys.length cb)).run Try.prog W = .ok (.string (strOfNums ys)) W) := ⟨fun W hW => text_of (KBb.out.later hW (Nat.le_refl _))⟩
          have Kt1 := Kept.mk t1
          have Kt2 := Kept.mk t2
          have Kt5 := Kept.mk t5
          have Kt6 := Kept.mk t6
          clear t1 t2 t5 KT
          go_wp2_with fail
          refine Calls.mono K3.out (fun e w4 hp => ?_)
          obtain ⟨p4, c4, rfl, hr4, hb4⟩ := hp
          have KB4 := Kept.mk (KB3.out.trans (hb4.mono KB3.out.size))
          have KX4 := Kept.mk hr4
          have K4 := Kept.mk (KLb.out w4 KB4.out)
          clear hb4 hr4 K3
          go_wp2_with fail
          refine Calls.mono K4.out (fun e w5 hp => ?_)
          obtain ⟨p5, c5, rfl, hr5, hb5⟩ := hp
          have KB5 := Kept.mk (KB4.out.trans (hb5.mono KB4.out.size))
          have KX5 := Kept.mk (KX4.out.later hb5 (Nat.le_refl _))
          have KY5 := Kept.mk hr5
          have K5 := Kept.mk (textAll_any _ _ (lnS xs) (lnS ys) w5 KX5.out KY5.out KzX.out KzY.out (by omega) (by omega) (by rw [Kt1.out]; omega))
          rw [Kt1.out] at K5
          clear hb5 hr5 K4 KX4
          go_wp2_with fail
          refine Calls.mono K5.out (fun e w6 hp => ?_)
          obtain ⟨hb6, rfl⟩ := hp
          have KB6 := Kept.mk (KB5.out.trans (hb6.mono KB5.out.size))
          have K6 : Kept (Calls Try.prog 13 #[.slice p4 (lnS xs).length c4, .slice p5 (lnS ys).length c5] w6 fun e w' => e = .returned (.tuple #[.int .i64 (rst (lnS xs) (lnS ys) : Nat), .int .i64 0]) ∧ Below w6.heap.size w6 w') := ⟨by
            have h := rest_any _ _ (lnS xs) (lnS ys) w6 (KX5.out.later hb6 (Nat.le_refl _)) (KY5.out.later hb6 (Nat.le_refl _)) KzX.out KzY.out
            rw [if_neg (by unfold longB; simp; omega)] at h
            exact h⟩
          clear hb6 K5
          go_wp2_with fail
          refine Calls.mono K6.out (fun e w7 hp => ?_)
          obtain ⟨rfl, hb7⟩ := hp
          have KB7 := Kept.mk (KB6.out.trans (hb7.mono KB6.out.size))
          have Kd : Kept ((mkB LL.flatten).data.toList = LL.flatten) := ⟨by simp [mkB]⟩
          have Ksz : Kept ((mkB LL.flatten).size ≤ 100000) := ⟨by rw [mkB_size]; exact Kt6.out⟩
          have K7 := Kept.mk (sides_any (mkB LL.flatten) LL w7 Kd.out Kt2.out (by have := Ksz.out; omega))
          rw [t3, t4] at K7
          rw [← Kt5.out]
          clear hb7 K6 t3 t4
          go_wp2_with fail
          refine Calls.mono K7.out (fun e w8 hp => ?_)
          obtain ⟨rfl, hb8⟩ := hp
          have KB8 := Kept.mk (KB7.out.trans (hb8.mono KB7.out.size))
          obtain ⟨W9, v9, hrun, hrd, hB9⟩ := text_rd w8 (mkB LL.flatten) (by have := Ksz.out; omega)
          have hln : lnS (strL (mkB LL.flatten)) = LL.map mkB := by
            have h := lnS_told Kt2.out
            rw [← Kd.out] at h
            exact h
          have K8 := Kept.mk (docLines_any v9 (strL (mkB LL.flatten)) W9 hrd (by rw [strL_length]; have := Ksz.out; omega))
          rw [hln] at K8
          obtain ⟨a9, c9, hv9, -⟩ := hrd.form
          rw [hv9] at K8 hrun
          have KB9 := Kept.mk (KB8.out.trans (hB9.mono KB8.out.size))
          clear hb8 K7 hrd hB9 hln hv9
          go_wp2_with fail
          refine Calls.mono K8.out (fun e w10 hp => ?_)
          obtain ⟨v10, rfl, ho10, hb10⟩ := hp
          obtain ⟨p10, c10, hv10⟩ := ho10.form
          subst hv10
          have KB10 := Kept.mk (KB9.out.trans (hb10.mono KB9.out.size))
          have KO := Kept.mk ho10.rd
          have KL : Kept (∀ i l, LL[i]? = some l → ∃ b off, p10 = some ⟨b, off, none⟩ ∧ w10.cell? ⟨b, off + i, none⟩ = some (.string (mkB l))) := ⟨fun i l hl => by
            obtain ⟨p', c', he, -, hr⟩ := KO.out
            have h0 : 0 < ((LL.map mkB).map Value.string).length := by rw [List.length_map, List.length_map]; have := (List.getElem?_eq_some_iff.1 hl).1; omega
            obtain ⟨b, off, hp, -, hrr⟩ := hr h0
            injection he with e1 e2 e3
            exact ⟨b, off, by rw [e1, hp], hrr i _ (by rw [List.getElem?_map, List.getElem?_map, hl]; rfl)⟩⟩
          rw [List.length_map]
          have hcA := KcA.out w10 KB10.out
          have hcB := KcB.out w10 KB10.out
          have qA : ((strOfNums xs).toList == (strOfNums xs).toList) = true := beq_self_eq_true _
          have qB : ((strOfNums ys).toList == (strOfNums ys).toList) = true := beq_self_eq_true _
          generalize strOfNums xs = sx at *
          generalize strOfNums ys = sy at *
          clear K8 ho10 hb10 hrun KO KcA KcB
          go_upto_region 13 with fail
          go_loopw [14, 99] (fun cv iv wr => ∃ i : Nat, i ≤ LL.length ∧ cv = .int .i64 (sdC (LL.take i) : Nat) ∧ iv = .int .i64 i ∧ wr = w10) (fun _ iv _ => LL.length - (intOf iv).toNat)
          case atStart => exact ⟨0, Nat.zero_le _, rfl, rfl, rfl⟩
          case round =>
            obtain ⟨i, hil, rfl, rfl, rfl⟩ := hrel
            by_cases hlt : i < LL.length
            · have hii : (i : Int) < (LL.length : Int) := by omega
              have m0 : (0 : Int) ≤ (i : Int) := by omega
              have m1 : IntKind.i64.wrap ((i : Int) + 1) = (i : Int) + 1 := wr64 (by omega) (by omega)
              obtain ⟨l, hl⟩ : ∃ l, LL[i]? = some l := ⟨_, List.getElem?_eq_getElem hlt⟩
              obtain ⟨b, off, hp, hcell⟩ := KL.out i l hl
              subst hp
              obtain ⟨-, -, e3⟩ := sd_snoc hl
              have hle := sdC_le (LL.take i)
              rw [List.length_take] at hle
              obtain ⟨sg, s, rfl, hsg, -⟩ := Kt2.out l (List.mem_of_getElem? hl)
              have hidx := mkB_idx sg s wr
              have hz : (0 : Int) < ((mkB (sg :: s)).size : Int) := by rw [mkB_size, List.length_cons]; omega
              have m2 : IntKind.i64.wrap (((sdC (LL.take i) : Nat) : Int) + 1) = ((sdC (LL.take i) : Nat) : Int) + 1 := wr64 (by omega) (by omega)
              by_cases hsp : sg = 32
              · subst hsp
                have KC : Kept (sdC (LL.take (i + 1)) = sdC (LL.take i)) := ⟨by rw [e3]; rfl⟩
                have hbyte : (((32 : UInt8).toNat : Nat) : Int) = 32 := rfl
                rw [hbyte] at hidx
                clear e3 hl hle hbyte hsg
                generalize mkB (32 :: s) = S1 at *
                go_wp2
                go_roundw
                case rel => exact ⟨i + 1, hlt, by rw [KC.out], by go_num, trivial⟩
                case measure => simp [intOf]; omega
              · have KC : Kept (sdC (LL.take (i + 1)) = sdC (LL.take i) + 1) := ⟨by rw [e3]; show _ + (if sg = 32 then 0 else 1) = _; rw [if_neg hsp]⟩
                have hne : (((sg.toNat : Nat) : Int) == 32) = false := by
                  apply beq_eq_false_iff_ne.2
                  intro e
                  apply hsp
                  apply UInt8.toNat_inj.1
                  have : sg.toNat = 32 := by omega
                  rw [this]; rfl
                generalize ((sg.toNat : Nat) : Int) = z at *
                clear e3 hl hle hsg hsp
                generalize mkB (sg :: s) = S1 at *
                go_wp2
                go_roundw
                case rel => exact ⟨i + 1, hlt, by rw [KC.out]; go_num, by go_num, trivial⟩
                case measure => simp [intOf]; omega
            · have hii : ¬ (i : Int) < (LL.length : Int) := by omega
              obtain rfl : i = LL.length := by omega
              rw [List.take_length]
              have hq : (((sdC LL : Nat) : Int) == ((sdC LL : Nat) : Int)) = true := beq_self_eq_true _
              go_wp2
              go_ret
              exact ⟨rfl, KB10.out⟩
        · skip
          have nb : (xb == (10 : Int)) = false := beq_eq_false_iff_ne.2 eb
          go_wp2
          go_ret
          exact ⟨rfl, KB1.out⟩
    · skip
      have na : (xa == (10 : Int)) = false := beq_eq_false_iff_ne.2 ea
      go_wp2
      go_ret
      exact ⟨rfl, KB1.out⟩
end Go.Proofs.Ytjhcpmhjdhmjpaa
