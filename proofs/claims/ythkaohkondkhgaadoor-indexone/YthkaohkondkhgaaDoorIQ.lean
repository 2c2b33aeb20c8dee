/-
  The document's reading of slots, and the program's: the same.
-/
import Derived.Test.YthkaohkondkhgaaDoorIP
import Derived.Test.YthkaohkondkhgaaDoorN32
namespace Go.Proofs.YthkaohkondkhgaaDoor
open Go.RowKit

/-- How many bytes that are not 0 stand from 74 on. -/
def zn (R : List Int) : Nat := ((R.drop 74).takeWhile (fun x => x != 0)).length
def dsF (R : List Int) : SlC := ⟨strOfNums ((R.drop 74).take (zn R)), (R.getD 72 0) / 16 % 4, Nu.bigT R 24 4, (R.take 72).drop 40, Nu.bigT R 36 4, Nu.bigT R 8 4⟩
theorem zn_le (R : List Int) : zn R ≤ R.length - 74 := by
  unfold zn
  have := (List.takeWhile_prefix (fun x : Int => x != 0) (l := R.drop 74)).length_le
  rwa [List.length_drop] at this
def dSlots (R : List Int) : Option (List SlC) :=
  if R.length = 0 then some [] else if 75 ≤ R.length then (dSlots (R.drop (slz (zn R)))).map (dsF R :: ·) else none
termination_by R.length
decreasing_by
  rw [List.length_drop]
  have := slz_80 (zn R)
  omega
theorem dSlots_nil {R : List Int} (h : R.length = 0) : dSlots R = some [] := by rw [dSlots, if_pos h]
theorem dSlots_none {R : List Int} (h : R.length ≠ 0) (h2 : ¬ 75 ≤ R.length) : dSlots R = none := by rw [dSlots, if_neg h, if_neg h2]
theorem dSlots_step {R : List Int} (h : 75 ≤ R.length) : dSlots R = (dSlots (R.drop (slz (zn R)))).map (dsF R :: ·) := by rw [dSlots, if_neg (by omega), if_pos h]
theorem mem_cutL : ∀ (s : List UInt8) {c : UInt8}, c ≠ 47 → c ∈ s → ∃ p ∈ cutL s, c ∈ p
  | [], _, _, h => by cases h
  | x :: s, c, hc, h => by
    by_cases hx : x = 47
    · subst hx
      rcases List.mem_cons.1 h with rfl | h
      · exact absurd rfl hc
      · obtain ⟨p, hp, hcp⟩ := mem_cutL s hc h
        refine ⟨p, ?_, hcp⟩
        have := cutL_at [] s (by simp)
        rw [List.nil_append] at this
        rw [this]
        exact List.mem_cons_of_mem _ hp
    · by_cases h2 : c ∈ s
      · obtain ⟨p, hp, hcp⟩ := mem_cutL s hc h2
        unfold cutL
        rw [if_neg hx]
        cases hq : cutL s with
        | nil => rw [hq] at hp; cases hp
        | cons q qs =>
          rw [hq] at hp
          rcases List.mem_cons.1 hp with rfl | hp
          · exact ⟨x :: p, List.mem_cons_self, List.mem_cons_of_mem _ hcp⟩
          · exact ⟨p, List.mem_cons_of_mem _ hp, hcp⟩
      · have hcx : c = x := (List.mem_cons.1 h).resolve_right h2
        subst hcx
        unfold cutL
        rw [if_neg hx]
        cases hq : cutL s with
        | nil => exact ⟨[c], by simp, by simp⟩
        | cons q qs => exact ⟨c :: q, List.mem_cons_self, List.mem_cons_self⟩
theorem path_nz {s : ByteArray} (h : pathF s = true) : ∀ x ∈ ptB s, (x != 0) = true := by
  intro x hx
  unfold ptB at hx
  obtain ⟨b, hb, rfl⟩ := List.mem_map.1 hx
  have hb0 : b ≠ 0 := by
    rintro rfl
    obtain ⟨p, hp, h0⟩ := mem_cutL s.data.toList (by decide) hb
    rw [← parts_cut, List.mem_map] at hp
    obtain ⟨q, hq, rfl⟩ := hp
    unfold pathF at h
    rw [Bool.and_eq_true, List.all_eq_true] at h
    have hn := h.2 q hq
    unfold nameF at hn
    simp only [Bool.and_eq_true, Bool.not_eq_true'] at hn
    have := (any_iff [47, 0] q.data.toList).1 hn.1.1.1.2 0 h0
    exact absurd this (by decide)
  have : b.toNat ≠ 0 := fun h => hb0 (by
    apply UInt8.toNat_inj.1
    simpa using h)
  simp
  omega
theorem take_while_app : ∀ (a b : List Int), (∀ x ∈ a, (x != 0) = true) → (a ++ 0 :: b).takeWhile (fun x => x != 0) = a
  | [], b, _ => by simp
  | x :: a, b, h => by
    have h1 := h x List.mem_cons_self
    rw [List.cons_append, List.takeWhile_cons, if_pos h1, take_while_app a b fun y hy => h y (List.mem_cons_of_mem _ hy)]
theorem ds_sb {e : SlC} (h : FitZ e) (hp : pathF e.pt = true) (R : List Int) : dsF (sbL e ++ R) = e ∧ zn (sbL e ++ R) = e.pt.size := by
  have hf := (fs_sb h R).1
  have h0 := h
  obtain ⟨he, s0, s1, z0, z1, t0, t1, m0, m1, hp2⟩ := h
  have r8 : (rz 8).length = 8 := List.length_replicate
  have r12 : (rz 12).length = 12 := List.length_replicate
  have b1 : (Nu.bigF 4 e.tm).length = 4 := Nu.bigF_length _ _
  have b2 : (Nu.bigF 4 e.md).length = 4 := Nu.bigF_length _ _
  have b3 : (Nu.bigF 4 e.sz).length = 4 := Nu.bigF_length _ _
  have b4 : (Nu.bigF 2 (4096 * e.st + e.pt.size)).length = 2 := Nu.bigF_length _ _
  have hi := he.1
  have hpl := ptB_length e.pt
  have hge := slz_ge e.pt.size
  have hX := sb_rest e R
  generalize sbL e ++ R = X at *
  have g72 : X.getD 72 0 = (4096 * e.st + e.pt.size) / 256 % 256 := by
    have hc : Nu.bigF 2 (4096 * e.st + (e.pt.size : Int)) = [(4096 * e.st + (e.pt.size : Int)) / 2 ^ (8 * 1) % 256, (4096 * e.st + (e.pt.size : Int)) / 2 ^ (8 * 0) % 256] := rfl
    have : X = (rz 8 ++ Nu.bigF 4 e.tm ++ rz 12 ++ Nu.bigF 4 e.md ++ rz 8 ++ Nu.bigF 4 e.sz ++ e.ids) ++ (Nu.bigF 2 (4096 * e.st + e.pt.size) ++ (ptB e.pt ++ (rz (slz e.pt.size - 74 - e.pt.size) ++ R))) := by
      rw [hX]; simp only [List.append_assoc]
    rw [this, List.getD_eq_getElem?_getD, List.getElem?_append_right (by simp only [List.length_append]; omega), show 72 - (rz 8 ++ Nu.bigF 4 e.tm ++ rz 12 ++ Nu.bigF 4 e.md ++ rz 8 ++ Nu.bigF 4 e.sz ++ e.ids).length = 0 by simp only [List.length_append]; omega, hc]
    rfl
  have gD : X.drop 74 = ptB e.pt ++ (rz (slz e.pt.size - 74 - e.pt.size) ++ R) := by
    have : X = (rz 8 ++ Nu.bigF 4 e.tm ++ rz 12 ++ Nu.bigF 4 e.md ++ rz 8 ++ Nu.bigF 4 e.sz ++ e.ids ++ Nu.bigF 2 (4096 * e.st + e.pt.size)) ++ (ptB e.pt ++ (rz (slz e.pt.size - 74 - e.pt.size) ++ R)) := by
      rw [hX]; simp only [List.append_assoc]
    rw [this, List.drop_append_of_le_length (by simp only [List.length_append]; omega), List.drop_of_length_le (by simp only [List.length_append]; omega), List.nil_append]
  have gz : zn X = e.pt.size := by
    obtain ⟨k, hk⟩ : ∃ k, slz e.pt.size - 74 - e.pt.size = k + 1 := ⟨slz e.pt.size - 75 - e.pt.size, by omega⟩
    unfold zn
    rw [gD, hk, show rz (k + 1) = 0 :: rz k from rfl, List.cons_append, take_while_app _ _ (path_nz hp), hpl]
  refine ⟨?_, gz⟩
  have gP : (X.drop 74).take (zn X) = ptB e.pt := by
    rw [gz, gD, ← hpl, List.take_left]
  have hs : (X.getD 72 0) / 16 % 4 = e.st := by rw [g72]; omega
  unfold dsF
  unfold fsF at hf
  rw [gP, hs, str_pt]
  have hf2 := congrArg SlC.md hf
  have hf3 := congrArg SlC.ids hf
  have hf4 := congrArg SlC.sz hf
  have hf5 := congrArg SlC.tm hf
  simp only at hf2 hf3 hf4 hf5
  rw [hf2, hf3, hf4, hf5]
theorem unn_path {es : List SlC} (h : es.any unnF = false) : ∀ e ∈ es, pathF e.pt = true := by
  intro e he
  rw [List.any_eq_false] at h
  have := h e he
  unfold unnF at this
  simpa using this
theorem dslots_flat : ∀ {es : List SlC}, (∀ e ∈ es, FitZ e) → (∀ e ∈ es, pathF e.pt = true) → dSlots (es.flatMap sbL) = some es
  | [], _, _ => dSlots_nil rfl
  | e :: es, h, hp => by
    have h1 := h e List.mem_cons_self
    obtain ⟨f1, f2⟩ := ds_sb h1 (hp e List.mem_cons_self) (es.flatMap sbL)
    have hl : 75 ≤ (sbL e ++ es.flatMap sbL).length := by
      rw [List.length_append, sb_len e h1.1.1]
      have := slz_80 e.pt.size
      omega
    rw [List.flatMap_cons, dSlots_step hl, f1, f2, ← sb_len e h1.1.1, List.drop_left, dslots_flat (fun x hx => h x (List.mem_cons_of_mem _ hx)) (fun x hx => hp x (List.mem_cons_of_mem _ hx))]
    rfl
theorem ds_ok {R : List Int} (hA : AllIn 0 256 R) (h : 75 ≤ R.length) (hl : R.length ≤ 3000000) : (dsF R).ok := by
  have hB := fun t (n : Nat) => bigT_bound hA t n
  have h4 : ∀ t, 0 ≤ Nu.bigT R t 4 ∧ Nu.bigT R t 4 < 4294967296 := fun t => by
    have := hB t 4
    exact ⟨this.1, by simpa using this.2⟩
  have hz := zn_le R
  refine ⟨?_, ?_, ?_, ?_, ?_, ?_, ?_⟩
  · show ((R.take 72).drop 40).length = 32
    rw [List.length_drop, List.length_take]
    omega
  · exact (hA.take 72).drop 40
  · unfold dsF i64B
    simp only
    omega
  · have := h4 24
    unfold dsF i64B
    simp only
    omega
  · have := h4 36
    unfold dsF i64B
    simp only
    omega
  · have := h4 8
    unfold dsF i64B
    simp only
    omega
  · show (strOfNums _).size ≤ _
    rw [strOfNums_size, List.length_take, List.length_drop]
    omega
theorem dSlots_ok : ∀ (n : Nat) (R : List Int), R.length ≤ n → AllIn 0 256 R → R.length ≤ 3000000 → ∀ l, dSlots R = some l → (∀ e ∈ l, e.ok) ∧ l.length ≤ R.length
  | 0, R, hn, _, _, l, h => by
    rw [dSlots_nil (by omega)] at h
    injection h with h
    subst h
    exact ⟨(fun e he => by cases he), Nat.zero_le _⟩
  | n + 1, R, hn, hA, hl, l, h => by
    by_cases h0 : R.length = 0
    · rw [dSlots_nil h0] at h
      injection h with h
      subst h
      exact ⟨(fun e he => by cases he), Nat.zero_le _⟩
    · by_cases h7 : 75 ≤ R.length
      · rw [dSlots_step h7] at h
        have hs := slz_80 (zn R)
        cases hd : dSlots (R.drop (slz (zn R))) with
        | none => rw [hd] at h; cases h
        | some m =>
          rw [hd] at h
          injection h with h
          subst h
          obtain ⟨h1, h2⟩ := dSlots_ok n (R.drop (slz (zn R))) (by rw [List.length_drop]; omega) (hA.drop _) (by rw [List.length_drop]; omega) m hd
          rw [List.length_drop] at h2
          refine ⟨fun e he => ?_, by rw [List.length_cons]; omega⟩
          rcases List.mem_cons.1 he with rfl | he
          · exact ds_ok hA h7 hl
          · exact h1 e he
      · rw [dSlots_none h0 h7] at h
        cases h
def dpD (xs : List Int) : Option (List SlC) := dSlots ((xs.take (xs.length - 32)).drop 12)
/-- The document's error of bytes. -/
def dpE (xs : List Int) : Int := if 2097152 < xs.length then 2 else if xs.length < 44 then 4 else match dpD xs with
  | none => 4
  | some l => if ¬ chkE l = 0 then 4 else if ¬ bodL l = xs.take (xs.length - 32) then 4 else if ¬ bodL l ++ sumB (bodL l) = xs then 6 else 0
theorem bod_drop (l : List SlC) : (bodL l).drop 12 = l.flatMap sbL := by
  unfold bodL
  have hl : (headB ++ Nu.bigF 4 (l.length : Int)).length = 12 := by rw [List.length_append, Nu.bigF_length]; rfl
  rw [List.drop_append_of_le_length (by omega), List.drop_of_length_le (by omega), List.nil_append]
theorem dp_prs {xs : List Int} (hA : AllIn 0 256 xs) : dpE xs = prsE xs ∧ (prsE xs = 0 → dpD xs = some (prsL xs)) := by
  unfold dpE
  by_cases h1 : 2097152 < xs.length
  · have : prsE xs = 2 := by unfold prsE; rw [if_pos h1]
    rw [if_pos h1, this]
    exact ⟨rfl, fun h => absurd h (by decide)⟩
  rw [if_neg h1]
  by_cases h2 : xs.length < 44
  · have : prsE xs = 4 := by unfold prsE; rw [if_neg h1, if_pos h2]
    rw [if_pos h2, this]
    exact ⟨rfl, fun h => absurd h (by decide)⟩
  rw [if_neg h2]
  have hQl : (xs.take (xs.length - 32)).length = xs.length - 32 := by rw [List.length_take]; omega
  have hSok : ∀ e ∈ prsS xs, e.ok := slotsF_ok _ _ (Nat.le_refl _) ((hA.take _).drop _)
  -- what is a body of right slots is read alike
  have key : ∀ l : List SlC, (∀ e ∈ l, e.ok) → chkE l = 0 → bodL l = xs.take (xs.length - 32) → dpD xs = some l ∧ prsS xs = l := by
    intro l hok hc hb
    have hfit := fit_of hok hc
    unfold dpD prsS
    rw [← hb, bod_drop]
    exact ⟨dslots_flat hfit (unn_path (chk_ok.1 hc).2.2.1), slots_flat hfit⟩
  by_cases hG : chkE (prsS xs) = 0 ∧ bodL (prsS xs) = xs.take (xs.length - 32)
  · obtain ⟨hc, hb⟩ := hG
    obtain ⟨hd, -⟩ := key _ hSok hc hb
    rw [hd]
    simp only
    rw [if_neg (by simp [hc]), if_neg (by simp [hb])]
    have hpl := put_len hc
    have hbl : (bodL (prsS xs)).length = xs.length - 32 := by rw [hb, hQl]
    have hP : putF (prsS xs) = bodL (prsS xs) ++ sumB (bodL (prsS xs)) := by unfold putF; rw [if_pos hc]
    have ht : (putF (prsS xs)).take (xs.length - 32) = xs.take (xs.length - 32) := by rw [hP, List.take_append_of_le_length (by omega), ← hb]; exact List.take_of_length_le (by omega)
    have hiff : (putF (prsS xs)).drop (xs.length - 32) = xs.drop (xs.length - 32) ↔ bodL (prsS xs) ++ sumB (bodL (prsS xs)) = xs := by
      rw [← hP]
      constructor
      · intro hd
        rw [← List.take_append_drop (xs.length - 32) (putF (prsS xs)), ht, hd, List.take_append_drop]
      · intro hd
        rw [hd]
    have hE : prsE xs = if ¬ bodL (prsS xs) ++ sumB (bodL (prsS xs)) = xs then 6 else 0 := by
      unfold prsE
      rw [if_neg h1, if_neg h2, if_neg (by simp [hc]), if_neg (by omega), if_neg (by simp [ht])]
      by_cases hz : bodL (prsS xs) ++ sumB (bodL (prsS xs)) = xs
      · rw [if_neg (by rw [hiff.2 hz]; simp), if_neg (by simp [hz])]
      · rw [if_pos (fun h => hz (hiff.1 h)), if_pos hz]
    rw [hE]
    refine ⟨rfl, fun h => ?_⟩
    unfold prsL
    rw [hE, if_pos h]
  · have hE : prsE xs = 4 := by
      unfold prsE
      rw [if_neg h1, if_neg h2]
      by_cases hc : chkE (prsS xs) = 0
      · rw [if_neg (by simp [hc])]
        split
        · rfl
        · rename_i hl
          rw [if_pos]
          intro ht
          apply hG
          refine ⟨hc, ?_⟩
          have hpl := put_len hc
          have hP : putF (prsS xs) = bodL (prsS xs) ++ sumB (bodL (prsS xs)) := by unfold putF; rw [if_pos hc]
          rw [← ht, hP, show xs.length - 32 = (bodL (prsS xs)).length by omega, List.take_left]
      · rw [if_pos hc]
    rw [hE]
    refine ⟨?_, fun h => absurd h (by decide)⟩
    cases hd : dpD xs with
    | none => rfl
    | some l =>
      simp only
      by_cases hc : chkE l = 0
      · rw [if_neg (by simp [hc])]
        by_cases hb : bodL l = xs.take (xs.length - 32)
        · exfalso
          have hok := (dSlots_ok _ _ (Nat.le_refl _) ((hA.take _).drop _) (by rw [List.length_drop, hQl]; omega) l hd).1
          have := (key l hok hc hb).2
          apply hG
          rw [this]
          exact ⟨hc, hb⟩
        · rw [if_pos hb]
      · rw [if_pos hc]
end Go.Proofs.YthkaohkondkhgaaDoor
